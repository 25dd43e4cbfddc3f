/-
  Contract of layer 16's Of: the fields of a kind, in a row of the call's own.
-/
import Derived.Test.YtnbhiamnoapmlaaFldP
import Derived.Test.YtnbhiamnoapmlaaQ9
import Derived.Test.YtnbhiamnoapmlaaQ10
namespace Go.Proofs.Ytnbhiamnoapmlaa
open Go.RowKit Go.Shelf
set_option maxRecDepth 100000
attribute [local go_sem] Oper.semAt_some

/-- fields that lie in a row of their own, at lo or above -/
def FdsAt (T : TypeId) (lo : Nat) (w : World) (A : Option Addr) (L : List Fd) : Prop := L ≠ [] → ∃ g, A = some ⟨g, 0, none⟩ ∧ lo ≤ g ∧ FRow T w g L
def OfR (T : TypeId) (L : List Fd) (w : World) (e : Ending) (w' : World) : Prop := ∃ A c, e = .returned (.slice A L.length c) ∧ L.length ≤ c ∧ FdsAt T w.heap.size w' A L ∧ Below w.heap.size w w'

theorem fd_block {w : World} {b : Nat} {T : TypeId} {f : Fd} (h : w.heap[b]? = some (.cells f.cs T (0, 0))) :
    w.cell? ⟨b, 0, none⟩ = some (.string f.nm) ∧ w.cell? ⟨b, 1, none⟩ = some (.int .i64 f.so) ∧ w.cell? ⟨b, 2, none⟩ = some (.int .i64 f.pl) ∧ w.cell? ⟨b, 3, none⟩ = some (.int .i64 f.le) ∧ w.cell? ⟨b, 4, none⟩ = some (.int .i64 f.mo) ∧ w.cell? ⟨b, 5, none⟩ = some (.int .i64 f.si) ∧ w.cell? ⟨b, 6, none⟩ = some (.int .i64 f.ab) := by
  refine ⟨?_, ?_, ?_, ?_, ?_, ?_, ?_⟩ <;> simp [World.cell?, h, Fd.cs]

theorem placed_of {k : Int} {n : Nat} {cs : Array Value} (hn : (raw k).length = n) (hp : 0 < n) (hcs : cs = (flat7 (raw k)).toArray) (w V : World) (hV : Below w.heap.size w V) :
    Calls Try.prog 44 #[.slice (some ⟨V.heap.size, 0, none⟩) n n] (V.alloc (.cells cs 65)) fun e w' => e = .returned (.slice (some ⟨V.heap.size, 0, none⟩) n n) ∧ OfR 65 (FD k) w (.returned (.slice (some ⟨V.heap.size, 0, none⟩) n n)) w' := by
  subst hcs
  refine (placed_any (raw k) (raw_so k) n n V.heap.size hn (by have := raw_few k; omega) _ (World.alloc_heap_new _ _)).mono ?_
  rintro e w' ⟨rfl, hO, hR⟩
  have hl : (FD k).length = n := by unfold FD; rw [pls_len]; exact hn
  refine ⟨rfl, _, _, by rw [hl], by omega, fun _ => ⟨_, rfl, hV.size, hR⟩, ?_⟩
  exact (hV.alloc hV.size _).trans (hO.below (fun k hk => by rw [hk]; exact hV.size) (by rw [World.size_alloc]; have := hV.size; omega))

set_option maxHeartbeats 4000000 in
theorem of_any (k : Int) (w : World) : Calls Try.prog 40 #[.int .i64 k] w fun e w' => OfR 65 (FD k) w e w' := by
  have O1 := fun W => old_any ⟨#[114, 111, 98, 111, 116]⟩ 1 0 65535 W
  have O2 := fun W => old_any ⟨#[122, 111, 110, 101]⟩ 1 0 4095 W
  unfold Fd.v Fd.cs at O1 O2
  rcases kind_ways k with rfl | rfl | rfl | rfl | rfl | ⟨h1, h2, h3, h4, h5⟩
  case' inr.inr.inr.inr.inr =>
    have n1 : (k == 1) = false := by simpa using h1
    have n2 : (k == 2) = false := by simpa using h2
    have n3 : (k == 3) = false := by simpa using h3
    have n4 : (k == 4) = false := by simpa using h4
    have n5 : (k == 5) = false := by simpa using h5
    have hFD : FD k = [] := by simp [FD, raw, h1, h2, h3, h4, h5, pls]
    clear h1 h2 h3 h4 h5
  all_goals
    go_enter Try.func40, Try.ntmps40
    go_wp2_with fail
    refine (O1 _).mono ?_
    rintro e w1 ⟨rfl, hb1⟩
    go_wp2_with fail
    refine (O2 _).mono ?_
    rintro e w2 ⟨rfl, hb2⟩
    have hs2 := hb2.size
    rw [World.size_alloc] at hs2
    have hR : ∀ V, Below (w2.alloc (.cells (Fd.cs ⟨⟨#[122, 111, 110, 101]⟩, 1, 0, 0, 4095, 1, 0⟩) 65)).heap.size (w2.alloc (.cells (Fd.cs ⟨⟨#[122, 111, 110, 101]⟩, 1, 0, 0, 4095, 1, 0⟩) 65)) V → _ := fun V hV =>
      fd_block (f := ⟨⟨#[114, 111, 98, 111, 116]⟩, 1, 0, 0, 65535, 1, 0⟩) (w := V) (b := w1.heap.size) (T := 65) ((hV.block _ (by rw [World.size_alloc]; omega)).trans ((Below.heap_alloc _ _ _ (by omega)).trans ((hb2.block _ (by rw [World.size_alloc]; omega)).trans (World.alloc_heap_new _ _))))
    have hZ : ∀ V, Below (w2.alloc (.cells (Fd.cs ⟨⟨#[122, 111, 110, 101]⟩, 1, 0, 0, 4095, 1, 0⟩) 65)).heap.size (w2.alloc (.cells (Fd.cs ⟨⟨#[122, 111, 110, 101]⟩, 1, 0, 0, 4095, 1, 0⟩) 65)) V → _ := fun V hV =>
      fd_block (f := ⟨⟨#[122, 111, 110, 101]⟩, 1, 0, 0, 4095, 1, 0⟩) (w := V) (b := w2.heap.size) (T := 65) ((hV.block _ (by rw [World.size_alloc]; omega)).trans (World.alloc_heap_new _ _))
    have hb : Below w.heap.size w (w2.alloc (.cells (Fd.cs ⟨⟨#[122, 111, 110, 101]⟩, 1, 0, 0, 4095, 1, 0⟩) 65)) := ((hb1.trans (((Below.refl w1.heap.size w1).alloc (Nat.le_refl _) _).mono hb1.size)).trans (hb2.mono (by rw [World.size_alloc]; have := hb1.size; omega))).alloc (by have := hb1.size; omega) _
    have HR := Lib.hid hR
    have HZ := Lib.hid hZ
    have HB := Lib.hid hb
    clear hR hZ hb hb1 hb2 hs2 O1 O2
    unfold Fd.cs at HR HZ HB
  · go_wp2
    go_ret
    rw [hFD]
    exact ⟨none, 0, rfl, Nat.le_refl _, fun h => absurd rfl h, HB.out⟩
  · go_wp2_with fail
    refine wp_region_FT 59 7 [] (fun _ _ _ => True) (fun V => Below (w2.alloc (.cells #[.string ⟨#[122, 111, 110, 101]⟩, .int .i64 1, .int .i64 0, .int .i64 0, .int .i64 4095, .int .i64 1, .int .i64 0] 65)).heap.size (w2.alloc (.cells #[.string ⟨#[122, 111, 110, 101]⟩, .int .i64 1, .int .i64 0, .int .i64 0, .int .i64 4095, .int .i64 1, .int .i64 0] 65)) V) (by kernel_rfl) (by kernel_rfl) (by rfl) (by kernel_rfl) (by kernel_rfl) (by kernel_rfl) (by rfl) (by simp) (fun V V' h hb => h.trans (hb.mono h.size)) (fun _ _ _ _ _ _ => trivial) (Below.refl _ _).drew ?_
    simp only [List.take_succ_cons, List.take_zero, List.drop_succ_cons, List.drop_zero]
    refine wpF_load (.agg #[.string ⟨#[114, 111, 98, 111, 116]⟩, .int .i64 1, .int .i64 0, .int .i64 0, .int .i64 65535, .int .i64 1, .int .i64 0]) rfl (by rfl) (by rfl) (by rfl) (fun V hV => by obtain ⟨d0, d1, d2, d3, d4, d5, d6⟩ := HR.out V hV; simp [Instr.loadAt, go_sem, d0, d1, d2, d3, d4, d5, d6]) ?_
    simp only [Act.put, List.setIfInBounds_toArray, List.set_cons_succ, List.set_cons_zero]
    refine wpF_call (f := 43) (args := #[.string ⟨#[115, 112, 101, 101, 100]⟩, .int .i64 1, .int .i64 1, .int .i64 5000]) (.agg #[.string ⟨#[115, 112, 101, 101, 100]⟩, .int .i64 1, .int .i64 0, .int .i64 1, .int .i64 5000, .int .i64 1, .int .i64 0]) rfl rfl (fun x => by first | rfl | (simp [go_sem]; done)) (fun V _ => old_any _ _ _ _ V) ?_
    simp only [Act.put, List.setIfInBounds_toArray, List.set_cons_succ, List.set_cons_zero]
    refine wpF_call (f := 43) (args := #[.string ⟨#[97, 99, 99, 101, 108]⟩, .int .i64 1, .int .i64 1, .int .i64 10000]) (.agg #[.string ⟨#[97, 99, 99, 101, 108]⟩, .int .i64 1, .int .i64 0, .int .i64 1, .int .i64 10000, .int .i64 1, .int .i64 0]) rfl rfl (fun x => by first | rfl | (simp [go_sem]; done)) (fun V _ => old_any _ _ _ _ V) ?_
    simp only [Act.put, List.setIfInBounds_toArray, List.set_cons_succ, List.set_cons_zero]
    refine wpF_call (f := 45) (args := #[.agg #[.string ⟨#[97, 99, 99, 101, 108]⟩, .int .i64 1, .int .i64 0, .int .i64 1, .int .i64 10000, .int .i64 1, .int .i64 0], .int .i64 500]) (.agg #[.string ⟨#[97, 99, 99, 101, 108]⟩, .int .i64 1, .int .i64 0, .int .i64 1, .int .i64 10000, .int .i64 2, .int .i64 500]) rfl rfl (fun x => by first | rfl | (simp [go_sem]; done)) (fun V _ => added_any ⟨⟨#[97, 99, 99, 101, 108]⟩, 1, 0, 1, 10000, 1, 0⟩ 500 V) ?_
    simp only [Act.put, List.setIfInBounds_toArray, List.set_cons_succ, List.set_cons_zero]
    refine wpF_call (f := 43) (args := #[.string ⟨#[112, 97, 116, 104]⟩, .int .i64 3, .int .i64 1, .int .i64 16]) (.agg #[.string ⟨#[112, 97, 116, 104]⟩, .int .i64 3, .int .i64 0, .int .i64 1, .int .i64 16, .int .i64 1, .int .i64 0]) rfl rfl (fun x => by first | rfl | (simp [go_sem]; done)) (fun V _ => old_any _ _ _ _ V) ?_
    simp only [Act.put, List.setIfInBounds_toArray, List.set_cons_succ, List.set_cons_zero]
    refine wpF_call (f := 43) (args := #[.string ⟨#[116, 97, 103]⟩, .int .i64 6, .int .i64 0, .int .i64 16]) (.agg #[.string ⟨#[116, 97, 103]⟩, .int .i64 6, .int .i64 0, .int .i64 0, .int .i64 16, .int .i64 1, .int .i64 0]) rfl rfl (fun x => by first | rfl | (simp [go_sem]; done)) (fun V _ => old_any _ _ _ _ V) ?_
    simp only [Act.put, List.setIfInBounds_toArray, List.set_cons_succ, List.set_cons_zero]
    refine wpF_call (f := 45) (args := #[.agg #[.string ⟨#[116, 97, 103]⟩, .int .i64 6, .int .i64 0, .int .i64 0, .int .i64 16, .int .i64 1, .int .i64 0], .int .i64 0]) (.agg #[.string ⟨#[116, 97, 103]⟩, .int .i64 6, .int .i64 0, .int .i64 0, .int .i64 16, .int .i64 2, .int .i64 0]) rfl rfl (fun x => by first | rfl | (simp [go_sem]; done)) (fun V _ => added_any ⟨⟨#[116, 97, 103]⟩, 6, 0, 0, 16, 1, 0⟩ 0 V) ?_
    simp only [Act.put, List.setIfInBounds_toArray, List.set_cons_succ, List.set_cons_zero]
    intro xs V hV _
    simp only [fill]
    have HV := Lib.hid (HB.out.trans (hV.mono HB.out.size))
    clear hV HR HZ HB
    go_wp2_with fail
    refine (placed_of (k := 1) (n := 5) rfl (by omega) (by rfl) w V HV.out).mono ?_
    rintro e w4 ⟨rfl, HX⟩
    have HX := Lib.hid HX
    clear HV
    go_wp2
    go_ret
    exact HX.out
  · go_wp2_with fail
    refine wp_region_FT 59 4 [] (fun _ _ _ => True) (fun V => Below (w2.alloc (.cells #[.string ⟨#[122, 111, 110, 101]⟩, .int .i64 1, .int .i64 0, .int .i64 0, .int .i64 4095, .int .i64 1, .int .i64 0] 65)).heap.size (w2.alloc (.cells #[.string ⟨#[122, 111, 110, 101]⟩, .int .i64 1, .int .i64 0, .int .i64 0, .int .i64 4095, .int .i64 1, .int .i64 0] 65)) V) (by kernel_rfl) (by kernel_rfl) (by rfl) (by kernel_rfl) (by kernel_rfl) (by kernel_rfl) (by rfl) (by simp) (fun V V' h hb => h.trans (hb.mono h.size)) (fun _ _ _ _ _ _ => trivial) (Below.refl _ _).drew ?_
    simp only [List.take_succ_cons, List.take_zero, List.drop_succ_cons, List.drop_zero]
    refine wpF_load (.agg #[.string ⟨#[114, 111, 98, 111, 116]⟩, .int .i64 1, .int .i64 0, .int .i64 0, .int .i64 65535, .int .i64 1, .int .i64 0]) rfl (by rfl) (by rfl) (by rfl) (fun V hV => by obtain ⟨d0, d1, d2, d3, d4, d5, d6⟩ := HR.out V hV; simp [Instr.loadAt, go_sem, d0, d1, d2, d3, d4, d5, d6]) ?_
    simp only [Act.put, List.setIfInBounds_toArray, List.set_cons_succ, List.set_cons_zero]
    refine wpF_call (f := 43) (args := #[.string ⟨#[114, 101, 97, 115, 111, 110]⟩, .int .i64 1, .int .i64 0, .int .i64 15]) (.agg #[.string ⟨#[114, 101, 97, 115, 111, 110]⟩, .int .i64 1, .int .i64 0, .int .i64 0, .int .i64 15, .int .i64 1, .int .i64 0]) rfl rfl (fun x => by first | rfl | (simp [go_sem]; done)) (fun V _ => old_any _ _ _ _ V) ?_
    simp only [Act.put, List.setIfInBounds_toArray, List.set_cons_succ, List.set_cons_zero]
    refine wpF_load (.agg #[.string ⟨#[122, 111, 110, 101]⟩, .int .i64 1, .int .i64 0, .int .i64 0, .int .i64 4095, .int .i64 1, .int .i64 0]) rfl (by rfl) (by rfl) (by rfl) (fun V hV => by obtain ⟨d0, d1, d2, d3, d4, d5, d6⟩ := HZ.out V hV; simp [Instr.loadAt, go_sem, d0, d1, d2, d3, d4, d5, d6]) ?_
    simp only [Act.put, List.setIfInBounds_toArray, List.set_cons_succ, List.set_cons_zero]
    refine wpF_call (f := 45) (args := #[.agg #[.string ⟨#[122, 111, 110, 101]⟩, .int .i64 1, .int .i64 0, .int .i64 0, .int .i64 4095, .int .i64 1, .int .i64 0], .int .i64 0]) (.agg #[.string ⟨#[122, 111, 110, 101]⟩, .int .i64 1, .int .i64 0, .int .i64 0, .int .i64 4095, .int .i64 2, .int .i64 0]) rfl rfl (fun x => by first | rfl | (simp [go_sem]; done)) (fun V _ => added_any ⟨⟨#[122, 111, 110, 101]⟩, 1, 0, 0, 4095, 1, 0⟩ 0 V) ?_
    simp only [Act.put, List.setIfInBounds_toArray, List.set_cons_succ, List.set_cons_zero]
    intro xs V hV _
    simp only [fill]
    have HV := Lib.hid (HB.out.trans (hV.mono HB.out.size))
    clear hV HR HZ HB
    go_wp2_with fail
    refine (placed_of (k := 2) (n := 3) rfl (by omega) (by rfl) w V HV.out).mono ?_
    rintro e w4 ⟨rfl, HX⟩
    have HX := Lib.hid HX
    clear HV
    go_wp2
    go_ret
    exact HX.out
  · go_wp2_with fail
    refine wp_region_FT 59 5 [] (fun _ _ _ => True) (fun V => Below (w2.alloc (.cells #[.string ⟨#[122, 111, 110, 101]⟩, .int .i64 1, .int .i64 0, .int .i64 0, .int .i64 4095, .int .i64 1, .int .i64 0] 65)).heap.size (w2.alloc (.cells #[.string ⟨#[122, 111, 110, 101]⟩, .int .i64 1, .int .i64 0, .int .i64 0, .int .i64 4095, .int .i64 1, .int .i64 0] 65)) V) (by kernel_rfl) (by kernel_rfl) (by rfl) (by kernel_rfl) (by kernel_rfl) (by kernel_rfl) (by rfl) (by simp) (fun V V' h hb => h.trans (hb.mono h.size)) (fun _ _ _ _ _ _ => trivial) (Below.refl _ _).drew ?_
    simp only [List.take_succ_cons, List.take_zero, List.drop_succ_cons, List.drop_zero]
    refine wpF_load (.agg #[.string ⟨#[114, 111, 98, 111, 116]⟩, .int .i64 1, .int .i64 0, .int .i64 0, .int .i64 65535, .int .i64 1, .int .i64 0]) rfl (by rfl) (by rfl) (by rfl) (fun V hV => by obtain ⟨d0, d1, d2, d3, d4, d5, d6⟩ := HR.out V hV; simp [Instr.loadAt, go_sem, d0, d1, d2, d3, d4, d5, d6]) ?_
    simp only [Act.put, List.setIfInBounds_toArray, List.set_cons_succ, List.set_cons_zero]
    refine wpF_load (.agg #[.string ⟨#[122, 111, 110, 101]⟩, .int .i64 1, .int .i64 0, .int .i64 0, .int .i64 4095, .int .i64 1, .int .i64 0]) rfl (by rfl) (by rfl) (by rfl) (fun V hV => by obtain ⟨d0, d1, d2, d3, d4, d5, d6⟩ := HZ.out V hV; simp [Instr.loadAt, go_sem, d0, d1, d2, d3, d4, d5, d6]) ?_
    simp only [Act.put, List.setIfInBounds_toArray, List.set_cons_succ, List.set_cons_zero]
    refine wpF_call (f := 43) (args := #[.string ⟨#[108, 101, 97, 115, 101]⟩, .int .i64 1, .int .i64 1, .int .i64 255]) (.agg #[.string ⟨#[108, 101, 97, 115, 101]⟩, .int .i64 1, .int .i64 0, .int .i64 1, .int .i64 255, .int .i64 1, .int .i64 0]) rfl rfl (fun x => by first | rfl | (simp [go_sem]; done)) (fun V _ => old_any _ _ _ _ V) ?_
    simp only [Act.put, List.setIfInBounds_toArray, List.set_cons_succ, List.set_cons_zero]
    refine wpF_call (f := 45) (args := #[.agg #[.string ⟨#[108, 101, 97, 115, 101]⟩, .int .i64 1, .int .i64 0, .int .i64 1, .int .i64 255, .int .i64 1, .int .i64 0], .int .i64 1]) (.agg #[.string ⟨#[108, 101, 97, 115, 101]⟩, .int .i64 1, .int .i64 0, .int .i64 1, .int .i64 255, .int .i64 2, .int .i64 1]) rfl rfl (fun x => by first | rfl | (simp [go_sem]; done)) (fun V _ => added_any ⟨⟨#[108, 101, 97, 115, 101]⟩, 1, 0, 1, 255, 1, 0⟩ 1 V) ?_
    simp only [Act.put, List.setIfInBounds_toArray, List.set_cons_succ, List.set_cons_zero]
    refine wpF_call (f := 43) (args := #[.string ⟨#[99, 101, 108, 108, 115]⟩, .int .i64 4, .int .i64 1, .int .i64 32]) (.agg #[.string ⟨#[99, 101, 108, 108, 115]⟩, .int .i64 4, .int .i64 0, .int .i64 1, .int .i64 32, .int .i64 1, .int .i64 0]) rfl rfl (fun x => by first | rfl | (simp [go_sem]; done)) (fun V _ => old_any _ _ _ _ V) ?_
    simp only [Act.put, List.setIfInBounds_toArray, List.set_cons_succ, List.set_cons_zero]
    intro xs V hV _
    simp only [fill]
    have HV := Lib.hid (HB.out.trans (hV.mono HB.out.size))
    clear hV HR HZ HB
    go_wp2_with fail
    refine (placed_of (k := 3) (n := 4) rfl (by omega) (by rfl) w V HV.out).mono ?_
    rintro e w4 ⟨rfl, HX⟩
    have HX := Lib.hid HX
    clear HV
    go_wp2
    go_ret
    exact HX.out
  · go_wp2_with fail
    refine wp_region_FT 59 7 [] (fun _ _ _ => True) (fun V => Below (w2.alloc (.cells #[.string ⟨#[122, 111, 110, 101]⟩, .int .i64 1, .int .i64 0, .int .i64 0, .int .i64 4095, .int .i64 1, .int .i64 0] 65)).heap.size (w2.alloc (.cells #[.string ⟨#[122, 111, 110, 101]⟩, .int .i64 1, .int .i64 0, .int .i64 0, .int .i64 4095, .int .i64 1, .int .i64 0] 65)) V) (by kernel_rfl) (by kernel_rfl) (by rfl) (by kernel_rfl) (by kernel_rfl) (by kernel_rfl) (by rfl) (by simp) (fun V V' h hb => h.trans (hb.mono h.size)) (fun _ _ _ _ _ _ => trivial) (Below.refl _ _).drew ?_
    simp only [List.take_succ_cons, List.take_zero, List.drop_succ_cons, List.drop_zero]
    refine wpF_load (.agg #[.string ⟨#[114, 111, 98, 111, 116]⟩, .int .i64 1, .int .i64 0, .int .i64 0, .int .i64 65535, .int .i64 1, .int .i64 0]) rfl (by rfl) (by rfl) (by rfl) (fun V hV => by obtain ⟨d0, d1, d2, d3, d4, d5, d6⟩ := HR.out V hV; simp [Instr.loadAt, go_sem, d0, d1, d2, d3, d4, d5, d6]) ?_
    simp only [Act.put, List.setIfInBounds_toArray, List.set_cons_succ, List.set_cons_zero]
    refine wpF_call (f := 43) (args := #[.string ⟨#[120]⟩, .int .i64 2, .int .i64 (-1000000), .int .i64 1000000]) (.agg #[.string ⟨#[120]⟩, .int .i64 2, .int .i64 0, .int .i64 (-1000000), .int .i64 1000000, .int .i64 1, .int .i64 0]) rfl rfl (fun x => by first | rfl | (simp [go_sem]; done)) (fun V _ => old_any _ _ _ _ V) ?_
    simp only [Act.put, List.setIfInBounds_toArray, List.set_cons_succ, List.set_cons_zero]
    refine wpF_call (f := 43) (args := #[.string ⟨#[121]⟩, .int .i64 2, .int .i64 (-1000000), .int .i64 1000000]) (.agg #[.string ⟨#[121]⟩, .int .i64 2, .int .i64 0, .int .i64 (-1000000), .int .i64 1000000, .int .i64 1, .int .i64 0]) rfl rfl (fun x => by first | rfl | (simp [go_sem]; done)) (fun V _ => old_any _ _ _ _ V) ?_
    simp only [Act.put, List.setIfInBounds_toArray, List.set_cons_succ, List.set_cons_zero]
    refine wpF_call (f := 43) (args := #[.string ⟨#[104, 101, 97, 100, 105, 110, 103]⟩, .int .i64 1, .int .i64 0, .int .i64 35999]) (.agg #[.string ⟨#[104, 101, 97, 100, 105, 110, 103]⟩, .int .i64 1, .int .i64 0, .int .i64 0, .int .i64 35999, .int .i64 1, .int .i64 0]) rfl rfl (fun x => by first | rfl | (simp [go_sem]; done)) (fun V _ => old_any _ _ _ _ V) ?_
    simp only [Act.put, List.setIfInBounds_toArray, List.set_cons_succ, List.set_cons_zero]
    refine wpF_call (f := 43) (args := #[.string ⟨#[98, 97, 116, 116, 101, 114, 121]⟩, .int .i64 1, .int .i64 0, .int .i64 1000]) (.agg #[.string ⟨#[98, 97, 116, 116, 101, 114, 121]⟩, .int .i64 1, .int .i64 0, .int .i64 0, .int .i64 1000, .int .i64 1, .int .i64 0]) rfl rfl (fun x => by first | rfl | (simp [go_sem]; done)) (fun V _ => old_any _ _ _ _ V) ?_
    simp only [Act.put, List.setIfInBounds_toArray, List.set_cons_succ, List.set_cons_zero]
    refine wpF_call (f := 43) (args := #[.string ⟨#[115, 117, 114, 101]⟩, .int .i64 1, .int .i64 0, .int .i64 100]) (.agg #[.string ⟨#[115, 117, 114, 101]⟩, .int .i64 1, .int .i64 0, .int .i64 0, .int .i64 100, .int .i64 1, .int .i64 0]) rfl rfl (fun x => by first | rfl | (simp [go_sem]; done)) (fun V _ => old_any _ _ _ _ V) ?_
    simp only [Act.put, List.setIfInBounds_toArray, List.set_cons_succ, List.set_cons_zero]
    refine wpF_call (f := 45) (args := #[.agg #[.string ⟨#[115, 117, 114, 101]⟩, .int .i64 1, .int .i64 0, .int .i64 0, .int .i64 100, .int .i64 1, .int .i64 0], .int .i64 100]) (.agg #[.string ⟨#[115, 117, 114, 101]⟩, .int .i64 1, .int .i64 0, .int .i64 0, .int .i64 100, .int .i64 2, .int .i64 100]) rfl rfl (fun x => by first | rfl | (simp [go_sem]; done)) (fun V _ => added_any ⟨⟨#[115, 117, 114, 101]⟩, 1, 0, 0, 100, 1, 0⟩ 100 V) ?_
    simp only [Act.put, List.setIfInBounds_toArray, List.set_cons_succ, List.set_cons_zero]
    intro xs V hV _
    simp only [fill]
    have HV := Lib.hid (HB.out.trans (hV.mono HB.out.size))
    clear hV HR HZ HB
    go_wp2_with fail
    refine (placed_of (k := 4) (n := 6) rfl (by omega) (by rfl) w V HV.out).mono ?_
    rintro e w4 ⟨rfl, HX⟩
    have HX := Lib.hid HX
    clear HV
    go_wp2
    go_ret
    exact HX.out
  · go_wp2_with fail
    refine wp_region_FT 59 8 [] (fun _ _ _ => True) (fun V => Below (w2.alloc (.cells #[.string ⟨#[122, 111, 110, 101]⟩, .int .i64 1, .int .i64 0, .int .i64 0, .int .i64 4095, .int .i64 1, .int .i64 0] 65)).heap.size (w2.alloc (.cells #[.string ⟨#[122, 111, 110, 101]⟩, .int .i64 1, .int .i64 0, .int .i64 0, .int .i64 4095, .int .i64 1, .int .i64 0] 65)) V) (by kernel_rfl) (by kernel_rfl) (by rfl) (by kernel_rfl) (by kernel_rfl) (by kernel_rfl) (by rfl) (by simp) (fun V V' h hb => h.trans (hb.mono h.size)) (fun _ _ _ _ _ _ => trivial) (Below.refl _ _).drew ?_
    simp only [List.take_succ_cons, List.take_zero, List.drop_succ_cons, List.drop_zero]
    refine wpF_load (.agg #[.string ⟨#[114, 111, 98, 111, 116]⟩, .int .i64 1, .int .i64 0, .int .i64 0, .int .i64 65535, .int .i64 1, .int .i64 0]) rfl (by rfl) (by rfl) (by rfl) (fun V hV => by obtain ⟨d0, d1, d2, d3, d4, d5, d6⟩ := HR.out V hV; simp [Instr.loadAt, go_sem, d0, d1, d2, d3, d4, d5, d6]) ?_
    simp only [Act.put, List.setIfInBounds_toArray, List.set_cons_succ, List.set_cons_zero]
    refine wpF_call (f := 43) (args := #[.string ⟨#[99, 111, 100, 101]⟩, .int .i64 1, .int .i64 1, .int .i64 9999]) (.agg #[.string ⟨#[99, 111, 100, 101]⟩, .int .i64 1, .int .i64 0, .int .i64 1, .int .i64 9999, .int .i64 1, .int .i64 0]) rfl rfl (fun x => by first | rfl | (simp [go_sem]; done)) (fun V _ => old_any _ _ _ _ V) ?_
    simp only [Act.put, List.setIfInBounds_toArray, List.set_cons_succ, List.set_cons_zero]
    refine wpF_call (f := 43) (args := #[.string ⟨#[115, 101, 118, 101, 114, 105, 116, 121]⟩, .int .i64 1, .int .i64 0, .int .i64 4]) (.agg #[.string ⟨#[115, 101, 118, 101, 114, 105, 116, 121]⟩, .int .i64 1, .int .i64 0, .int .i64 0, .int .i64 4, .int .i64 1, .int .i64 0]) rfl rfl (fun x => by first | rfl | (simp [go_sem]; done)) (fun V _ => old_any _ _ _ _ V) ?_
    simp only [Act.put, List.setIfInBounds_toArray, List.set_cons_succ, List.set_cons_zero]
    refine wpF_call (f := 43) (args := #[.string ⟨#[112, 97, 114, 116]⟩, .int .i64 1, .int .i64 0, .int .i64 255]) (.agg #[.string ⟨#[112, 97, 114, 116]⟩, .int .i64 1, .int .i64 0, .int .i64 0, .int .i64 255, .int .i64 1, .int .i64 0]) rfl rfl (fun x => by first | rfl | (simp [go_sem]; done)) (fun V _ => old_any _ _ _ _ V) ?_
    simp only [Act.put, List.setIfInBounds_toArray, List.set_cons_succ, List.set_cons_zero]
    refine wpF_call (f := 45) (args := #[.agg #[.string ⟨#[112, 97, 114, 116]⟩, .int .i64 1, .int .i64 0, .int .i64 0, .int .i64 255, .int .i64 1, .int .i64 0], .int .i64 0]) (.agg #[.string ⟨#[112, 97, 114, 116]⟩, .int .i64 1, .int .i64 0, .int .i64 0, .int .i64 255, .int .i64 2, .int .i64 0]) rfl rfl (fun x => by first | rfl | (simp [go_sem]; done)) (fun V _ => added_any ⟨⟨#[112, 97, 114, 116]⟩, 1, 0, 0, 255, 1, 0⟩ 0 V) ?_
    simp only [Act.put, List.setIfInBounds_toArray, List.set_cons_succ, List.set_cons_zero]
    refine wpF_call (f := 43) (args := #[.string ⟨#[116, 105, 109, 101, 115]⟩, .int .i64 1, .int .i64 1, .int .i64 1000000]) (.agg #[.string ⟨#[116, 105, 109, 101, 115]⟩, .int .i64 1, .int .i64 0, .int .i64 1, .int .i64 1000000, .int .i64 1, .int .i64 0]) rfl rfl (fun x => by first | rfl | (simp [go_sem]; done)) (fun V _ => old_any _ _ _ _ V) ?_
    simp only [Act.put, List.setIfInBounds_toArray, List.set_cons_succ, List.set_cons_zero]
    refine wpF_call (f := 45) (args := #[.agg #[.string ⟨#[116, 105, 109, 101, 115]⟩, .int .i64 1, .int .i64 0, .int .i64 1, .int .i64 1000000, .int .i64 1, .int .i64 0], .int .i64 1]) (.agg #[.string ⟨#[116, 105, 109, 101, 115]⟩, .int .i64 1, .int .i64 0, .int .i64 1, .int .i64 1000000, .int .i64 2, .int .i64 1]) rfl rfl (fun x => by first | rfl | (simp [go_sem]; done)) (fun V _ => added_any ⟨⟨#[116, 105, 109, 101, 115]⟩, 1, 0, 1, 1000000, 1, 0⟩ 1 V) ?_
    simp only [Act.put, List.setIfInBounds_toArray, List.set_cons_succ, List.set_cons_zero]
    refine wpF_call (f := 43) (args := #[.string ⟨#[116, 101, 120, 116]⟩, .int .i64 5, .int .i64 0, .int .i64 64]) (.agg #[.string ⟨#[116, 101, 120, 116]⟩, .int .i64 5, .int .i64 0, .int .i64 0, .int .i64 64, .int .i64 1, .int .i64 0]) rfl rfl (fun x => by first | rfl | (simp [go_sem]; done)) (fun V _ => old_any _ _ _ _ V) ?_
    simp only [Act.put, List.setIfInBounds_toArray, List.set_cons_succ, List.set_cons_zero]
    intro xs V hV _
    simp only [fill]
    have HV := Lib.hid (HB.out.trans (hV.mono HB.out.size))
    clear hV HR HZ HB
    go_wp2_with fail
    refine (placed_of (k := 5) (n := 6) rfl (by omega) (by rfl) w V HV.out).mono ?_
    rintro e w4 ⟨rfl, HX⟩
    have HX := Lib.hid HX
    clear HV
    go_wp2
    go_ret
    exact HX.out
end Go.Proofs.Ytnbhiamnoapmlaa
