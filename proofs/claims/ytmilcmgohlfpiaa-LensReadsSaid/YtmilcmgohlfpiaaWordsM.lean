/-
  The law's words, where a lens gives none.
-/
import Derived.Test.YtmilcmgohlfpiaaWordsL
namespace Go.Proofs.Ytmilcmgohlfpiaa
open Go.RowKit Go.Shelf
set_option maxRecDepth 100000
attribute [local go_sem] Oper.semAt_some

set_option maxHeartbeats 4000000 in
/-- no word is given -/
theorem lawwords_none (lo b : Nat) (zs : List Int) (p e n : Nat) (s : Int) (A : Option Addr) (c : Nat) (w : World) (h : LensAt w lo b zs p e) (hn : zs.length = n) (hl : n ≤ 1000000000)
    (hc : e ≠ 0 ∨ (e = 0 ∧ (n : Int) - p < s) ∨ (e = 0 ∧ s ≤ (n : Int) - p ∧ s ≠ 1 ∧ s ≠ 2 ∧ s ≠ 4)) :
    Calls Try.prog 21 #[.pointer (some ⟨b, 0, none⟩), RefL A n c p e, .int .i64 s] w fun r w' => r = .returned (.tuple #[RefL A n c p e, .bool true]) ∧ LensAt w' lo b zs p e ∧ Off (fun j => j = b) w w' := by
  have hbw := h.lt
  have hpn : p ≤ n := by have := h.place; omega
  have HW0 : Hid (Calls Try.prog 36 #[.pointer (some ⟨b, 0, none⟩), .int .i64 s] ((((w.alloc (RefC A n c p e)).alloc (.cells #[.int .i64 s] 3)).alloc (RefC none 0 0 0 0)).alloc (.cells #[.bool true] 4)) fun r w' => r = .returned (.func (.func 58) #[] #[.pointer (some ⟨w.heap.size + 4, 0, none⟩), .pointer (some ⟨w.heap.size + 5, 0, none⟩)]) ∧ WW w lo b zs e A n c s p p w') := by
    refine (lwords_any _ _ _).mono ?_
    rintro e w1 ⟨rfl, rfl⟩
    refine ⟨by simp, ww_start h⟩
  have HC := Lib.hid hc
  clear h hc
  refine (callsIn_wide (n := 3)).1 ?_
  refine callsIn_of_wp_marks Try.func21 rfl trivial ?_ rfl
  simp only [Try.ntmps21, List.size_toArray, List.length_cons, List.length_nil, Nat.reduceAdd, Nat.reduceSub, Array.replicate_succ, Array.replicate_zero, List.push_toArray, List.append_toArray, List.nil_append, List.cons_append]
  gi_wp2_with fail
  refine ⟨trivial, ?_⟩
  refine (callsIn_wide.2 HW0.out).mono ?_
  rintro e w1 ⟨rfl, hw⟩
  clear HW0
  have hfn := wfunc_not_nil (w.heap.size + 4) (w.heap.size + 5)
  have hw6 := hw.lt
  gi_wp2_with fail
  refine range_turns rfl (by omega) (gf := 58) (lb := #[.pointer (some ⟨w.heap.size + 4, 0, none⟩), .pointer (some ⟨w.heap.size + 5, 0, none⟩)]) rfl trivial (enters_of Try.func58 (by kernel_rfl) rfl)
    (fun _ => #[.int .u32 0]) (fun _ => rfl) (fun _ _ => False) (fun _ W => WW w lo b zs e A n c s p p W) 0
    (fun _ _ _ _ _ h _ _ _ => h) (fun j W l o o' h hl _ _ => h.putObj hbw (by omega))
    (fun o => hw.below hbw (((Below.refl _ w1).alloc (Nat.le_refl _) _).alloc (by simp) _)) ?a1 ?assign ?body ?iter ?done
  case assign =>
    intro l j W K hK
    gi_wp2
    exact hK
  case body =>
    rintro l j W hR _
    exact hR.elim
  case iter =>
    intro Bk l W hBk hBlt hD hB _
    refine (words_none _ l (w.heap.size + 4) (w.heap.size + 5) lo b zs p e s W hD.lens (by omega) hD.boxes.1 hD.boxes.2 (by rw [hn]; exact HC.out)).mono ?_
    rintro r W2 ⟨hr, k, rfl⟩
    exact ⟨hr, hD.below hbw (below_drewN (Below.refl _ _) k), hBk _ _ hB (Nat.le_refl _) fun _ _ _ => rfl⟩
  case done =>
    rintro D W hD hW hK
    obtain ⟨c0, c1, c2, c3, c4, f0, f1, f2, f4⟩ := hW.cells
    have c4' : W.cell? ⟨w.heap.size + 1 + 1 + 1, 0, none⟩ = some (.bool true) := c4
    have f4' : W.frozen? ⟨w.heap.size + 1 + 1 + 1, 0, none⟩ = false := f4
    have hr' : W.heap[w.heap.size + 1 + 1]? = _ := hW.hr
    have r0 : W.cell? ⟨w.heap.size + 1 + 1, 0, none⟩ = some (.slice none 0 0) := by simp [World.cell?, hr']
    have r1 : W.cell? ⟨w.heap.size + 1 + 1, 1, none⟩ = some (.int .i64 0) := by simp [World.cell?, hr']
    have r2 : W.cell? ⟨w.heap.size + 1 + 1, 2, none⟩ = some (.int .i64 0) := by simp [World.cell?, hr']
    have q0 : W.frozen? ⟨w.heap.size + 1 + 1, 0, none⟩ = false := by simp [World.frozen?, hr']
    have q1 : W.frozen? ⟨w.heap.size + 1 + 1, 1, none⟩ = false := by simp [World.frozen?, hr']
    have q2 : W.frozen? ⟨w.heap.size + 1 + 1, 2, none⟩ = false := by simp [World.frozen?, hr']
    have hmx : Try.prog.follows .mixedOrders = true := by kernel_rfl
    have hmn : (p : Int) ≤ (n : Int) := by omega
    have HW := Lib.hid hW
    have HK := Lib.hid hK
    clear hW hw hK hr'
    rcases HC.out with he | ⟨rfl, hlt⟩ | ⟨rfl, hge, s1, s2, s4⟩
    · have h3 : ¬ (e : Int) = 0 := by omega
      have h4 : ((e : Int) != 0) = true := by simp; omega
      rcases (by omega : s = 1 ∨ s = 2 ∨ s = 4 ∨ (s ≠ 1 ∧ s ≠ 2 ∧ s ≠ 4)) with hs | hs | hs | hs
      · have t1 : (s == 1) = true := by simp; omega
        have HS := Lib.hid hs
        clear hs
        have HE := Lib.hid (ww_end (D := D) (ev := (e : Int)) HW.out hbw (by omega) HK.out rfl rfl)
        gi_wp2
        refine wpIn_wide.2 ?_
        go_region
        all_goals gi_wp2
        all_goals obtain ⟨hK, k0, k1, k2, hl, ho⟩ := HE.out
        all_goals refine ⟨by simp, .inl ⟨_, _, rfl, run_takeDeferred hK, ?_⟩⟩
        all_goals exact ⟨_, (by simp [results, Try.results21, go_sem, k0, k1, k2]; try rfl), rfl, hl, ho⟩
      · have t1 : (s == 1) = false := by simp; omega
        have t2 : (s == 2) = true := by simp; omega
        have HS := Lib.hid hs
        clear hs
        have HE := Lib.hid (ww_end (D := D) (ev := (e : Int)) HW.out hbw (by omega) HK.out rfl rfl)
        gi_wp2
        refine wpIn_wide.2 ?_
        go_region
        all_goals gi_wp2
        all_goals obtain ⟨hK, k0, k1, k2, hl, ho⟩ := HE.out
        all_goals refine ⟨by simp, .inl ⟨_, _, rfl, run_takeDeferred hK, ?_⟩⟩
        all_goals exact ⟨_, (by simp [results, Try.results21, go_sem, k0, k1, k2]; try rfl), rfl, hl, ho⟩
      · have t1 : (s == 1) = false := by simp; omega
        have t2 : (s == 2) = false := by simp; omega
        have t4 : (s == 4) = true := by simp; omega
        have HS := Lib.hid hs
        clear hs
        have HE := Lib.hid (ww_end (D := D) (ev := (e : Int)) HW.out hbw (by omega) HK.out rfl rfl)
        gi_wp2
        refine wpIn_wide.2 ?_
        go_region
        all_goals gi_wp2
        all_goals obtain ⟨hK, k0, k1, k2, hl, ho⟩ := HE.out
        all_goals refine ⟨by simp, .inl ⟨_, _, rfl, run_takeDeferred hK, ?_⟩⟩
        all_goals exact ⟨_, (by simp [results, Try.results21, go_sem, k0, k1, k2]; try rfl), rfl, hl, ho⟩
      · have t1 : (s == 1) = false := by simp; omega
        have t2 : (s == 2) = false := by simp; omega
        have t4 : (s == 4) = false := by simp; omega
        have HS := Lib.hid hs
        clear hs
        have HE := Lib.hid (ww_end0 (D := D) (ev := (e : Int)) HW.out hbw (by omega) HK.out rfl rfl)
        gi_wp2
        refine wpIn_wide.2 ?_
        go_region
        all_goals gi_wp2
        all_goals obtain ⟨hK, k0, k1, k2, hl, ho⟩ := HE.out
        all_goals refine ⟨by simp, .inl ⟨_, _, rfl, run_takeDeferred hK, ?_⟩⟩
        all_goals exact ⟨_, (by simp [results, Try.results21, go_sem, k0, k1, k2]; try rfl), rfl, hl, ho⟩
    · rcases (by omega : s = 1 ∨ s = 2 ∨ s = 4 ∨ (s ≠ 1 ∧ s ≠ 2 ∧ s ≠ 4)) with hs | hs | hs | hs
      · have t1 : (s == 1) = true := by simp; omega
        have HS := Lib.hid hs
        clear hs
        have HE := Lib.hid (ww_end (D := D) (ev := 0) HW.out hbw (by omega) HK.out rfl rfl)
        gi_wp2
        refine wpIn_wide.2 ?_
        go_region
        all_goals gi_wp2
        all_goals obtain ⟨hK, k0, k1, k2, hl, ho⟩ := HE.out
        all_goals refine ⟨by simp, .inl ⟨_, _, rfl, run_takeDeferred hK, ?_⟩⟩
        all_goals exact ⟨_, (by simp [results, Try.results21, go_sem, k0, k1, k2]; try rfl), rfl, hl, ho⟩
      · have t1 : (s == 1) = false := by simp; omega
        have t2 : (s == 2) = true := by simp; omega
        have HS := Lib.hid hs
        clear hs
        have HE := Lib.hid (ww_end (D := D) (ev := 0) HW.out hbw (by omega) HK.out rfl rfl)
        gi_wp2
        refine wpIn_wide.2 ?_
        go_region
        all_goals gi_wp2
        all_goals obtain ⟨hK, k0, k1, k2, hl, ho⟩ := HE.out
        all_goals refine ⟨by simp, .inl ⟨_, _, rfl, run_takeDeferred hK, ?_⟩⟩
        all_goals exact ⟨_, (by simp [results, Try.results21, go_sem, k0, k1, k2]; try rfl), rfl, hl, ho⟩
      · have t1 : (s == 1) = false := by simp; omega
        have t2 : (s == 2) = false := by simp; omega
        have t4 : (s == 4) = true := by simp; omega
        have HS := Lib.hid hs
        clear hs
        have HE := Lib.hid (ww_end (D := D) (ev := 0) HW.out hbw (by omega) HK.out rfl rfl)
        gi_wp2
        refine wpIn_wide.2 ?_
        go_region
        all_goals gi_wp2
        all_goals obtain ⟨hK, k0, k1, k2, hl, ho⟩ := HE.out
        all_goals refine ⟨by simp, .inl ⟨_, _, rfl, run_takeDeferred hK, ?_⟩⟩
        all_goals exact ⟨_, (by simp [results, Try.results21, go_sem, k0, k1, k2]; try rfl), rfl, hl, ho⟩
      · have t1 : (s == 1) = false := by simp; omega
        have t2 : (s == 2) = false := by simp; omega
        have t4 : (s == 4) = false := by simp; omega
        have HS := Lib.hid hs
        clear hs
        have HE := Lib.hid (ww_end0 (D := D) (ev := 0) HW.out hbw (by omega) HK.out rfl rfl)
        gi_wp2
        refine wpIn_wide.2 ?_
        go_region
        all_goals gi_wp2
        all_goals obtain ⟨hK, k0, k1, k2, hl, ho⟩ := HE.out
        all_goals refine ⟨by simp, .inl ⟨_, _, rfl, run_takeDeferred hK, ?_⟩⟩
        all_goals exact ⟨_, (by simp [results, Try.results21, go_sem, k0, k1, k2]; try rfl), rfl, hl, ho⟩
    · have t1 : (s == 1) = false := by simp; omega
      have t2 : (s == 2) = false := by simp; omega
      have t4 : (s == 4) = false := by simp; omega
      have HS := Lib.hid (And.intro s1 (And.intro s2 s4))
      clear s1 s2 s4
      have HE := Lib.hid (ww_end0 (D := D) (ev := 0) HW.out hbw (by omega) HK.out rfl rfl)
      gi_wp2
      refine wpIn_wide.2 ?_
      go_region
      all_goals gi_wp2
      all_goals obtain ⟨hK, k0, k1, k2, hl, ho⟩ := HE.out
      all_goals refine ⟨by simp, .inl ⟨_, _, rfl, run_takeDeferred hK, ?_⟩⟩
      all_goals exact ⟨_, (by simp [results, Try.results21, go_sem, k0, k1, k2]; try rfl), rfl, hl, ho⟩
end Go.Proofs.Ytmilcmgohlfpiaa
