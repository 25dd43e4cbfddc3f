/-
  Contract of the document's All of layer 16.
-/
import Derived.Test.YtnbhiamnoapmlaaFldO
import Derived.Test.YtnbhiamnoapmlaaApN
import Derived.Maps.AppendAt
namespace Go.Proofs.Ytnbhiamnoapmlaa
open Go.RowKit Go.Shelf
set_option maxRecDepth 100000
attribute [local go_sem] Oper.semAt_some

theorem rfInfo : (Try.prog.info? 49).map (fun i => (i.zero, i.size, i.bytes)) = some (some (.agg #[.string ⟨#[]⟩, .int .i64 0, .int .i64 0, .int .i64 0, .int .i64 0, .int .i64 0, .int .i64 0]), 7, 64) := by kernel_rfl
/-- fields that lie in a row, at lo or above -/
def FdsIn (lo : Nat) (w : World) (A : Option Addr) (L : List Fd) : Prop := ∀ (j : Nat) (f : Fd), L[j]? = some f → ∃ g, A = some ⟨g, 0, none⟩ ∧ lo ≤ g ∧ g < w.heap.size ∧ ∀ (q : Nat) (u : Value), f.cs[q]? = some u → w.cell? ⟨g, j * 7 + q, none⟩ = some u
def OfI (L : List Fd) (w : World) (e : Ending) (w' : World) : Prop := ∃ A c, e = .returned (.slice A L.length c) ∧ L.length ≤ c ∧ FdsIn w.heap.size w' A L ∧ Below w.heap.size w w'
theorem FRow.lt {T : TypeId} {w : World} {g : Nat} {L : List Fd} (h : FRow T w g L) : g < w.heap.size := (Array.getElem?_eq_some_iff.1 h).1
theorem FRow.seven {T : TypeId} {w : World} {g : Nat} {L : List Fd} (h : FRow T w g L) {j : Nat} {f : Fd} (hj : L[j]? = some f) :
    w.cell? ⟨g, j * 7, none⟩ = some (.string f.nm) ∧ w.cell? ⟨g, j * 7 + 1, none⟩ = some (.int .i64 f.so) ∧ w.cell? ⟨g, j * 7 + 2, none⟩ = some (.int .i64 f.pl) ∧ w.cell? ⟨g, j * 7 + 3, none⟩ = some (.int .i64 f.le) ∧ w.cell? ⟨g, j * 7 + 4, none⟩ = some (.int .i64 f.mo) ∧ w.cell? ⟨g, j * 7 + 5, none⟩ = some (.int .i64 f.si) ∧ w.cell? ⟨g, j * 7 + 6, none⟩ = some (.int .i64 f.ab) :=
  ⟨h.cell hj (q := 0) (by omega), h.cell hj (q := 1) (by omega), h.cell hj (q := 2) (by omega), h.cell hj (q := 3) (by omega), h.cell hj (q := 4) (by omega), h.cell hj (q := 5) (by omega), h.cell hj (q := 6) (by omega)⟩
theorem own_below7 {W W' : World} {base e size n : Nat} {v : Value} {xs : List Value} (h : W.ownsRow base e size v n xs) (hb : Below W.heap.size W W') : W'.ownsRow base e size v n xs := by
  refine ⟨h.1, h.2.imp id ?_⟩
  rintro ⟨g, cap, cur, hv, hg, hh, r⟩
  exact ⟨g, cap, cur, hv, hg, (hb.block g (Array.getElem?_eq_some_iff.1 hh).1).trans hh, r⟩
theorem cells_newF {w : World} {cs cs2 : List Value} (t t2 : TypeId) : ∀ (j : Nat) (u : Value), cs2[j]? = some u → ((w.alloc (.cells cs.toArray t)).alloc (.cells cs2.toArray t2)).cell? ((⟨w.heap.size + 1, 0, none⟩ : Addr).add j) = some u := fun j u h => by
  rw [Addr.add_lit, Nat.zero_add, World.cell?_alloc_at _ _ _ _ (by simp)]
  simpa using h
theorem rall_step {T base g j : Nat} {w wr W4 : World} {u v' : Value} {L M : List Fd} {f' : Fd} {o1 o2 : Obj} (hb : Below w.heap.size w wr) (hF : FRow T wr g L) (hg : g < base) (hbw : w.heap.size ≤ base) (hown : wr.ownsRow base T 7 u j (flat7 M))
    (h4 : W4.ownsRow base T 7 v' (j + 1) (flat7 M ++ f'.cs.toList)) (hgr : ((wr.alloc o1).alloc o2).grownBy W4 u.ownBlock) : Below w.heap.size w W4 ∧ FRow T W4 g L ∧ W4.ownsRow base T 7 v' (j + 1) (flat7 (M ++ [f'])) := by
  have hs := hb.size
  have hlt := hF.lt
  refine ⟨((hb.alloc hs o1).alloc (by rw [World.size_alloc]; omega) o2).grown hgr (by rw [World.size_alloc, World.size_alloc]; omega) (fun k hk => by have := (hown.lt k hk).1; omega), ?_, ?_⟩
  · unfold FRow at hF ⊢
    rw [hgr.block g (by rw [World.size_alloc, World.size_alloc]; omega) (fun e => by have := (hown.lt g e.symm).1; omega), Below.heap_alloc _ _ _ (by rw [World.size_alloc]; omega), Below.heap_alloc _ _ _ hlt]
    exact hF
  · rw [flat7_app]
    simpa [flat7] using h4
theorem own_in {T base lo n : Nat} {w : World} {v : Value} {M : List Fd} (h : w.ownsRow base T 7 v n (flat7 M)) (hM : M.length = n) (hlo : lo ≤ base) : ∃ A c, v = .slice A n c ∧ n ≤ c ∧ FdsIn lo w A M := by
  have h1 := h.2
  rcases h1 with ⟨rfl, rfl⟩ | ⟨g, cap, cur, rfl, hg, hh, hc, _⟩
  · exact ⟨none, 0, rfl, Nat.le_refl _, fun j f hj => by rw [List.eq_nil_of_length_eq_zero hM] at hj; simp at hj⟩
  · refine ⟨some ⟨g, 0, none⟩, cap, rfl, hc, fun j f hj => ⟨g, rfl, by omega, (Array.getElem?_eq_some_iff.1 hh).1, fun q u hq => ?_⟩⟩
    have hq7 : q < 7 := by
      have := (Array.getElem?_eq_some_iff.1 hq).1
      simpa [Fd.cs] using this
    have := h.cells (g := g) rfl (j * 7 + q) u (by rw [flat7_get M j f hj q hq7]; exact hq)
    rwa [Addr.add_lit, Nat.zero_add] at this
theorem rall_fin {T base n : Nat} {w w' : World} {v : Value} {L : List Fd} (hL : L.length = n) (h : w'.ownsRow base T 7 v n (flat7 (L.take n))) (hb : Below w.heap.size w w') (hlo : w.heap.size ≤ base) : OfI L w (.returned v) w' := by
  rw [List.take_of_length_le (by omega)] at h
  obtain ⟨A, c, rfl, hc, hi⟩ := own_in h hL hlo
  subst hL
  exact ⟨A, c, rfl, hc, hi, hb⟩
theorem OfR.in {T : TypeId} {L : List Fd} {w w' : World} {e : Ending} (h : OfR T L w e w') : OfI L w e w' := by
  obtain ⟨A, c, rfl, hc, hA, hb⟩ := h
  refine ⟨A, c, rfl, hc, fun j f hj => ?_, hb⟩
  obtain ⟨g, rfl, hg, hF⟩ := hA (by intro e; subst e; simp at hj)
  refine ⟨g, rfl, hg, hF.lt, fun q u hq => ?_⟩
  have hq7 : q < 7 := by
    have := (Array.getElem?_eq_some_iff.1 hq).1
    simpa [Fd.cs] using this
  rw [hF.cell hj hq7]
  exact hq

set_option maxHeartbeats 8000000 in
theorem rall_any (k : Int) (w : World) : Calls Try.prog 19 #[.int .i64 k] w fun e w' => OfI (FD k) w e w' := by
  obtain ⟨f0, hf0, hf1, hf2, hf3⟩ := info_parts rfInfo
  rcases kind_ways k with rfl | rfl | rfl | rfl | rfl | ⟨h1, h2, h3, h4, h5⟩
  case' inr.inr.inr.inr.inr =>
    have n1 : (k == 1) = false := by simpa using h1
    have n2 : (k == 2) = false := by simpa using h2
    have n3 : (k == 3) = false := by simpa using h3
    have n4 : (k == 4) = false := by simpa using h4
    have n5 : (k == 5) = false := by simpa using h5
    have hFD : FD k = [] := by simp [FD, raw, h1, h2, h3, h4, h5, pls]
    clear h1 h2 h3 h4 h5
  all_goals
    go_enter Try.func19, Try.ntmps19
  · go_wp2_with fail
    go_loopw [3, 6] (fun v iv wr => v = .slice none 0 0 ∧ iv = .int .i64 0 ∧ Hid (Below w.heap.size w wr)) (fun _ _ _ => 0)
    case atStart => exact ⟨rfl, rfl, Lib.hid ((Below.refl _ w).alloc (Nat.le_refl _) _)⟩
    case round =>
      obtain ⟨rfl, rfl, HB⟩ := hrel
      go_wp2
      go_ret
      rw [hFD]
      exact ⟨none, 0, rfl, Nat.le_refl _, fun j f h => by simp at h, HB.out⟩
  · go_wp2_with fail
    go_loopw [3, 4, 6] (fun v x iv wr => ∃ (j : Nat) (u : Value), u = v ∧ j ≤ 5 ∧ iv = .int .i64 (j : Int) ∧ x = .int .i64 (nums3 ((raw 1).take j)) ∧ Hid (wr.ownsRow (w.heap.size + 2) 49 7 u j (flat7 ((FD 1).take j))) ∧ Hid (FRow 49 wr (w.heap.size + 1) (raw 1)) ∧ Hid (Below w.heap.size w wr)) (fun _ _ iv _ => 5 - (intOf iv).toNat)
    case atStart => exact ⟨0, _, rfl, by omega, rfl, rfl, Lib.hid (World.ownsRow_nil _ _ _ _), Lib.hid ((by rw [show w.heap.size + 1 = (w.alloc (.cells #[] 49)).heap.size by simp]; exact World.alloc_heap_new _ _)), Lib.hid (((Below.refl _ w).alloc (Nat.le_refl _) _).alloc (by simp) _)⟩
    case round =>
      obtain ⟨j, u, rfl, hj, rfl, rfl, HO, HR, HB⟩ := hrel
      rcases Nat.lt_or_ge j 5 with hlt | hge
      · obtain ⟨f, hf⟩ : ∃ f, (raw 1)[j]? = some f := ⟨_, List.getElem?_eq_getElem (by show j < 5; exact hlt)⟩
        have hs := raw_so 1 f (List.mem_of_getElem? hf)
        obtain ⟨d0, d1, d2, d3, d4, d5, d6⟩ := HR.out.seven hf
        obtain ⟨m, hm⟩ : ∃ m, nums3 ((raw 1).take j) = m := ⟨_, rfl⟩
        have hm2 := nums3_nonneg ((raw 1).take j)
        rw [hm, List.length_take] at hm2
        have ht := nums3_take (raw 1) j f hf
        have hp := pls_get (raw 1) 0 j f hf
        rw [hm] at ht hp
        rw [hm]
        have hmm : 0 ≤ m ∧ m ≤ 6 := by omega
        have HG := Lib.hid (And.intro ht hp)
        have HW := Lib.hid HB.out.size
        clear ht hp hm hm2 hf
        by_cases h3 : f.so < 3
        · rw [if_pos h3, if_pos h3, Int.zero_add] at HG
          go_wp2_with (at_builtin; refine wpList_append_own_at _ rfl (.tmp 67) (.tmp 69) 43 rfl (w.heap.size + 2) 49 f0 _ 7 64 Try.underlying43 hf0 hf1 hf2 hf3 rfl (by decide) _ _ _ rfl (own_below7 HO.out (((Below.refl _ wr).alloc (Nat.le_refl _) _).alloc (by simp) _)) ⟨wr.heap.size + 1, 0, none⟩ 1 1 [Value.string f.nm, .int .i64 f.so, .int .i64 m, .int .i64 f.le, .int .i64 f.mo, .int .i64 f.si, .int .i64 f.ab] rfl rfl (cells_newF _ _) (by simp [Value.oneCell']) (by unfold maxLen; omega) (by omega) (by have := HB.out.size; have := HO.out; have := HR.out.lt; simp; omega) ?_)
          intro v' W4 hown hg _ _
          have HX := Lib.hid (rall_step (f' := { f with pl := m }) HB.out HR.out (by omega) (by omega) HO.out hown hg)
          clear hown hg
          go_wp2
          obtain ⟨x1, x2, x3⟩ := HX.out
          obtain ⟨y1, y2⟩ := HG.out
          refine ⟨⟨j + 1, _, rfl, by omega, by go_num, by rw [y1], ?_, Lib.hid x2, Lib.hid x1⟩, by simp only [intOf]; omega⟩
          rw [List.take_add_one, show (FD 1)[j]? = _ from y2]
          exact Lib.hid x3
        · rw [if_neg h3, if_neg h3, Int.add_zero] at HG
          go_wp2_with (at_builtin; refine wpList_append_own_at _ rfl (.tmp 67) (.tmp 69) 43 rfl (w.heap.size + 2) 49 f0 _ 7 64 Try.underlying43 hf0 hf1 hf2 hf3 rfl (by decide) _ _ _ rfl (own_below7 HO.out (((Below.refl _ wr).alloc (Nat.le_refl _) _).alloc (by simp) _)) ⟨wr.heap.size + 1, 0, none⟩ 1 1 [Value.string f.nm, .int .i64 f.so, .int .i64 (-1), .int .i64 f.le, .int .i64 f.mo, .int .i64 f.si, .int .i64 f.ab] rfl rfl (cells_newF _ _) (by simp [Value.oneCell']) (by unfold maxLen; omega) (by omega) (by have := HB.out.size; have := HO.out; have := HR.out.lt; simp; omega) ?_)
          intro v' W4 hown hg _ _
          have HX := Lib.hid (rall_step (f' := { f with pl := -1 }) HB.out HR.out (by omega) (by omega) HO.out hown hg)
          clear hown hg
          go_wp2
          obtain ⟨x1, x2, x3⟩ := HX.out
          obtain ⟨y1, y2⟩ := HG.out
          refine ⟨⟨j + 1, _, rfl, by omega, by go_num, by rw [y1], ?_, Lib.hid x2, Lib.hid x1⟩, by simp only [intOf]; omega⟩
          rw [List.take_add_one, show (FD 1)[j]? = _ from y2]
          exact Lib.hid x3
      · obtain rfl : j = 5 := by omega
        go_wp2
        go_ret
        exact rall_fin (L := FD 1) (n := 5) rfl HO.out HB.out (by omega)
  · go_wp2_with fail
    go_loopw [3, 4, 6] (fun v x iv wr => ∃ (j : Nat) (u : Value), u = v ∧ j ≤ 3 ∧ iv = .int .i64 (j : Int) ∧ x = .int .i64 (nums3 ((raw 2).take j)) ∧ Hid (wr.ownsRow (w.heap.size + 2) 49 7 u j (flat7 ((FD 2).take j))) ∧ Hid (FRow 49 wr (w.heap.size + 1) (raw 2)) ∧ Hid (Below w.heap.size w wr)) (fun _ _ iv _ => 3 - (intOf iv).toNat)
    case atStart => exact ⟨0, _, rfl, by omega, rfl, rfl, Lib.hid (World.ownsRow_nil _ _ _ _), Lib.hid ((by rw [show w.heap.size + 1 = (w.alloc (.cells #[] 49)).heap.size by simp]; exact World.alloc_heap_new _ _)), Lib.hid (((Below.refl _ w).alloc (Nat.le_refl _) _).alloc (by simp) _)⟩
    case round =>
      obtain ⟨j, u, rfl, hj, rfl, rfl, HO, HR, HB⟩ := hrel
      rcases Nat.lt_or_ge j 3 with hlt | hge
      · obtain ⟨f, hf⟩ : ∃ f, (raw 2)[j]? = some f := ⟨_, List.getElem?_eq_getElem (by show j < 3; exact hlt)⟩
        have hs := raw_so 2 f (List.mem_of_getElem? hf)
        obtain ⟨d0, d1, d2, d3, d4, d5, d6⟩ := HR.out.seven hf
        obtain ⟨m, hm⟩ : ∃ m, nums3 ((raw 2).take j) = m := ⟨_, rfl⟩
        have hm2 := nums3_nonneg ((raw 2).take j)
        rw [hm, List.length_take] at hm2
        have ht := nums3_take (raw 2) j f hf
        have hp := pls_get (raw 2) 0 j f hf
        rw [hm] at ht hp
        rw [hm]
        have hmm : 0 ≤ m ∧ m ≤ 6 := by omega
        have HG := Lib.hid (And.intro ht hp)
        have HW := Lib.hid HB.out.size
        clear ht hp hm hm2 hf
        by_cases h3 : f.so < 3
        · rw [if_pos h3, if_pos h3, Int.zero_add] at HG
          go_wp2_with (at_builtin; refine wpList_append_own_at _ rfl (.tmp 67) (.tmp 69) 43 rfl (w.heap.size + 2) 49 f0 _ 7 64 Try.underlying43 hf0 hf1 hf2 hf3 rfl (by decide) _ _ _ rfl (own_below7 HO.out (((Below.refl _ wr).alloc (Nat.le_refl _) _).alloc (by simp) _)) ⟨wr.heap.size + 1, 0, none⟩ 1 1 [Value.string f.nm, .int .i64 f.so, .int .i64 m, .int .i64 f.le, .int .i64 f.mo, .int .i64 f.si, .int .i64 f.ab] rfl rfl (cells_newF _ _) (by simp [Value.oneCell']) (by unfold maxLen; omega) (by omega) (by have := HB.out.size; have := HO.out; have := HR.out.lt; simp; omega) ?_)
          intro v' W4 hown hg _ _
          have HX := Lib.hid (rall_step (f' := { f with pl := m }) HB.out HR.out (by omega) (by omega) HO.out hown hg)
          clear hown hg
          go_wp2
          obtain ⟨x1, x2, x3⟩ := HX.out
          obtain ⟨y1, y2⟩ := HG.out
          refine ⟨⟨j + 1, _, rfl, by omega, by go_num, by rw [y1], ?_, Lib.hid x2, Lib.hid x1⟩, by simp only [intOf]; omega⟩
          rw [List.take_add_one, show (FD 2)[j]? = _ from y2]
          exact Lib.hid x3
        · rw [if_neg h3, if_neg h3, Int.add_zero] at HG
          go_wp2_with (at_builtin; refine wpList_append_own_at _ rfl (.tmp 67) (.tmp 69) 43 rfl (w.heap.size + 2) 49 f0 _ 7 64 Try.underlying43 hf0 hf1 hf2 hf3 rfl (by decide) _ _ _ rfl (own_below7 HO.out (((Below.refl _ wr).alloc (Nat.le_refl _) _).alloc (by simp) _)) ⟨wr.heap.size + 1, 0, none⟩ 1 1 [Value.string f.nm, .int .i64 f.so, .int .i64 (-1), .int .i64 f.le, .int .i64 f.mo, .int .i64 f.si, .int .i64 f.ab] rfl rfl (cells_newF _ _) (by simp [Value.oneCell']) (by unfold maxLen; omega) (by omega) (by have := HB.out.size; have := HO.out; have := HR.out.lt; simp; omega) ?_)
          intro v' W4 hown hg _ _
          have HX := Lib.hid (rall_step (f' := { f with pl := -1 }) HB.out HR.out (by omega) (by omega) HO.out hown hg)
          clear hown hg
          go_wp2
          obtain ⟨x1, x2, x3⟩ := HX.out
          obtain ⟨y1, y2⟩ := HG.out
          refine ⟨⟨j + 1, _, rfl, by omega, by go_num, by rw [y1], ?_, Lib.hid x2, Lib.hid x1⟩, by simp only [intOf]; omega⟩
          rw [List.take_add_one, show (FD 2)[j]? = _ from y2]
          exact Lib.hid x3
      · obtain rfl : j = 3 := by omega
        go_wp2
        go_ret
        exact rall_fin (L := FD 2) (n := 3) rfl HO.out HB.out (by omega)
  · go_wp2_with fail
    go_loopw [3, 4, 6] (fun v x iv wr => ∃ (j : Nat) (u : Value), u = v ∧ j ≤ 4 ∧ iv = .int .i64 (j : Int) ∧ x = .int .i64 (nums3 ((raw 3).take j)) ∧ Hid (wr.ownsRow (w.heap.size + 2) 49 7 u j (flat7 ((FD 3).take j))) ∧ Hid (FRow 49 wr (w.heap.size + 1) (raw 3)) ∧ Hid (Below w.heap.size w wr)) (fun _ _ iv _ => 4 - (intOf iv).toNat)
    case atStart => exact ⟨0, _, rfl, by omega, rfl, rfl, Lib.hid (World.ownsRow_nil _ _ _ _), Lib.hid ((by rw [show w.heap.size + 1 = (w.alloc (.cells #[] 49)).heap.size by simp]; exact World.alloc_heap_new _ _)), Lib.hid (((Below.refl _ w).alloc (Nat.le_refl _) _).alloc (by simp) _)⟩
    case round =>
      obtain ⟨j, u, rfl, hj, rfl, rfl, HO, HR, HB⟩ := hrel
      rcases Nat.lt_or_ge j 4 with hlt | hge
      · obtain ⟨f, hf⟩ : ∃ f, (raw 3)[j]? = some f := ⟨_, List.getElem?_eq_getElem (by show j < 4; exact hlt)⟩
        have hs := raw_so 3 f (List.mem_of_getElem? hf)
        obtain ⟨d0, d1, d2, d3, d4, d5, d6⟩ := HR.out.seven hf
        obtain ⟨m, hm⟩ : ∃ m, nums3 ((raw 3).take j) = m := ⟨_, rfl⟩
        have hm2 := nums3_nonneg ((raw 3).take j)
        rw [hm, List.length_take] at hm2
        have ht := nums3_take (raw 3) j f hf
        have hp := pls_get (raw 3) 0 j f hf
        rw [hm] at ht hp
        rw [hm]
        have hmm : 0 ≤ m ∧ m ≤ 6 := by omega
        have HG := Lib.hid (And.intro ht hp)
        have HW := Lib.hid HB.out.size
        clear ht hp hm hm2 hf
        by_cases h3 : f.so < 3
        · rw [if_pos h3, if_pos h3, Int.zero_add] at HG
          go_wp2_with (at_builtin; refine wpList_append_own_at _ rfl (.tmp 67) (.tmp 69) 43 rfl (w.heap.size + 2) 49 f0 _ 7 64 Try.underlying43 hf0 hf1 hf2 hf3 rfl (by decide) _ _ _ rfl (own_below7 HO.out (((Below.refl _ wr).alloc (Nat.le_refl _) _).alloc (by simp) _)) ⟨wr.heap.size + 1, 0, none⟩ 1 1 [Value.string f.nm, .int .i64 f.so, .int .i64 m, .int .i64 f.le, .int .i64 f.mo, .int .i64 f.si, .int .i64 f.ab] rfl rfl (cells_newF _ _) (by simp [Value.oneCell']) (by unfold maxLen; omega) (by omega) (by have := HB.out.size; have := HO.out; have := HR.out.lt; simp; omega) ?_)
          intro v' W4 hown hg _ _
          have HX := Lib.hid (rall_step (f' := { f with pl := m }) HB.out HR.out (by omega) (by omega) HO.out hown hg)
          clear hown hg
          go_wp2
          obtain ⟨x1, x2, x3⟩ := HX.out
          obtain ⟨y1, y2⟩ := HG.out
          refine ⟨⟨j + 1, _, rfl, by omega, by go_num, by rw [y1], ?_, Lib.hid x2, Lib.hid x1⟩, by simp only [intOf]; omega⟩
          rw [List.take_add_one, show (FD 3)[j]? = _ from y2]
          exact Lib.hid x3
        · rw [if_neg h3, if_neg h3, Int.add_zero] at HG
          go_wp2_with (at_builtin; refine wpList_append_own_at _ rfl (.tmp 67) (.tmp 69) 43 rfl (w.heap.size + 2) 49 f0 _ 7 64 Try.underlying43 hf0 hf1 hf2 hf3 rfl (by decide) _ _ _ rfl (own_below7 HO.out (((Below.refl _ wr).alloc (Nat.le_refl _) _).alloc (by simp) _)) ⟨wr.heap.size + 1, 0, none⟩ 1 1 [Value.string f.nm, .int .i64 f.so, .int .i64 (-1), .int .i64 f.le, .int .i64 f.mo, .int .i64 f.si, .int .i64 f.ab] rfl rfl (cells_newF _ _) (by simp [Value.oneCell']) (by unfold maxLen; omega) (by omega) (by have := HB.out.size; have := HO.out; have := HR.out.lt; simp; omega) ?_)
          intro v' W4 hown hg _ _
          have HX := Lib.hid (rall_step (f' := { f with pl := -1 }) HB.out HR.out (by omega) (by omega) HO.out hown hg)
          clear hown hg
          go_wp2
          obtain ⟨x1, x2, x3⟩ := HX.out
          obtain ⟨y1, y2⟩ := HG.out
          refine ⟨⟨j + 1, _, rfl, by omega, by go_num, by rw [y1], ?_, Lib.hid x2, Lib.hid x1⟩, by simp only [intOf]; omega⟩
          rw [List.take_add_one, show (FD 3)[j]? = _ from y2]
          exact Lib.hid x3
      · obtain rfl : j = 4 := by omega
        go_wp2
        go_ret
        exact rall_fin (L := FD 3) (n := 4) rfl HO.out HB.out (by omega)
  · go_wp2_with fail
    go_loopw [3, 4, 6] (fun v x iv wr => ∃ (j : Nat) (u : Value), u = v ∧ j ≤ 6 ∧ iv = .int .i64 (j : Int) ∧ x = .int .i64 (nums3 ((raw 4).take j)) ∧ Hid (wr.ownsRow (w.heap.size + 2) 49 7 u j (flat7 ((FD 4).take j))) ∧ Hid (FRow 49 wr (w.heap.size + 1) (raw 4)) ∧ Hid (Below w.heap.size w wr)) (fun _ _ iv _ => 6 - (intOf iv).toNat)
    case atStart => exact ⟨0, _, rfl, by omega, rfl, rfl, Lib.hid (World.ownsRow_nil _ _ _ _), Lib.hid ((by rw [show w.heap.size + 1 = (w.alloc (.cells #[] 49)).heap.size by simp]; exact World.alloc_heap_new _ _)), Lib.hid (((Below.refl _ w).alloc (Nat.le_refl _) _).alloc (by simp) _)⟩
    case round =>
      obtain ⟨j, u, rfl, hj, rfl, rfl, HO, HR, HB⟩ := hrel
      rcases Nat.lt_or_ge j 6 with hlt | hge
      · obtain ⟨f, hf⟩ : ∃ f, (raw 4)[j]? = some f := ⟨_, List.getElem?_eq_getElem (by show j < 6; exact hlt)⟩
        have hs := raw_so 4 f (List.mem_of_getElem? hf)
        obtain ⟨d0, d1, d2, d3, d4, d5, d6⟩ := HR.out.seven hf
        obtain ⟨m, hm⟩ : ∃ m, nums3 ((raw 4).take j) = m := ⟨_, rfl⟩
        have hm2 := nums3_nonneg ((raw 4).take j)
        rw [hm, List.length_take] at hm2
        have ht := nums3_take (raw 4) j f hf
        have hp := pls_get (raw 4) 0 j f hf
        rw [hm] at ht hp
        rw [hm]
        have hmm : 0 ≤ m ∧ m ≤ 6 := by omega
        have HG := Lib.hid (And.intro ht hp)
        have HW := Lib.hid HB.out.size
        clear ht hp hm hm2 hf
        by_cases h3 : f.so < 3
        · rw [if_pos h3, if_pos h3, Int.zero_add] at HG
          go_wp2_with (at_builtin; refine wpList_append_own_at _ rfl (.tmp 67) (.tmp 69) 43 rfl (w.heap.size + 2) 49 f0 _ 7 64 Try.underlying43 hf0 hf1 hf2 hf3 rfl (by decide) _ _ _ rfl (own_below7 HO.out (((Below.refl _ wr).alloc (Nat.le_refl _) _).alloc (by simp) _)) ⟨wr.heap.size + 1, 0, none⟩ 1 1 [Value.string f.nm, .int .i64 f.so, .int .i64 m, .int .i64 f.le, .int .i64 f.mo, .int .i64 f.si, .int .i64 f.ab] rfl rfl (cells_newF _ _) (by simp [Value.oneCell']) (by unfold maxLen; omega) (by omega) (by have := HB.out.size; have := HO.out; have := HR.out.lt; simp; omega) ?_)
          intro v' W4 hown hg _ _
          have HX := Lib.hid (rall_step (f' := { f with pl := m }) HB.out HR.out (by omega) (by omega) HO.out hown hg)
          clear hown hg
          go_wp2
          obtain ⟨x1, x2, x3⟩ := HX.out
          obtain ⟨y1, y2⟩ := HG.out
          refine ⟨⟨j + 1, _, rfl, by omega, by go_num, by rw [y1], ?_, Lib.hid x2, Lib.hid x1⟩, by simp only [intOf]; omega⟩
          rw [List.take_add_one, show (FD 4)[j]? = _ from y2]
          exact Lib.hid x3
        · rw [if_neg h3, if_neg h3, Int.add_zero] at HG
          go_wp2_with (at_builtin; refine wpList_append_own_at _ rfl (.tmp 67) (.tmp 69) 43 rfl (w.heap.size + 2) 49 f0 _ 7 64 Try.underlying43 hf0 hf1 hf2 hf3 rfl (by decide) _ _ _ rfl (own_below7 HO.out (((Below.refl _ wr).alloc (Nat.le_refl _) _).alloc (by simp) _)) ⟨wr.heap.size + 1, 0, none⟩ 1 1 [Value.string f.nm, .int .i64 f.so, .int .i64 (-1), .int .i64 f.le, .int .i64 f.mo, .int .i64 f.si, .int .i64 f.ab] rfl rfl (cells_newF _ _) (by simp [Value.oneCell']) (by unfold maxLen; omega) (by omega) (by have := HB.out.size; have := HO.out; have := HR.out.lt; simp; omega) ?_)
          intro v' W4 hown hg _ _
          have HX := Lib.hid (rall_step (f' := { f with pl := -1 }) HB.out HR.out (by omega) (by omega) HO.out hown hg)
          clear hown hg
          go_wp2
          obtain ⟨x1, x2, x3⟩ := HX.out
          obtain ⟨y1, y2⟩ := HG.out
          refine ⟨⟨j + 1, _, rfl, by omega, by go_num, by rw [y1], ?_, Lib.hid x2, Lib.hid x1⟩, by simp only [intOf]; omega⟩
          rw [List.take_add_one, show (FD 4)[j]? = _ from y2]
          exact Lib.hid x3
      · obtain rfl : j = 6 := by omega
        go_wp2
        go_ret
        exact rall_fin (L := FD 4) (n := 6) rfl HO.out HB.out (by omega)
  · go_wp2_with fail
    go_loopw [3, 4, 6] (fun v x iv wr => ∃ (j : Nat) (u : Value), u = v ∧ j ≤ 6 ∧ iv = .int .i64 (j : Int) ∧ x = .int .i64 (nums3 ((raw 5).take j)) ∧ Hid (wr.ownsRow (w.heap.size + 2) 49 7 u j (flat7 ((FD 5).take j))) ∧ Hid (FRow 49 wr (w.heap.size + 1) (raw 5)) ∧ Hid (Below w.heap.size w wr)) (fun _ _ iv _ => 6 - (intOf iv).toNat)
    case atStart => exact ⟨0, _, rfl, by omega, rfl, rfl, Lib.hid (World.ownsRow_nil _ _ _ _), Lib.hid ((by rw [show w.heap.size + 1 = (w.alloc (.cells #[] 49)).heap.size by simp]; exact World.alloc_heap_new _ _)), Lib.hid (((Below.refl _ w).alloc (Nat.le_refl _) _).alloc (by simp) _)⟩
    case round =>
      obtain ⟨j, u, rfl, hj, rfl, rfl, HO, HR, HB⟩ := hrel
      rcases Nat.lt_or_ge j 6 with hlt | hge
      · obtain ⟨f, hf⟩ : ∃ f, (raw 5)[j]? = some f := ⟨_, List.getElem?_eq_getElem (by show j < 6; exact hlt)⟩
        have hs := raw_so 5 f (List.mem_of_getElem? hf)
        obtain ⟨d0, d1, d2, d3, d4, d5, d6⟩ := HR.out.seven hf
        obtain ⟨m, hm⟩ : ∃ m, nums3 ((raw 5).take j) = m := ⟨_, rfl⟩
        have hm2 := nums3_nonneg ((raw 5).take j)
        rw [hm, List.length_take] at hm2
        have ht := nums3_take (raw 5) j f hf
        have hp := pls_get (raw 5) 0 j f hf
        rw [hm] at ht hp
        rw [hm]
        have hmm : 0 ≤ m ∧ m ≤ 6 := by omega
        have HG := Lib.hid (And.intro ht hp)
        have HW := Lib.hid HB.out.size
        clear ht hp hm hm2 hf
        by_cases h3 : f.so < 3
        · rw [if_pos h3, if_pos h3, Int.zero_add] at HG
          go_wp2_with (at_builtin; refine wpList_append_own_at _ rfl (.tmp 67) (.tmp 69) 43 rfl (w.heap.size + 2) 49 f0 _ 7 64 Try.underlying43 hf0 hf1 hf2 hf3 rfl (by decide) _ _ _ rfl (own_below7 HO.out (((Below.refl _ wr).alloc (Nat.le_refl _) _).alloc (by simp) _)) ⟨wr.heap.size + 1, 0, none⟩ 1 1 [Value.string f.nm, .int .i64 f.so, .int .i64 m, .int .i64 f.le, .int .i64 f.mo, .int .i64 f.si, .int .i64 f.ab] rfl rfl (cells_newF _ _) (by simp [Value.oneCell']) (by unfold maxLen; omega) (by omega) (by have := HB.out.size; have := HO.out; have := HR.out.lt; simp; omega) ?_)
          intro v' W4 hown hg _ _
          have HX := Lib.hid (rall_step (f' := { f with pl := m }) HB.out HR.out (by omega) (by omega) HO.out hown hg)
          clear hown hg
          go_wp2
          obtain ⟨x1, x2, x3⟩ := HX.out
          obtain ⟨y1, y2⟩ := HG.out
          refine ⟨⟨j + 1, _, rfl, by omega, by go_num, by rw [y1], ?_, Lib.hid x2, Lib.hid x1⟩, by simp only [intOf]; omega⟩
          rw [List.take_add_one, show (FD 5)[j]? = _ from y2]
          exact Lib.hid x3
        · rw [if_neg h3, if_neg h3, Int.add_zero] at HG
          go_wp2_with (at_builtin; refine wpList_append_own_at _ rfl (.tmp 67) (.tmp 69) 43 rfl (w.heap.size + 2) 49 f0 _ 7 64 Try.underlying43 hf0 hf1 hf2 hf3 rfl (by decide) _ _ _ rfl (own_below7 HO.out (((Below.refl _ wr).alloc (Nat.le_refl _) _).alloc (by simp) _)) ⟨wr.heap.size + 1, 0, none⟩ 1 1 [Value.string f.nm, .int .i64 f.so, .int .i64 (-1), .int .i64 f.le, .int .i64 f.mo, .int .i64 f.si, .int .i64 f.ab] rfl rfl (cells_newF _ _) (by simp [Value.oneCell']) (by unfold maxLen; omega) (by omega) (by have := HB.out.size; have := HO.out; have := HR.out.lt; simp; omega) ?_)
          intro v' W4 hown hg _ _
          have HX := Lib.hid (rall_step (f' := { f with pl := -1 }) HB.out HR.out (by omega) (by omega) HO.out hown hg)
          clear hown hg
          go_wp2
          obtain ⟨x1, x2, x3⟩ := HX.out
          obtain ⟨y1, y2⟩ := HG.out
          refine ⟨⟨j + 1, _, rfl, by omega, by go_num, by rw [y1], ?_, Lib.hid x2, Lib.hid x1⟩, by simp only [intOf]; omega⟩
          rw [List.take_add_one, show (FD 5)[j]? = _ from y2]
          exact Lib.hid x3
      · obtain rfl : j = 6 := by omega
        go_wp2
        go_ret
        exact rall_fin (L := FD 5) (n := 6) rfl HO.out HB.out (by omega)
end Go.Proofs.Ytnbhiamnoapmlaa
