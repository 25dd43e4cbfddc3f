/-
  The walk of the law HeadParses: it returns true.
-/
import Derived.Test.YtmmffifndheafaaDoorHdS
import Derived.Test.YtmmffifndheafaaDoorRhP
import Derived.Test.YtmmffifndheafaaDoorHdK
namespace Go.Proofs.YtmmffifndheafaaDoor
open Go.RowKit
set_option maxRecDepth 100000

theorem hparse_any (a : Option Addr) (n cap : Nat) (zs : List Int) (w : World) (hn : zs.length = n) (hz : Bytes zs) (h1 : Nums .u8 w w.heap.size a zs) :
    Calls Tryd.prog 12 #[.slice a n cap] w fun e w' => e = .returned (.tuple #[hdP (prs zs).1, .int .i64 (prs zs).2]) ∧ Below w.heap.size w w' := by
  subst hn
  rcases Nat.lt_trichotomy zs.length 8 with h | h | h
  · rw [prs_short h]; exact hparse_short a _ cap w h
  · rw [h]
    obtain ⟨z0, z1, z2, z3, z4, z5, z6, z7, rfl⟩ := eight h
    exact hparse_8 a cap z0 z1 z2 z3 z4 z5 z6 z7 w (fun x hx => by have := hz x hx; omega) h1
  · rw [prs_long h]; exact hparse_long a _ cap w h
theorem rparse_any (a : Option Addr) (n cap : Nat) (zs : List Int) (w : World) (hn : zs.length = n) (hz : Bytes zs) (h1 : Nums .u8 w w.heap.size a zs) :
    Calls Tryd.prog 16 #[.slice a n cap] w fun e w' => e = .returned (.tuple #[hdP (prs zs).1, .int .i64 (prs zs).2]) ∧ Below w.heap.size w w' := by
  subst hn
  rcases Nat.lt_trichotomy zs.length 8 with h | h | h
  · rw [prs_short h]; exact rparse_short a _ cap w h
  · rw [h]
    obtain ⟨z0, z1, z2, z3, z4, z5, z6, z7, rfl⟩ := eight h
    exact rparse_8 a cap z0 z1 z2 z3 z4 z5 z6 z7 w (fun x hx => by have := hz x hx; omega) h1
  · rw [prs_long h]; exact rparse_long a _ cap w h

/-- what is parsed is told by just these bytes -/
theorem prs_ok {zs : List Int} {v k s i c : Int} (hz : Bytes zs) (h : prs zs = ((v, k, s, i, c), 0)) : chk v k i c = 0 ∧ 0 ≤ s ∧ s ≤ 4294967295 ∧ hdB v k s i c = zs ∧ zs.length = 8 := by
  rcases Nat.lt_trichotomy zs.length 8 with h8 | h8 | h8
  · rw [prs_short h8] at h; cases h
  · obtain ⟨z0, z1, z2, z3, z4, z5, z6, z7, rfl⟩ := eight h8
    rw [prs_8] at h
    by_cases h0 : chk z0 z1 z6 z7 = 0
    · rw [if_pos h0] at h
      injection h with h h9
      injection h with e1 h; injection h with e2 h; injection h with e3 h; injection h with e4 e5
      subst e1 e2 e3 e4 e5
      have r2 := hz z2 (by simp); have r3 := hz z3 (by simp); have r4 := hz z4 (by simp); have r5 := hz z5 (by simp)
      simp only [le]
      refine ⟨h0, by omega, by omega, ?_, rfl⟩
      unfold hdB
      simp only [List.cons.injEq, and_true, true_and]
      omega
    · rw [if_neg h0] at h
      injection h with h h9
      exact absurd h9 h0
  · rw [prs_long h8] at h; cases h

set_option maxHeartbeats 4000000 in
theorem parses_go (a : Option Addr) (n m c : Nat) (es : List Int) (w : World) (hn : es.length = n) (hc : n ≤ c) (hz : Bytes es) (h1 : Nums .u8 w w.heap.size a es)
    (hm : min (n : Int) 20 = (m : Int)) (hmn : m ≤ n) (ht : Tens w w.heap.size) :
    Calls Tryd.prog 4 #[.slice a n c] w fun e w' => e = .returned (.bool true) ∧ Below w.heap.size w w' := by
  have hmc : (m : Int) ≤ (c : Int) := by omega
  have hlen : (es.take m).length = m := by rw [List.length_take]; omega
  have hzb := hz.take m
  have hnum := h1.take m
  generalize es.take m = zs at *
  clear hz h1 hn
  obtain ⟨⟨⟨v, k, s, i, d⟩, er⟩, hP⟩ : ∃ x, prs zs = x := ⟨_, rfl⟩
  have K1 := hparse_any a m c zs w hlen hzb hnum
  have K2 := fun W (hb : Below w.heap.size w W) => rparse_any a m c zs W hlen hzb ((hnum.below hb).mono hb.size)
  rw [hP] at K1
  simp only [hP, hdP] at K1 K2
  unfold hdV at K1 K2
  have HP := Lib.hid hP
  have HZ := Lib.hid hzb
  have HL := Lib.hid hlen
  clear hP hzb hlen
  by_cases h0 : er = 0
  · subst h0
    have hok := prs_ok HZ.out HP.out
    have HO := Lib.hid hok
    clear hok
    go_enter Tryd.func4, Tryd.ntmps4
    go_wp2_with fail
    refine K1.mono ?_
    rintro e w1 ⟨rfl, hb1⟩
    clear K1
    go_wp2_with fail
    have ha := (Below.refl _ w1).alloc (Nat.le_refl _) (.cells #[.int .i64 v, .int .i64 k, .int .u32 s, .int .i64 i, .int .i64 d] 24)
    have hb2 := hb1.trans (ha.mono hb1.size)
    refine (K2 _ hb2).mono ?_
    rintro e w2 ⟨rfl, hb3⟩
    have hs1 := hb1.size
    have hs2 := hb3.size
    rw [World.size_alloc] at hs2
    have hB : (w2.alloc (.cells #[.int .i64 v, .int .i64 k, .int .u32 s, .int .i64 i, .int .i64 d] 30)).heap[w1.heap.size]? = some (.cells #[.int .i64 v, .int .i64 k, .int .u32 s, .int .i64 i, .int .i64 d] 24 (0, 0)) := (Below.heap_alloc _ _ _ (by omega)).trans ((hb3.block _ (by simp)).trans (World.alloc_heap_new _ _))
    obtain ⟨d0, d1, d2, d3, d4⟩ := hd_block hB
    have hb4 := (hb2.trans (hb3.mono (by simp; omega))).alloc (by omega) (.cells #[.int .i64 v, .int .i64 k, .int .u32 s, .int .i64 i, .int .i64 d] 30)
    have HB := Lib.hid hb4
    clear K2 ha hb2 hb3 hb1 hB hb4
    go_wp2_with fail
    generalize w2.alloc (.cells #[.int .i64 v, .int .i64 k, .int .u32 s, .int .i64 i, .int .i64 d] 30) = W3 at HB d0 d1 d2 d3 d4 ⊢
    have HC := hbytes_any v k s i d ⟨HO.out.2.1, HO.out.2.2.1⟩ W3
    unfold hdV at HC
    refine HC.mono ?_
    rintro e W4 ⟨hr, hb5⟩
    clear HC d0 d1 d2 d3 d4
    rcases hr with ⟨h, _⟩ | ⟨_, g, hg, rfl, hn⟩
    · exact absurd HO.out.1 h
    rw [HO.out.2.2.2.1] at hn
    have HN := Lib.hid hn
    have HB4 := Lib.hid (HB.out.trans (hb5.mono HB.out.size))
    have hL8 := HL.out
    rw [HO.out.2.2.2.2] at hL8
    have Hm := Lib.hid hL8
    clear hn hb5 hg hL8
    have KN := known_any w.heap.size W4 (ht.below HB4.out) HB4.out.size
    go_wp2_with fail
    refine KN.mono ?_
    rintro e W5 ⟨rfl, hb6⟩
    clear KN
    have HB5 := Lib.hid (HB4.out.trans (hb6.mono HB4.out.size))
    have S5 := same_len W5.heap.size (some ⟨g, 0, none⟩) a 8 m 8 c zs zs W5 rfl (HL.out.trans Hm.out.symm) HL.out (by omega) ((HN.out.below hb6).mono hb6.size) ((hnum.below HB5.out).mono HB5.out.size)
    clear hb6
    go_wp2_with fail
    refine S5.mono ?_
    rintro e W6 ⟨rfl, q, hq⟩
    have HB6 : Hid (Below w.heap.size w W6) := by rw [hq]; exact below_drewN HB5.out q
    clear S5 hq
    go_wp2
    go_ret
    exact ⟨rfl, HB6.out⟩
  · have h2 : (er != 0) = true := by simpa using h0
    go_enter Tryd.func4, Tryd.ntmps4
    go_wp2_with fail
    refine K1.mono ?_
    rintro e w1 ⟨rfl, hb1⟩
    clear K1
    go_wp2_with fail
    have ha := (Below.refl _ w1).alloc (Nat.le_refl _) (.cells #[.int .i64 v, .int .i64 k, .int .u32 s, .int .i64 i, .int .i64 d] 24)
    have hb2 := hb1.trans (ha.mono hb1.size)
    refine (K2 _ hb2).mono ?_
    rintro e w2 ⟨rfl, hb3⟩
    have hs1 := hb1.size
    have hs2 := hb3.size
    rw [World.size_alloc] at hs2
    have hB : (w2.alloc (.cells #[.int .i64 v, .int .i64 k, .int .u32 s, .int .i64 i, .int .i64 d] 30)).heap[w1.heap.size]? = some (.cells #[.int .i64 v, .int .i64 k, .int .u32 s, .int .i64 i, .int .i64 d] 24 (0, 0)) := (Below.heap_alloc _ _ _ (by omega)).trans ((hb3.block _ (by simp)).trans (World.alloc_heap_new _ _))
    obtain ⟨d0, d1, d2, d3, d4⟩ := hd_block hB
    have hb4 := (hb2.trans (hb3.mono (by simp; omega))).alloc (by omega) (.cells #[.int .i64 v, .int .i64 k, .int .u32 s, .int .i64 i, .int .i64 d] 30)
    have HB := Lib.hid hb4
    clear K2 ha hb2 hb3 hb1 hB hb4
    go_wp2_with fail
    have KN := known_any w.heap.size _ (ht.below HB.out) HB.out.size
    refine KN.mono ?_
    rintro e w5 ⟨rfl, hb5⟩
    have HF := Lib.hid (HB.out.trans (hb5.mono HB.out.size))
    clear hb5 KN
    go_wp2
    go_ret
    exact ⟨rfl, HF.out⟩

theorem walk_parses (a0 : Option Addr) (len0 cap0 : Nat) (z0 : List Int) (w : World) (w0 : IsRow .u8 w a0 len0 cap0 z0) (ht : Tens w w.heap.size) :
    Calls Tryd.prog 4 #[.slice a0 len0 cap0] w fun e w' => e = .returned (.bool true) ∧ Below w.heap.size w w' := by
  obtain ⟨e0, l0, q0, m0, k0, r0⟩ := w0.elems
  exact parses_go a0 len0 (min len0 20) cap0 e0 w l0 q0 (bytes_of r0) k0 (by omega) (by omega) ht
end Go.Proofs.YtmmffifndheafaaDoor
