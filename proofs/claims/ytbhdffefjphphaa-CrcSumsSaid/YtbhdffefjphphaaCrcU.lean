/-
  The walk of the law CrcSums: it returns true. (Written by tools/gen_sums.py.)
-/
import Derived.Test.YtbhdffefjphphaaCrcZ
import Derived.Test.YtbhdffefjphphaaCrcE
import Derived.Test.YtbhdffefjphphaaRfS
import Derived.Test.YtbhdffefjphphaaQ6
namespace Go.Proofs.Ytbhdffefjphphaa
open Go.RowKit
set_option maxRecDepth 100000

theorem parts_later {w w' : World} {B : Nat} {a : Option Addr} {ps : List Part} (h : Parts w B a ps) (hB : B ≤ w.heap.size) (hb : Below w.heap.size w w') : Parts w' B a ps :=
  ⟨fun p hp => (h.1 p hp).below (hb.mono hB), fun hn => let ⟨b, off, e, hc⟩ := h.2 hn
    ⟨b, off, e, fun j p hj => (hb.cell (p := ⟨b, off + j, none⟩) (block_of_cell (hc j p hj))).trans (hc j p hj)⟩⟩
/-- a slice of parts -/
def FSl (B0 : Nat) (ps : List Part) (v : Value) (w : World) : Prop := B0 ≤ w.heap.size ∧ ∃ A, v = .slice A ps.length ps.length ∧ Parts w B0 A ps
theorem FSl.later {B0 : Nat} {ps : List Part} {v : Value} {w w' : World} (h : FSl B0 ps v w) (hb : Below w.heap.size w w') : FSl B0 ps v w' :=
  let ⟨h1, A, e, hp⟩ := h
  ⟨Nat.le_trans h1 hb.size, A, e, parts_later hp h1 hb⟩
theorem FSl.lit {B0 : Nat} (ps : List Part) {w : World} (hB : B0 ≤ w.heap.size) (hp : ∀ p ∈ ps, p.At w B0) : FSl B0 ps (.slice (some ⟨w.heap.size, 0, none⟩) ps.length ps.length) (w.alloc (.cells (ps.map fun p => Value.slice p.a p.zs.length p.c).toArray 22)) :=
  ⟨by simp; omega, _, rfl, Parts.new 22 _ hp hB rfl⟩
theorem FSl.sum {B0 b : Nat} {ps : List Part} {L : List Int} {v : Value} {w : World} (h : FSl B0 ps v w) (ht : TabAt w B0 b) (hl : ps.length ≤ 9223372036854775807) (hf : flat ps = L) : Calls Try.prog 16 #[.pointer (some ⟨b, 0, none⟩), v] w fun e w' => e = .returned (.int .u32 ((Cr.sum L : Nat) : Int)) ∧ Below w.heap.size w w' := by
  obtain ⟨_, A, rfl, hp⟩ := h
  subst hf
  refine (sum_any B0 b A ps.length ps.length ps w ht rfl hl hp).mono ?_
  rintro e w' ⟨rfl, d, rfl⟩
  exact ⟨rfl, below_drewN (Below.refl _ _) d⟩

set_option maxHeartbeats 600000 in
theorem sums_in (a : Option Addr) (n m c : Nat) (es : List Int) (at_ i : Int) (w : World) (hn : es.length = n) (hc : n ≤ c) (_hl : n ≤ 9223372036854775807) (hz : Bytes es) (h1' : Nums .u8 w w.heap.size a es)
    (hm : min (n : Int) 200 = (m : Int)) (hmn : m ≤ n) (hm2 : m ≤ 200) (h0 : 0 ≤ i) (h1 : i < 256) :
    Calls Try.prog 3 #[.slice a n c, .int .i64 at_, .int .i64 i] w fun e w' => e = .returned (.bool true) ∧ Below w.heap.size w w' := by
  have hmc : (m : Int) ≤ (c : Int) := by omega
  have hlen : (es.take m).length = m := by rw [List.length_take]; omega
  have hzb := hz.take m
  have hu : 0 ≤ IntKind.u64.wrap at_ := by rw [IntKind.wrap_u64]; omega
  have hmod0 := Int.emod_nonneg (IntKind.u64.wrap at_) (show ((m : Int) + 1) ≠ 0 by omega)
  have hmod1 := Int.emod_lt_of_pos (IntKind.u64.wrap at_) (show 0 < ((m : Int) + 1) by omega)
  obtain ⟨k, hk⟩ : ∃ f : Nat, IntKind.u64.wrap at_ % ((m : Int) + 1) = (f : Int) := ⟨(IntKind.u64.wrap at_ % ((m : Int) + 1)).toNat, by omega⟩
  have hkm : k ≤ m := by omega
  clear hmod0 hmod1
  have hnum := h1'.take m
  generalize es.take m = bs at *
  clear hz h1' hn
  go_enter Try.func3, Try.ntmps3
  go_wp2_with fail
  refine (new_any _).mono ?_
  rintro e w1 ⟨rfl, htab, hb, hsz⟩
  have HT : Hid (TabAt w1 w1.heap.size w.heap.size) := by show TabAt _ _ _; rw [hsz]; exact htab
  clear hsz htab
  have K := rsum_any w1.heap.size a m c bs w1 hlen (by omega) hzb (Nat.le_refl _) ((hnum.below hb).mono hb.size)
  go_wp2_with fail
  refine K.mono ?_
  rintro e w2 ⟨rfl, hb2⟩
  clear K
  obtain ⟨j, rfl⟩ := Int.eq_ofNat_of_zero_le h0
  have hj : j < 256 := by omega
  go_wp2_with fail
  refine (of_any j _ (by omega)).mono ?_
  rintro e w3 ⟨rfl, hb3⟩
  go_wp2_with fail
  refine (shift_any j _ (by omega)).mono ?_
  rintro e w4 ⟨rfl, hb4⟩
  have hsl := Cr.shn_lt 8 (show j < 2 ^ 32 by omega)
  go_wp2_with fail
  refine (word_any (Cr.shn 8 j) _ (by omega)).mono ?_
  rintro e w5 ⟨rfl, hb5⟩
  have hbz : Below w2.heap.size w2 w5 := (hb3.trans (hb4.mono hb3.size)).trans (hb5.mono (Nat.le_trans hb3.size hb4.size))
  have hbt := hb2.trans (hbz.mono hb2.size)
  clear hb3 hb4 hb5 hbz hb2
  have hbw : Below w.heap.size w w5 := hb.trans (hbt.mono hb.size)
  have htab : TabAt w5 w5.heap.size w.heap.size := (HT.out.below hbt).mono hbt.size
  have hnum5 := (hnum.below hbw).mono hbw.size
  have lk : (bs.take k).length = k := by rw [List.length_take]; omega
  have ld : (bs.drop k).length = m - k := by rw [List.length_drop]; omega
  have hnd := hnum5.drop (i := k) (cap := c) (by omega)
  obtain ⟨A', hA'⟩ : ∃ A', (if c = k then a else Option.map (fun x => x.add k) a) = A' := ⟨_, rfl⟩
  rw [hA'] at hnd
  have P1 : Part.At w5 w5.heap.size ⟨a, c, bs⟩ := ⟨by simp only; omega, by simp only; omega, hzb, hnum5⟩
  have P2 : Part.At w5 w5.heap.size ⟨a, c, bs.take k⟩ := ⟨by simp only; omega, by simp only; omega, hzb.take k, hnum5.take k⟩
  have P3 : Part.At w5 w5.heap.size ⟨none, 0, []⟩ := ⟨by simp, by simp, by intro z hz; simp at hz, Nums.nil⟩
  have P4 : Part.At w5 w5.heap.size ⟨A', c - k, bs.drop k⟩ := ⟨by simp only; omega, by simp only; omega, hzb.drop k, hnd⟩
  have s1 := Cr.crc_lt (s := Cr.ones) (by decide) (hzb.take k).lt
  have s2 := Cr.crc_lt (s := Cr.crc Cr.ones (bs.take k)) s1 (hzb.drop k).lt
  have hjoin : Cr.crc (Cr.crc Cr.ones (bs.take k)) (bs.drop k) = Cr.crc Cr.ones bs := by rw [← Cr.crc_append, List.take_append_drop]
  have HP : Hid (Part.At w5 w5.heap.size ⟨a, c, bs⟩) := P1
  rw [hjoin] at s2
  have k1 : (k : Int) ≤ (m : Int) := by omega
  have k2 : (k : Int) ≤ (c : Int) := by omega
  have k0 : (0 : Int) ≤ (k : Int) := by omega
  have bt := hzb.take k
  have bd := hzb.drop k
  have C1 : ∀ W, Below w5.heap.size w5 W → Calls Try.prog 13 #[.pointer (some ⟨w.heap.size, 0, none⟩), .int .u32 ((Cr.ones : Nat) : Int), .slice a k c] W fun e w' => e = .returned (.int .u32 ((Cr.crc Cr.ones (bs.take k) : Nat) : Int)) ∧ Below W.heap.size W w' := fun W hW =>
    (add_any w5.heap.size w.heap.size a k c Cr.ones (bs.take k) W (htab.below hW) (by decide) lk (by omega) (by omega) bt ((hnum5.take k).below hW)).mono fun e w' h => ⟨h.1, by obtain ⟨d, hd⟩ := h.2; rw [hd]; exact below_drewN (Below.refl _ _) d⟩
  have C2 : ∀ W, Below w5.heap.size w5 W → Calls Try.prog 13 #[.pointer (some ⟨w.heap.size, 0, none⟩), .int .u32 ((Cr.crc Cr.ones (bs.take k) : Nat) : Int), .slice A' (m - k) (c - k)] W fun e w' => e = .returned (.int .u32 ((Cr.crc Cr.ones bs : Nat) : Int)) ∧ Below W.heap.size W w' := fun W hW =>
    (add_any w5.heap.size w.heap.size A' (m - k) (c - k) (Cr.crc Cr.ones (bs.take k)) (bs.drop k) W (htab.below hW) s1 ld (by omega) (by omega) bd (hnd.below hW)).mono fun e w' h => ⟨by rw [h.1, hjoin], by obtain ⟨d, hd⟩ := h.2; rw [hd]; exact below_drewN (Below.refl _ _) d⟩
  have hsm : Cr.ones - Cr.crc Cr.ones bs = Cr.sum bs := rfl
  have hfl : flat [⟨a, c, bs.take k⟩, ⟨none, 0, []⟩, ⟨A', c - k, bs.drop k⟩] = bs := by simp [flat]
  have hfl1 : flat [⟨a, c, bs⟩] = bs := by simp [flat]
  have HJ := Lib.hid hjoin
  clear hjoin bt bd hnd HP
  generalize hX : bs.take k = X at *
  generalize hY : bs.drop k = Y at *
  clear hX hY hnum HT
  generalize hC1 : Cr.crc Cr.ones X = SX at *
  generalize hC2 : Cr.crc Cr.ones bs = SB at *
  have s1' : SX < 4294967296 := s1
  have s2' : SB < 4294967296 := s2
  clear s1 s2 hC1
  go_wp2
  refine wp_region_F 93 [] (fun _ _ _ => True) (fun W => Below w5.heap.size w5 W) (by kernel_rfl) (by kernel_rfl) (by rfl) (by simp) (fun W W' h hb => h.trans (hb.mono h.size)) (fun _ _ _ _ _ _ => trivial) (Below.refl _ _).drew ?_
  repeat (refine wpF_pure rfl rfl ?_; go_big_quiet_step (fail); refine wpQuiet_nil ?_)
  refine wpF_call (f := 14) (args := #[.pointer (some ⟨w.heap.size, 0, none⟩)]) (.int .u32 ((Cr.ones : Nat) : Int)) rfl rfl (fun x => by first | rfl | (simp [go_sem]; done)) (fun W hW => (begin_any _ W).mono fun e w' h => ⟨h.1, h.2 ▸ Below.refl _ _⟩) ?_
  simp only [Act.put, List.setIfInBounds_toArray, List.set_cons_succ, List.set_cons_zero]
  repeat (refine wpF_pure rfl rfl ?_; go_big_quiet_step (fail); refine wpQuiet_nil ?_)
  refine wpF_call (f := 13) (args := #[.pointer (some ⟨w.heap.size, 0, none⟩), .int .u32 ((Cr.ones : Nat) : Int), .slice a k c]) (.int .u32 (SX : Int)) rfl rfl (fun x => by first | rfl | (simp [go_sem]; done)) (fun W hW => C1 W hW) ?_
  simp only [Act.put, List.setIfInBounds_toArray, List.set_cons_succ, List.set_cons_zero]
  repeat (refine wpF_pure rfl rfl ?_; go_big_quiet_step (fail); refine wpQuiet_nil ?_)
  refine wpF_call (f := 13) (args := #[.pointer (some ⟨w.heap.size, 0, none⟩), .int .u32 (SX : Int), .slice A' (m - k) (c - k)]) (.int .u32 (SB : Int)) rfl rfl (fun x => by first | rfl | (simp [go_sem]; done)) (fun W hW => C2 W hW) ?_
  simp only [Act.put, List.setIfInBounds_toArray, List.set_cons_succ, List.set_cons_zero]
  repeat (refine wpF_pure rfl rfl ?_; go_big_quiet_step (fail); refine wpQuiet_nil ?_)
  intro _ w6 hw6 _
  simp only [fill]
  have hbw6 : Below w.heap.size w w6 := hbw.trans (hw6.mono hbw.size)
  have htab6 : TabAt w6 w5.heap.size w.heap.size := htab.below hw6
  have hs56 := hw6.size
  clear C1 C2
  go_wp2
  refine wp_region_F 93 [55, 74] (fun s => FSl w5.heap.size (if s = 55 then [⟨a, c, bs⟩] else [⟨a, c, X⟩, ⟨none, 0, []⟩, ⟨A', c - k, Y⟩])) (fun W => Below w6.heap.size w6 W) (by kernel_rfl) (by kernel_rfl) (by rfl) (by simp) (fun W W' h hb => h.trans (hb.mono h.size)) (fun s v W W' h hb => h.later hb) (Below.refl _ _).drew ?_
  refine wpF_call (f := 15) (args := #[]) (.bool true) rfl rfl (fun x => by first | rfl | (simp [go_sem]; done)) (fun W hW => known_any W) ?_
  simp only [Act.put, List.setIfInBounds_toArray, List.set_cons_succ, List.set_cons_zero]
  repeat (refine wpF_pure rfl rfl ?_; go_big_quiet_step (fail); refine wpQuiet_nil ?_)
  refine wpF_src 55 (by simp) rfl rfl rfl (fun W hW => ⟨_, _, ?_, FSl.lit [⟨a, c, bs⟩] (Nat.le_trans hs56 hW.size) (by simp only [List.mem_singleton]; rintro p rfl; exact (P1.below hw6).below (hW.mono hs56)), (Below.refl _ _).alloc (Nat.le_refl _) _⟩) ?_
  · simp only [List.map_cons, List.map_nil, hlen]
    simp [go_sem]
  simp only [Act.put, List.setIfInBounds_toArray, List.set_cons_succ, List.set_cons_zero]
  refine wpF_use 55 4 (f := 16) (fun v => #[.pointer (some ⟨w.heap.size, 0, none⟩), v]) (.int .u32 ((Cr.sum bs : Nat) : Int)) (by simp) rfl (by kernel_rfl) (by kernel_rfl) (by kernel_rfl) (fun _ => rfl) (fun v x => by first | rfl | (simp [go_sem]; done)) (fun v W hW hv => FSl.sum (ps := [⟨a, c, bs⟩]) hv (htab6.below (hW.mono hs56)) (by simp) hfl1) ?_
  simp only [Act.put, List.setIfInBounds_toArray, List.set_cons_succ, List.set_cons_zero]
  repeat (refine wpF_pure rfl rfl ?_; go_big_quiet_step (fail); refine wpQuiet_nil ?_)
  refine wpF_call (f := 17) (args := #[.slice a m c]) (.int .u32 ((Cr.sum bs : Nat) : Int)) rfl rfl (fun x => by first | rfl | (simp [go_sem]; done)) (fun W hW => (slow_any w5.heap.size a m c bs W hlen (by omega) hzb ((hnum5.below hw6).below (hW.mono hs56))).mono fun e w' h => ⟨h.1, h.2 ▸ Below.refl _ _⟩) ?_
  simp only [Act.put, List.setIfInBounds_toArray, List.set_cons_succ, List.set_cons_zero]
  repeat (refine wpF_pure rfl rfl ?_; go_big_quiet_step (fail); refine wpQuiet_nil ?_)
  refine wpF_src 74 (by simp) rfl rfl rfl (fun W hW => ⟨_, _, ?_, FSl.lit [⟨a, c, X⟩, ⟨none, 0, []⟩, ⟨A', c - k, Y⟩] (Nat.le_trans hs56 hW.size) (by
      simp only [List.mem_cons, List.not_mem_nil, or_false]
      rintro p (rfl | rfl | rfl)
      · exact (P2.below hw6).below (hW.mono hs56)
      · exact (P3.below hw6).below (hW.mono hs56)
      · exact (P4.below hw6).below (hW.mono hs56)), (Below.refl _ _).alloc (Nat.le_refl _) _⟩) ?_
  · simp only [List.map_cons, List.map_nil, lk, ld]
    simp [go_sem]
  simp only [Act.put, List.setIfInBounds_toArray, List.set_cons_succ, List.set_cons_zero]
  refine wpF_use 74 23 (f := 16) (fun v => #[.pointer (some ⟨w.heap.size, 0, none⟩), v]) (.int .u32 ((Cr.sum bs : Nat) : Int)) (by simp) rfl (by kernel_rfl) (by kernel_rfl) (by kernel_rfl) (fun _ => rfl) (fun v x => by first | rfl | (simp [go_sem]; done)) (fun v W hW hv => FSl.sum (ps := [⟨a, c, X⟩, ⟨none, 0, []⟩, ⟨A', c - k, Y⟩]) hv (htab6.below (hW.mono hs56)) (by simp) hfl) ?_
  simp only [Act.put, List.setIfInBounds_toArray, List.set_cons_succ, List.set_cons_zero]
  repeat (refine wpF_pure rfl rfl ?_; go_big_quiet_step (fail); refine wpQuiet_nil ?_)
  refine wpF_call (f := 18) (args := #[.pointer (some ⟨w.heap.size, 0, none⟩), .int .u32 (SB : Int)]) (.int .u32 ((Cr.sum bs : Nat) : Int)) rfl rfl (fun x => by first | rfl | (simp [go_sem]; done)) (fun W hW => (end_any _ SB W s2').mono fun e w' h => ⟨by rw [h.1, hsm], h.2 ▸ Below.refl _ _⟩) ?_
  simp only [Act.put, List.setIfInBounds_toArray, List.set_cons_succ, List.set_cons_zero]
  repeat (refine wpF_pure rfl rfl ?_; go_big_quiet_step (fail); refine wpQuiet_nil ?_)
  refine wpF_call (f := 19) (args := #[.pointer (some ⟨w.heap.size, 0, none⟩), .int .i64 (j : Int)]) (.int .u32 ((Cr.shn 8 j : Nat) : Int)) rfl rfl (fun x => by first | rfl | (simp [go_sem]; done)) (fun W hW => (entry_any _ _ j W (htab6.below (hW.mono hs56)) hj).mono fun e w' h => ⟨h.1, h.2 ▸ Below.refl _ _⟩) ?_
  simp only [Act.put, List.setIfInBounds_toArray, List.set_cons_succ, List.set_cons_zero]
  repeat (refine wpF_pure rfl rfl ?_; go_big_quiet_step (fail); refine wpQuiet_nil ?_)
  intro xs W hW _
  simp only [fill, Act.put, List.setIfInBounds_toArray, List.set_cons_succ, List.set_cons_zero]
  have hbW : Below w.heap.size w W := hbw6.trans (hW.mono hbw6.size)
  go_wp2
  go_ret
  exact ⟨rfl, hbW⟩

set_option maxHeartbeats 600000 in
theorem sums_neg (a : Option Addr) (n m c : Nat) (es : List Int) (at_ i : Int) (w : World) (hn : es.length = n) (hc : n ≤ c) (_hl : n ≤ 9223372036854775807) (hz : Bytes es) (h1' : Nums .u8 w w.heap.size a es)
    (hm : min (n : Int) 200 = (m : Int)) (hmn : m ≤ n) (hm2 : m ≤ 200) (h0 : i < 0) :
    Calls Try.prog 3 #[.slice a n c, .int .i64 at_, .int .i64 i] w fun e w' => e = .returned (.bool true) ∧ Below w.heap.size w w' := by
  have hmc : (m : Int) ≤ (c : Int) := by omega
  have hlen : (es.take m).length = m := by rw [List.length_take]; omega
  have hzb := hz.take m
  have hu : 0 ≤ IntKind.u64.wrap at_ := by rw [IntKind.wrap_u64]; omega
  have hmod0 := Int.emod_nonneg (IntKind.u64.wrap at_) (show ((m : Int) + 1) ≠ 0 by omega)
  have hmod1 := Int.emod_lt_of_pos (IntKind.u64.wrap at_) (show 0 < ((m : Int) + 1) by omega)
  obtain ⟨k, hk⟩ : ∃ f : Nat, IntKind.u64.wrap at_ % ((m : Int) + 1) = (f : Int) := ⟨(IntKind.u64.wrap at_ % ((m : Int) + 1)).toNat, by omega⟩
  have hkm : k ≤ m := by omega
  clear hmod0 hmod1
  have hnum := h1'.take m
  generalize es.take m = bs at *
  clear hz h1' hn
  go_enter Try.func3, Try.ntmps3
  go_wp2_with fail
  refine (new_any _).mono ?_
  rintro e w1 ⟨rfl, htab, hb, hsz⟩
  have HT : Hid (TabAt w1 w1.heap.size w.heap.size) := by show TabAt _ _ _; rw [hsz]; exact htab
  clear hsz htab
  have K := rsum_any w1.heap.size a m c bs w1 hlen (by omega) hzb (Nat.le_refl _) ((hnum.below hb).mono hb.size)
  go_wp2_with fail
  refine K.mono ?_
  rintro e w2 ⟨rfl, hb2⟩
  clear K
  have hbt := hb2
  have hE : True := trivial
  generalize hw5 : w2 = w5 at *
  clear hb2 hw5 hE
  have hbw : Below w.heap.size w w5 := hb.trans (hbt.mono hb.size)
  have htab : TabAt w5 w5.heap.size w.heap.size := (HT.out.below hbt).mono hbt.size
  have hnum5 := (hnum.below hbw).mono hbw.size
  have lk : (bs.take k).length = k := by rw [List.length_take]; omega
  have ld : (bs.drop k).length = m - k := by rw [List.length_drop]; omega
  have hnd := hnum5.drop (i := k) (cap := c) (by omega)
  obtain ⟨A', hA'⟩ : ∃ A', (if c = k then a else Option.map (fun x => x.add k) a) = A' := ⟨_, rfl⟩
  rw [hA'] at hnd
  have P1 : Part.At w5 w5.heap.size ⟨a, c, bs⟩ := ⟨by simp only; omega, by simp only; omega, hzb, hnum5⟩
  have P2 : Part.At w5 w5.heap.size ⟨a, c, bs.take k⟩ := ⟨by simp only; omega, by simp only; omega, hzb.take k, hnum5.take k⟩
  have P3 : Part.At w5 w5.heap.size ⟨none, 0, []⟩ := ⟨by simp, by simp, by intro z hz; simp at hz, Nums.nil⟩
  have P4 : Part.At w5 w5.heap.size ⟨A', c - k, bs.drop k⟩ := ⟨by simp only; omega, by simp only; omega, hzb.drop k, hnd⟩
  have s1 := Cr.crc_lt (s := Cr.ones) (by decide) (hzb.take k).lt
  have s2 := Cr.crc_lt (s := Cr.crc Cr.ones (bs.take k)) s1 (hzb.drop k).lt
  have hjoin : Cr.crc (Cr.crc Cr.ones (bs.take k)) (bs.drop k) = Cr.crc Cr.ones bs := by rw [← Cr.crc_append, List.take_append_drop]
  have HP : Hid (Part.At w5 w5.heap.size ⟨a, c, bs⟩) := P1
  rw [hjoin] at s2
  have k1 : (k : Int) ≤ (m : Int) := by omega
  have k2 : (k : Int) ≤ (c : Int) := by omega
  have k0 : (0 : Int) ≤ (k : Int) := by omega
  have bt := hzb.take k
  have bd := hzb.drop k
  have C1 : ∀ W, Below w5.heap.size w5 W → Calls Try.prog 13 #[.pointer (some ⟨w.heap.size, 0, none⟩), .int .u32 ((Cr.ones : Nat) : Int), .slice a k c] W fun e w' => e = .returned (.int .u32 ((Cr.crc Cr.ones (bs.take k) : Nat) : Int)) ∧ Below W.heap.size W w' := fun W hW =>
    (add_any w5.heap.size w.heap.size a k c Cr.ones (bs.take k) W (htab.below hW) (by decide) lk (by omega) (by omega) bt ((hnum5.take k).below hW)).mono fun e w' h => ⟨h.1, by obtain ⟨d, hd⟩ := h.2; rw [hd]; exact below_drewN (Below.refl _ _) d⟩
  have C2 : ∀ W, Below w5.heap.size w5 W → Calls Try.prog 13 #[.pointer (some ⟨w.heap.size, 0, none⟩), .int .u32 ((Cr.crc Cr.ones (bs.take k) : Nat) : Int), .slice A' (m - k) (c - k)] W fun e w' => e = .returned (.int .u32 ((Cr.crc Cr.ones bs : Nat) : Int)) ∧ Below W.heap.size W w' := fun W hW =>
    (add_any w5.heap.size w.heap.size A' (m - k) (c - k) (Cr.crc Cr.ones (bs.take k)) (bs.drop k) W (htab.below hW) s1 ld (by omega) (by omega) bd (hnd.below hW)).mono fun e w' h => ⟨by rw [h.1, hjoin], by obtain ⟨d, hd⟩ := h.2; rw [hd]; exact below_drewN (Below.refl _ _) d⟩
  have hsm : Cr.ones - Cr.crc Cr.ones bs = Cr.sum bs := rfl
  have hfl : flat [⟨a, c, bs.take k⟩, ⟨none, 0, []⟩, ⟨A', c - k, bs.drop k⟩] = bs := by simp [flat]
  have hfl1 : flat [⟨a, c, bs⟩] = bs := by simp [flat]
  have HJ := Lib.hid hjoin
  clear hjoin bt bd hnd HP
  generalize hX : bs.take k = X at *
  generalize hY : bs.drop k = Y at *
  clear hX hY hnum HT
  generalize hC1 : Cr.crc Cr.ones X = SX at *
  generalize hC2 : Cr.crc Cr.ones bs = SB at *
  have s1' : SX < 4294967296 := s1
  have s2' : SB < 4294967296 := s2
  clear s1 s2 hC1
  go_wp2
  refine wp_region_F 93 [] (fun _ _ _ => True) (fun W => Below w5.heap.size w5 W) (by kernel_rfl) (by kernel_rfl) (by rfl) (by simp) (fun W W' h hb => h.trans (hb.mono h.size)) (fun _ _ _ _ _ _ => trivial) (Below.refl _ _).drew ?_
  repeat (refine wpF_pure rfl rfl ?_; go_big_quiet_step (fail); refine wpQuiet_nil ?_)
  refine wpF_call (f := 14) (args := #[.pointer (some ⟨w.heap.size, 0, none⟩)]) (.int .u32 ((Cr.ones : Nat) : Int)) rfl rfl (fun x => by first | rfl | (simp [go_sem]; done)) (fun W hW => (begin_any _ W).mono fun e w' h => ⟨h.1, h.2 ▸ Below.refl _ _⟩) ?_
  simp only [Act.put, List.setIfInBounds_toArray, List.set_cons_succ, List.set_cons_zero]
  repeat (refine wpF_pure rfl rfl ?_; go_big_quiet_step (fail); refine wpQuiet_nil ?_)
  refine wpF_call (f := 13) (args := #[.pointer (some ⟨w.heap.size, 0, none⟩), .int .u32 ((Cr.ones : Nat) : Int), .slice a k c]) (.int .u32 (SX : Int)) rfl rfl (fun x => by first | rfl | (simp [go_sem]; done)) (fun W hW => C1 W hW) ?_
  simp only [Act.put, List.setIfInBounds_toArray, List.set_cons_succ, List.set_cons_zero]
  repeat (refine wpF_pure rfl rfl ?_; go_big_quiet_step (fail); refine wpQuiet_nil ?_)
  refine wpF_call (f := 13) (args := #[.pointer (some ⟨w.heap.size, 0, none⟩), .int .u32 (SX : Int), .slice A' (m - k) (c - k)]) (.int .u32 (SB : Int)) rfl rfl (fun x => by first | rfl | (simp [go_sem]; done)) (fun W hW => C2 W hW) ?_
  simp only [Act.put, List.setIfInBounds_toArray, List.set_cons_succ, List.set_cons_zero]
  repeat (refine wpF_pure rfl rfl ?_; go_big_quiet_step (fail); refine wpQuiet_nil ?_)
  intro _ w6 hw6 _
  simp only [fill]
  have hbw6 : Below w.heap.size w w6 := hbw.trans (hw6.mono hbw.size)
  have htab6 : TabAt w6 w5.heap.size w.heap.size := htab.below hw6
  have hs56 := hw6.size
  clear C1 C2
  go_wp2
  refine wp_region_F 93 [55, 74] (fun s => FSl w5.heap.size (if s = 55 then [⟨a, c, bs⟩] else [⟨a, c, X⟩, ⟨none, 0, []⟩, ⟨A', c - k, Y⟩])) (fun W => Below w6.heap.size w6 W) (by kernel_rfl) (by kernel_rfl) (by rfl) (by simp) (fun W W' h hb => h.trans (hb.mono h.size)) (fun s v W W' h hb => h.later hb) (Below.refl _ _).drew ?_
  refine wpF_call (f := 15) (args := #[]) (.bool true) rfl rfl (fun x => by first | rfl | (simp [go_sem]; done)) (fun W hW => known_any W) ?_
  simp only [Act.put, List.setIfInBounds_toArray, List.set_cons_succ, List.set_cons_zero]
  repeat (refine wpF_pure rfl rfl ?_; go_big_quiet_step (fail); refine wpQuiet_nil ?_)
  refine wpF_src 55 (by simp) rfl rfl rfl (fun W hW => ⟨_, _, ?_, FSl.lit [⟨a, c, bs⟩] (Nat.le_trans hs56 hW.size) (by simp only [List.mem_singleton]; rintro p rfl; exact (P1.below hw6).below (hW.mono hs56)), (Below.refl _ _).alloc (Nat.le_refl _) _⟩) ?_
  · simp only [List.map_cons, List.map_nil, hlen]
    simp [go_sem]
  simp only [Act.put, List.setIfInBounds_toArray, List.set_cons_succ, List.set_cons_zero]
  refine wpF_use 55 4 (f := 16) (fun v => #[.pointer (some ⟨w.heap.size, 0, none⟩), v]) (.int .u32 ((Cr.sum bs : Nat) : Int)) (by simp) rfl (by kernel_rfl) (by kernel_rfl) (by kernel_rfl) (fun _ => rfl) (fun v x => by first | rfl | (simp [go_sem]; done)) (fun v W hW hv => FSl.sum (ps := [⟨a, c, bs⟩]) hv (htab6.below (hW.mono hs56)) (by simp) hfl1) ?_
  simp only [Act.put, List.setIfInBounds_toArray, List.set_cons_succ, List.set_cons_zero]
  repeat (refine wpF_pure rfl rfl ?_; go_big_quiet_step (fail); refine wpQuiet_nil ?_)
  refine wpF_call (f := 17) (args := #[.slice a m c]) (.int .u32 ((Cr.sum bs : Nat) : Int)) rfl rfl (fun x => by first | rfl | (simp [go_sem]; done)) (fun W hW => (slow_any w5.heap.size a m c bs W hlen (by omega) hzb ((hnum5.below hw6).below (hW.mono hs56))).mono fun e w' h => ⟨h.1, h.2 ▸ Below.refl _ _⟩) ?_
  simp only [Act.put, List.setIfInBounds_toArray, List.set_cons_succ, List.set_cons_zero]
  repeat (refine wpF_pure rfl rfl ?_; go_big_quiet_step (fail); refine wpQuiet_nil ?_)
  refine wpF_src 74 (by simp) rfl rfl rfl (fun W hW => ⟨_, _, ?_, FSl.lit [⟨a, c, X⟩, ⟨none, 0, []⟩, ⟨A', c - k, Y⟩] (Nat.le_trans hs56 hW.size) (by
      simp only [List.mem_cons, List.not_mem_nil, or_false]
      rintro p (rfl | rfl | rfl)
      · exact (P2.below hw6).below (hW.mono hs56)
      · exact (P3.below hw6).below (hW.mono hs56)
      · exact (P4.below hw6).below (hW.mono hs56)), (Below.refl _ _).alloc (Nat.le_refl _) _⟩) ?_
  · simp only [List.map_cons, List.map_nil, lk, ld]
    simp [go_sem]
  simp only [Act.put, List.setIfInBounds_toArray, List.set_cons_succ, List.set_cons_zero]
  refine wpF_use 74 23 (f := 16) (fun v => #[.pointer (some ⟨w.heap.size, 0, none⟩), v]) (.int .u32 ((Cr.sum bs : Nat) : Int)) (by simp) rfl (by kernel_rfl) (by kernel_rfl) (by kernel_rfl) (fun _ => rfl) (fun v x => by first | rfl | (simp [go_sem]; done)) (fun v W hW hv => FSl.sum (ps := [⟨a, c, X⟩, ⟨none, 0, []⟩, ⟨A', c - k, Y⟩]) hv (htab6.below (hW.mono hs56)) (by simp) hfl) ?_
  simp only [Act.put, List.setIfInBounds_toArray, List.set_cons_succ, List.set_cons_zero]
  repeat (refine wpF_pure rfl rfl ?_; go_big_quiet_step (fail); refine wpQuiet_nil ?_)
  refine wpF_call (f := 18) (args := #[.pointer (some ⟨w.heap.size, 0, none⟩), .int .u32 (SB : Int)]) (.int .u32 ((Cr.sum bs : Nat) : Int)) rfl rfl (fun x => by first | rfl | (simp [go_sem]; done)) (fun W hW => (end_any _ SB W s2').mono fun e w' h => ⟨by rw [h.1, hsm], h.2 ▸ Below.refl _ _⟩) ?_
  simp only [Act.put, List.setIfInBounds_toArray, List.set_cons_succ, List.set_cons_zero]
  repeat (refine wpF_pure rfl rfl ?_; go_big_quiet_step (fail); refine wpQuiet_nil ?_)
  refine wpF_call (f := 19) (args := #[.pointer (some ⟨w.heap.size, 0, none⟩), .int .i64 i]) (.int .u32 0) rfl rfl (fun x => by first | rfl | (simp [go_sem]; done)) (fun W hW => (entry_out _ i W (by omega)).mono fun e w' h => ⟨h.1, h.2 ▸ Below.refl _ _⟩) ?_
  simp only [Act.put, List.setIfInBounds_toArray, List.set_cons_succ, List.set_cons_zero]
  repeat (refine wpF_pure rfl rfl ?_; go_big_quiet_step (fail); refine wpQuiet_nil ?_)
  intro xs W hW _
  simp only [fill, Act.put, List.setIfInBounds_toArray, List.set_cons_succ, List.set_cons_zero]
  have hbW : Below w.heap.size w W := hbw6.trans (hW.mono hbw6.size)
  go_wp2
  go_ret
  exact ⟨rfl, hbW⟩

set_option maxHeartbeats 600000 in
theorem sums_big (a : Option Addr) (n m c : Nat) (es : List Int) (at_ i : Int) (w : World) (hn : es.length = n) (hc : n ≤ c) (_hl : n ≤ 9223372036854775807) (hz : Bytes es) (h1' : Nums .u8 w w.heap.size a es)
    (hm : min (n : Int) 200 = (m : Int)) (hmn : m ≤ n) (hm2 : m ≤ 200) (h0 : 256 ≤ i) :
    Calls Try.prog 3 #[.slice a n c, .int .i64 at_, .int .i64 i] w fun e w' => e = .returned (.bool true) ∧ Below w.heap.size w w' := by
  have hmc : (m : Int) ≤ (c : Int) := by omega
  have hlen : (es.take m).length = m := by rw [List.length_take]; omega
  have hzb := hz.take m
  have hu : 0 ≤ IntKind.u64.wrap at_ := by rw [IntKind.wrap_u64]; omega
  have hmod0 := Int.emod_nonneg (IntKind.u64.wrap at_) (show ((m : Int) + 1) ≠ 0 by omega)
  have hmod1 := Int.emod_lt_of_pos (IntKind.u64.wrap at_) (show 0 < ((m : Int) + 1) by omega)
  obtain ⟨k, hk⟩ : ∃ f : Nat, IntKind.u64.wrap at_ % ((m : Int) + 1) = (f : Int) := ⟨(IntKind.u64.wrap at_ % ((m : Int) + 1)).toNat, by omega⟩
  have hkm : k ≤ m := by omega
  clear hmod0 hmod1
  have hnum := h1'.take m
  generalize es.take m = bs at *
  clear hz h1' hn
  go_enter Try.func3, Try.ntmps3
  go_wp2_with fail
  refine (new_any _).mono ?_
  rintro e w1 ⟨rfl, htab, hb, hsz⟩
  have HT : Hid (TabAt w1 w1.heap.size w.heap.size) := by show TabAt _ _ _; rw [hsz]; exact htab
  clear hsz htab
  have K := rsum_any w1.heap.size a m c bs w1 hlen (by omega) hzb (Nat.le_refl _) ((hnum.below hb).mono hb.size)
  go_wp2_with fail
  refine K.mono ?_
  rintro e w2 ⟨rfl, hb2⟩
  clear K
  have hbt := hb2
  have hE : True := trivial
  generalize hw5 : w2 = w5 at *
  clear hb2 hw5 hE
  have hbw : Below w.heap.size w w5 := hb.trans (hbt.mono hb.size)
  have htab : TabAt w5 w5.heap.size w.heap.size := (HT.out.below hbt).mono hbt.size
  have hnum5 := (hnum.below hbw).mono hbw.size
  have lk : (bs.take k).length = k := by rw [List.length_take]; omega
  have ld : (bs.drop k).length = m - k := by rw [List.length_drop]; omega
  have hnd := hnum5.drop (i := k) (cap := c) (by omega)
  obtain ⟨A', hA'⟩ : ∃ A', (if c = k then a else Option.map (fun x => x.add k) a) = A' := ⟨_, rfl⟩
  rw [hA'] at hnd
  have P1 : Part.At w5 w5.heap.size ⟨a, c, bs⟩ := ⟨by simp only; omega, by simp only; omega, hzb, hnum5⟩
  have P2 : Part.At w5 w5.heap.size ⟨a, c, bs.take k⟩ := ⟨by simp only; omega, by simp only; omega, hzb.take k, hnum5.take k⟩
  have P3 : Part.At w5 w5.heap.size ⟨none, 0, []⟩ := ⟨by simp, by simp, by intro z hz; simp at hz, Nums.nil⟩
  have P4 : Part.At w5 w5.heap.size ⟨A', c - k, bs.drop k⟩ := ⟨by simp only; omega, by simp only; omega, hzb.drop k, hnd⟩
  have s1 := Cr.crc_lt (s := Cr.ones) (by decide) (hzb.take k).lt
  have s2 := Cr.crc_lt (s := Cr.crc Cr.ones (bs.take k)) s1 (hzb.drop k).lt
  have hjoin : Cr.crc (Cr.crc Cr.ones (bs.take k)) (bs.drop k) = Cr.crc Cr.ones bs := by rw [← Cr.crc_append, List.take_append_drop]
  have HP : Hid (Part.At w5 w5.heap.size ⟨a, c, bs⟩) := P1
  rw [hjoin] at s2
  have k1 : (k : Int) ≤ (m : Int) := by omega
  have k2 : (k : Int) ≤ (c : Int) := by omega
  have k0 : (0 : Int) ≤ (k : Int) := by omega
  have bt := hzb.take k
  have bd := hzb.drop k
  have C1 : ∀ W, Below w5.heap.size w5 W → Calls Try.prog 13 #[.pointer (some ⟨w.heap.size, 0, none⟩), .int .u32 ((Cr.ones : Nat) : Int), .slice a k c] W fun e w' => e = .returned (.int .u32 ((Cr.crc Cr.ones (bs.take k) : Nat) : Int)) ∧ Below W.heap.size W w' := fun W hW =>
    (add_any w5.heap.size w.heap.size a k c Cr.ones (bs.take k) W (htab.below hW) (by decide) lk (by omega) (by omega) bt ((hnum5.take k).below hW)).mono fun e w' h => ⟨h.1, by obtain ⟨d, hd⟩ := h.2; rw [hd]; exact below_drewN (Below.refl _ _) d⟩
  have C2 : ∀ W, Below w5.heap.size w5 W → Calls Try.prog 13 #[.pointer (some ⟨w.heap.size, 0, none⟩), .int .u32 ((Cr.crc Cr.ones (bs.take k) : Nat) : Int), .slice A' (m - k) (c - k)] W fun e w' => e = .returned (.int .u32 ((Cr.crc Cr.ones bs : Nat) : Int)) ∧ Below W.heap.size W w' := fun W hW =>
    (add_any w5.heap.size w.heap.size A' (m - k) (c - k) (Cr.crc Cr.ones (bs.take k)) (bs.drop k) W (htab.below hW) s1 ld (by omega) (by omega) bd (hnd.below hW)).mono fun e w' h => ⟨by rw [h.1, hjoin], by obtain ⟨d, hd⟩ := h.2; rw [hd]; exact below_drewN (Below.refl _ _) d⟩
  have hsm : Cr.ones - Cr.crc Cr.ones bs = Cr.sum bs := rfl
  have hfl : flat [⟨a, c, bs.take k⟩, ⟨none, 0, []⟩, ⟨A', c - k, bs.drop k⟩] = bs := by simp [flat]
  have hfl1 : flat [⟨a, c, bs⟩] = bs := by simp [flat]
  have HJ := Lib.hid hjoin
  clear hjoin bt bd hnd HP
  generalize hX : bs.take k = X at *
  generalize hY : bs.drop k = Y at *
  clear hX hY hnum HT
  generalize hC1 : Cr.crc Cr.ones X = SX at *
  generalize hC2 : Cr.crc Cr.ones bs = SB at *
  have s1' : SX < 4294967296 := s1
  have s2' : SB < 4294967296 := s2
  clear s1 s2 hC1
  go_wp2
  refine wp_region_F 93 [] (fun _ _ _ => True) (fun W => Below w5.heap.size w5 W) (by kernel_rfl) (by kernel_rfl) (by rfl) (by simp) (fun W W' h hb => h.trans (hb.mono h.size)) (fun _ _ _ _ _ _ => trivial) (Below.refl _ _).drew ?_
  repeat (refine wpF_pure rfl rfl ?_; go_big_quiet_step (fail); refine wpQuiet_nil ?_)
  refine wpF_call (f := 14) (args := #[.pointer (some ⟨w.heap.size, 0, none⟩)]) (.int .u32 ((Cr.ones : Nat) : Int)) rfl rfl (fun x => by first | rfl | (simp [go_sem]; done)) (fun W hW => (begin_any _ W).mono fun e w' h => ⟨h.1, h.2 ▸ Below.refl _ _⟩) ?_
  simp only [Act.put, List.setIfInBounds_toArray, List.set_cons_succ, List.set_cons_zero]
  repeat (refine wpF_pure rfl rfl ?_; go_big_quiet_step (fail); refine wpQuiet_nil ?_)
  refine wpF_call (f := 13) (args := #[.pointer (some ⟨w.heap.size, 0, none⟩), .int .u32 ((Cr.ones : Nat) : Int), .slice a k c]) (.int .u32 (SX : Int)) rfl rfl (fun x => by first | rfl | (simp [go_sem]; done)) (fun W hW => C1 W hW) ?_
  simp only [Act.put, List.setIfInBounds_toArray, List.set_cons_succ, List.set_cons_zero]
  repeat (refine wpF_pure rfl rfl ?_; go_big_quiet_step (fail); refine wpQuiet_nil ?_)
  refine wpF_call (f := 13) (args := #[.pointer (some ⟨w.heap.size, 0, none⟩), .int .u32 (SX : Int), .slice A' (m - k) (c - k)]) (.int .u32 (SB : Int)) rfl rfl (fun x => by first | rfl | (simp [go_sem]; done)) (fun W hW => C2 W hW) ?_
  simp only [Act.put, List.setIfInBounds_toArray, List.set_cons_succ, List.set_cons_zero]
  repeat (refine wpF_pure rfl rfl ?_; go_big_quiet_step (fail); refine wpQuiet_nil ?_)
  intro _ w6 hw6 _
  simp only [fill]
  have hbw6 : Below w.heap.size w w6 := hbw.trans (hw6.mono hbw.size)
  have htab6 : TabAt w6 w5.heap.size w.heap.size := htab.below hw6
  have hs56 := hw6.size
  clear C1 C2
  go_wp2
  refine wp_region_F 93 [55, 74] (fun s => FSl w5.heap.size (if s = 55 then [⟨a, c, bs⟩] else [⟨a, c, X⟩, ⟨none, 0, []⟩, ⟨A', c - k, Y⟩])) (fun W => Below w6.heap.size w6 W) (by kernel_rfl) (by kernel_rfl) (by rfl) (by simp) (fun W W' h hb => h.trans (hb.mono h.size)) (fun s v W W' h hb => h.later hb) (Below.refl _ _).drew ?_
  refine wpF_call (f := 15) (args := #[]) (.bool true) rfl rfl (fun x => by first | rfl | (simp [go_sem]; done)) (fun W hW => known_any W) ?_
  simp only [Act.put, List.setIfInBounds_toArray, List.set_cons_succ, List.set_cons_zero]
  repeat (refine wpF_pure rfl rfl ?_; go_big_quiet_step (fail); refine wpQuiet_nil ?_)
  refine wpF_src 55 (by simp) rfl rfl rfl (fun W hW => ⟨_, _, ?_, FSl.lit [⟨a, c, bs⟩] (Nat.le_trans hs56 hW.size) (by simp only [List.mem_singleton]; rintro p rfl; exact (P1.below hw6).below (hW.mono hs56)), (Below.refl _ _).alloc (Nat.le_refl _) _⟩) ?_
  · simp only [List.map_cons, List.map_nil, hlen]
    simp [go_sem]
  simp only [Act.put, List.setIfInBounds_toArray, List.set_cons_succ, List.set_cons_zero]
  refine wpF_use 55 4 (f := 16) (fun v => #[.pointer (some ⟨w.heap.size, 0, none⟩), v]) (.int .u32 ((Cr.sum bs : Nat) : Int)) (by simp) rfl (by kernel_rfl) (by kernel_rfl) (by kernel_rfl) (fun _ => rfl) (fun v x => by first | rfl | (simp [go_sem]; done)) (fun v W hW hv => FSl.sum (ps := [⟨a, c, bs⟩]) hv (htab6.below (hW.mono hs56)) (by simp) hfl1) ?_
  simp only [Act.put, List.setIfInBounds_toArray, List.set_cons_succ, List.set_cons_zero]
  repeat (refine wpF_pure rfl rfl ?_; go_big_quiet_step (fail); refine wpQuiet_nil ?_)
  refine wpF_call (f := 17) (args := #[.slice a m c]) (.int .u32 ((Cr.sum bs : Nat) : Int)) rfl rfl (fun x => by first | rfl | (simp [go_sem]; done)) (fun W hW => (slow_any w5.heap.size a m c bs W hlen (by omega) hzb ((hnum5.below hw6).below (hW.mono hs56))).mono fun e w' h => ⟨h.1, h.2 ▸ Below.refl _ _⟩) ?_
  simp only [Act.put, List.setIfInBounds_toArray, List.set_cons_succ, List.set_cons_zero]
  repeat (refine wpF_pure rfl rfl ?_; go_big_quiet_step (fail); refine wpQuiet_nil ?_)
  refine wpF_src 74 (by simp) rfl rfl rfl (fun W hW => ⟨_, _, ?_, FSl.lit [⟨a, c, X⟩, ⟨none, 0, []⟩, ⟨A', c - k, Y⟩] (Nat.le_trans hs56 hW.size) (by
      simp only [List.mem_cons, List.not_mem_nil, or_false]
      rintro p (rfl | rfl | rfl)
      · exact (P2.below hw6).below (hW.mono hs56)
      · exact (P3.below hw6).below (hW.mono hs56)
      · exact (P4.below hw6).below (hW.mono hs56)), (Below.refl _ _).alloc (Nat.le_refl _) _⟩) ?_
  · simp only [List.map_cons, List.map_nil, lk, ld]
    simp [go_sem]
  simp only [Act.put, List.setIfInBounds_toArray, List.set_cons_succ, List.set_cons_zero]
  refine wpF_use 74 23 (f := 16) (fun v => #[.pointer (some ⟨w.heap.size, 0, none⟩), v]) (.int .u32 ((Cr.sum bs : Nat) : Int)) (by simp) rfl (by kernel_rfl) (by kernel_rfl) (by kernel_rfl) (fun _ => rfl) (fun v x => by first | rfl | (simp [go_sem]; done)) (fun v W hW hv => FSl.sum (ps := [⟨a, c, X⟩, ⟨none, 0, []⟩, ⟨A', c - k, Y⟩]) hv (htab6.below (hW.mono hs56)) (by simp) hfl) ?_
  simp only [Act.put, List.setIfInBounds_toArray, List.set_cons_succ, List.set_cons_zero]
  repeat (refine wpF_pure rfl rfl ?_; go_big_quiet_step (fail); refine wpQuiet_nil ?_)
  refine wpF_call (f := 18) (args := #[.pointer (some ⟨w.heap.size, 0, none⟩), .int .u32 (SB : Int)]) (.int .u32 ((Cr.sum bs : Nat) : Int)) rfl rfl (fun x => by first | rfl | (simp [go_sem]; done)) (fun W hW => (end_any _ SB W s2').mono fun e w' h => ⟨by rw [h.1, hsm], h.2 ▸ Below.refl _ _⟩) ?_
  simp only [Act.put, List.setIfInBounds_toArray, List.set_cons_succ, List.set_cons_zero]
  repeat (refine wpF_pure rfl rfl ?_; go_big_quiet_step (fail); refine wpQuiet_nil ?_)
  refine wpF_call (f := 19) (args := #[.pointer (some ⟨w.heap.size, 0, none⟩), .int .i64 i]) (.int .u32 0) rfl rfl (fun x => by first | rfl | (simp [go_sem]; done)) (fun W hW => (entry_out _ i W (by omega)).mono fun e w' h => ⟨h.1, h.2 ▸ Below.refl _ _⟩) ?_
  simp only [Act.put, List.setIfInBounds_toArray, List.set_cons_succ, List.set_cons_zero]
  repeat (refine wpF_pure rfl rfl ?_; go_big_quiet_step (fail); refine wpQuiet_nil ?_)
  intro xs W hW _
  simp only [fill, Act.put, List.setIfInBounds_toArray, List.set_cons_succ, List.set_cons_zero]
  have hbW : Below w.heap.size w W := hbw6.trans (hW.mono hbw6.size)
  go_wp2
  go_ret
  exact ⟨rfl, hbW⟩

theorem walk_sums (a0 : Option Addr) (len0 cap0 : Nat) (z0 : List Int) (a1 : Int) (a2 : Int) (w : World) (w0 : IsRow .u8 w a0 len0 cap0 z0) (_w1 : (Lit.int .i64 a1).wf = true) (_w2 : (Lit.int .i64 a2).wf = true) :
    Calls Try.prog 3 #[.slice a0 len0 cap0, .int .i64 a1, .int .i64 a2] w fun e w' => e = .returned (.bool true) ∧ Below w.heap.size w w' := by
  obtain ⟨e0, l0, q0, m0, k0, r0⟩ := w0.elems
  rcases Int.lt_or_le a2 0 with h | h
  · exact sums_neg a0 len0 (min len0 200) cap0 e0 a1 a2 w l0 q0 (Nat.le_trans q0 m0) (bytes_of r0) k0 (by omega) (by omega) (by omega) h
  · rcases Int.lt_or_le a2 256 with h2 | h2
    · exact sums_in a0 len0 (min len0 200) cap0 e0 a1 a2 w l0 q0 (Nat.le_trans q0 m0) (bytes_of r0) k0 (by omega) (by omega) (by omega) h h2
    · exact sums_big a0 len0 (min len0 200) cap0 e0 a1 a2 w l0 q0 (Nat.le_trans q0 m0) (bytes_of r0) k0 (by omega) (by omega) (by omega) h2
end Go.Proofs.Ytbhdffefjphphaa
