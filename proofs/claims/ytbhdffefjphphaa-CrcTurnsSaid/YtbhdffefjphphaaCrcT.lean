/-
  The walk of the law CrcTurns: it returns true.
-/
import Derived.Test.YtbhdffefjphphaaCrcO
import Derived.Test.YtbhdffefjphphaaCrcZ
import Derived.Test.YtbhdffefjphphaaQ2
import Derived.Laws.ShiftsVarLaws
namespace Go.Proofs.Ytbhdffefjphphaa
open Go.RowKit
set_option maxRecDepth 100000

/-- bytes that lie in block g, whole; all blocks but g, below H, are as they were in w; H blocks there are -/
structure RowIn (w : World) (g H : Nat) (L : List Int) (wr : World) : Prop where
  row : ∃ cs, wr.heap[g]? = some (.cells cs 5 (0, 0)) ∧ ∀ (j : Nat) c, L[j]? = some c → cs[j]? = some (.int .u8 c)
  off : Off (fun k => k = g) w wr
  size : wr.heap.size = H
theorem RowIn.cell {w wr : World} {g H : Nat} {L : List Int} (h : RowIn w g H L wr) {j : Nat} {c : Int} (hj : L[j]? = some c) : wr.cell? ⟨g, j, none⟩ = some (.int .u8 c) := by
  obtain ⟨cs, hh, hc⟩ := h.row
  rw [cell_of_row wr g j cs _ _ hh]
  exact hc j c hj
theorem RowIn.frozen {w wr : World} {g H : Nat} {L : List Int} (h : RowIn w g H L wr) (j : Nat) : wr.frozen? ⟨g, j, none⟩ = false := by
  obtain ⟨cs, hh, hc⟩ := h.row
  exact frozen_of_row wr g j cs _ hh
theorem RowIn.drewN {w wr : World} {g H : Nat} {L : List Int} (h : RowIn w g H L wr) (n : Nat) : RowIn w g H L (wr.drewN n) := ⟨h.row, ⟨h.off.os, h.off.tape, h.off.output, h.off.size, h.off.block⟩, h.size⟩
theorem RowIn.drew {w wr : World} {g H : Nat} {L : List Int} (h : RowIn w g H L wr) : RowIn w g H L wr.drew := ⟨h.row, ⟨h.off.os, h.off.tape, h.off.output, h.off.size, h.off.block⟩, h.size⟩
theorem RowIn.set {w wr : World} {g H : Nat} {L : List Int} (h : RowIn w g H L wr) (j : Nat) (c : Int) : RowIn w g H (L.set j c) (wr.setCell ⟨g, j, none⟩ (.int .u8 c)) := by
  obtain ⟨cs, hh, hc⟩ := h.row
  refine ⟨⟨_, setCell_at hh, fun i x hi => ?_⟩, h.off.setCell rfl _, by simp [World.setCell, h.size]⟩
  rw [Array.getElem?_setIfInBounds]
  rw [List.getElem?_set] at hi
  by_cases hji : j = i
  · subst hji
    rw [if_pos rfl] at hi ⊢
    split at hi
    · rename_i hlt
      injection hi with hi
      subst hi
      have h2 := hc j L[j] (List.getElem?_eq_getElem hlt)
      rw [if_pos (Array.getElem?_eq_some_iff.1 h2).1]
    · simp at hi
  · rw [if_neg hji] at hi ⊢
    exact hc i x hi
theorem RowIn.nums {w wr : World} {g H : Nat} {L : List Int} (h : RowIn w g H L wr) : Nums .u8 wr wr.heap.size (some ⟨g, 0, none⟩) L := fun hn => by
  obtain ⟨cs, hh, hc⟩ := h.row
  refine ⟨g, 0, rfl, (Array.getElem?_eq_some_iff.1 hh).1, fun j c hj => ?_⟩
  rw [Nat.zero_add]
  exact h.cell hj
theorem RowIn.made {w w1 : World} {L : List Int} {v : Value} (h : MadeK 5 .u8 w w1 L v) (hL : 0 < L.length) : ∃ g c, v = .slice (some ⟨g, 0, none⟩) L.length c ∧ L.length ≤ c ∧ w.heap.size ≤ g ∧ RowIn w1 g w1.heap.size L w1 := by
  rcases h.1.2 with ⟨_, h0⟩ | ⟨g, cap, cur, hv, hg, hh, hn, hcur⟩
  · omega
  · subst hv
    refine ⟨g, cap, rfl, hn, hg, ⟨cur, hh, fun j c hj => ?_⟩, Off.refl _ _, rfl⟩
    have := h.1.cells (g := g) rfl j (.int .u8 c) (by rw [List.getElem?_map, hj]; rfl)
    rw [show (⟨g, 0, none⟩ : Addr).add j = ⟨g, j, none⟩ by unfold Addr.add; split <;> simp_all] at this
    rwa [cell_of_row w1 g j cur _ _ hh] at this

set_option maxHeartbeats 1000000 in
theorem turns_go (a : Option Addr) (n m c : Nat) (es : List Int) (at_ : Int) (turn : Nat) (w : World) (hn : es.length = n) (hc : n ≤ c) (_hl : n ≤ 9223372036854775807) (hz : Bytes es) (h1 : Nums .u8 w w.heap.size a es)
    (hm : min (n : Int) 200 = (m : Int)) (hmn : m ≤ n) (hm2 : m ≤ 200) (_hat : -9223372036854775808 ≤ at_ ∧ at_ ≤ 9223372036854775807) (ht0 : turn ≠ 0) (ht : turn < 4294967296) :
    Calls Try.prog 5 #[.slice a n c, .int .i64 at_, .int .u32 turn] w fun e w' => e = .returned (.bool true) ∧ Below w.heap.size w w' := by
  have hmc : (m : Int) ≤ (c : Int) := by omega
  have hlen : (es.take m).length = m := by rw [List.length_take]; omega
  have HZ := Lib.hid (hz.take m)
  have HL := Lib.hid hlen
  have hu : 0 ≤ IntKind.u64.wrap at_ := by rw [IntKind.wrap_u64]; omega
  have hmod0 := Int.emod_nonneg (IntKind.u64.wrap at_) (show (8 * ((m : Int) + 4) - 31) ≠ 0 by omega)
  have hmod1 := Int.emod_lt_of_pos (IntKind.u64.wrap at_) (show 0 < (8 * ((m : Int) + 4) - 31) by omega)
  obtain ⟨f, hf⟩ : ∃ f : Nat, IntKind.u64.wrap at_ % (8 * ((m : Int) + 4) - 31) = (f : Int) := ⟨(IntKind.u64.wrap at_ % (8 * ((m : Int) + 4) - 31)).toNat, by omega⟩
  have hfle : f + 32 ≤ 8 * (m + 4) := by omega
  clear hmod0 hmod1
  go_enter Try.func5, Try.ntmps5
  go_wp2_with fail
  refine (new_any _).mono ?_
  rintro e w1 ⟨rfl, htab, hb, hsz⟩
  have htab1 : TabAt w1 w1.heap.size w.heap.size := by rw [hsz]; exact htab
  clear hsz htab
  have K := seal_any w1.heap.size w.heap.size a m c (es.take m) w1 htab1 (Nat.le_refl _) hlen (by omega) (by omega) HZ.out (((h1.take m).below hb).mono hb.size)
  clear hlen hz
  go_wp2_with fail
  refine K.mono ?_
  rintro e w2 ⟨v, rfl, hmade⟩
  clear K
  have hlen2 : (es.take m ++ Cr.le4 (Cr.sum (es.take m))).length = m + 4 := by rw [List.length_append, HL.out, Cr.le4_len]
  obtain ⟨g, c2, rfl, hc2, hg, hrow⟩ := RowIn.made hmade (by omega)
  have hb2 := hb.trans (hmade.2.mono hb.size)
  have htab2 : TabAt w2 w1.heap.size w.heap.size := htab1.below hmade.2
  have hs12 := hmade.2.size
  clear hmade htab1
  rw [hlen2] at hc2 ⊢
  have HR := Lib.hid hrow
  have ht0' : ((turn : Int) == 0) = false := by simp; omega
  have HB : Hid (Bytes (es.take m ++ Cr.le4 (Cr.sum (es.take m)))) := HZ.out.append (le4_bytes _)
  have HT : Hid (∀ cur : List Int, cur.length = m + 4 → Bytes cur → Cr.crc Cr.ones cur = Cr.crc Cr.ones (es.take m ++ Cr.le4 (Cr.sum (es.take m))) ^^^ Cr.shn (8 * (m + 4) - f) turn → openOf cur = (11, [])) := fun cur hcl hcb hce => by
    unfold openOf
    rw [if_neg (by omega), if_neg (Cr.turned (M := 8 * (m + 4) - f) HZ.out.lt ht0 (by simpa using ht) hce _ (hcb.take _).lt)]
  clear hrow
  generalize es.take m ++ Cr.le4 (Cr.sum (es.take m)) = L0 at *
  go_wp2
  go_loopw [2, 10] (fun t i wr => ∃ (k p : Nat) (L : List Int), k ≤ 32 ∧ i = .int .i64 k ∧ t = .int .u32 p ∧ p < 4294967296 ∧ Hid (p = turn / 2 ^ k) ∧ L.length = m + 4 ∧ Hid (Bytes L) ∧ Hid (RowIn w2 g w2.heap.size L wr) ∧ Hid (Cr.crc Cr.ones L ^^^ Cr.shn (8 * (m + 4) - f) (p * 2 ^ k) = Cr.crc Cr.ones L0 ^^^ Cr.shn (8 * (m + 4) - f) turn)) (fun _ i _ => 32 - (intOf i).toNat)
  case atStart => exact ⟨0, turn, L0, by omega, rfl, rfl, ht, by show turn = turn / 1; omega, hlen2, HB, HR, by show Cr.crc Cr.ones L0 ^^^ Cr.shn _ (turn * 1) = _; rw [Nat.mul_one]⟩
  case round =>
    obtain ⟨k, p, L, hk, rfl, rfl, hp, HP, hLl, HLB, HRow, HC⟩ := hrel
    by_cases hlt : k < 32
    · have hlt' : (k : Int) < 32 := by omega
      have HP' : Hid (p / 2 = turn / 2 ^ (k + 1)) := by show _ = _; rw [HP.out, Nat.pow_succ, Nat.div_div_eq_div_mul]
      rcases Nat.mod_two_eq_zero_or_one p with hp2 | hp2
      · have e1 : ((p : Int) % 2 == 1) = false := by simp; omega
        have HC' : Hid (Cr.crc Cr.ones L ^^^ Cr.shn (8 * (m + 4) - f) (p / 2 * 2 ^ (k + 1)) = Cr.crc Cr.ones L0 ^^^ Cr.shn (8 * (m + 4) - f) turn) := by
          show _ = _
          rw [← Cr.turn_even k p hp2]
          exact HC.out
        clear hp2
        go_wp2
        go_roundw
        case rel => exact ⟨k + 1, p / 2, L, by omega, by go_num, by go_num, by omega, HP', hLl, HLB, HRow, HC'⟩
        case measure => simp [intOf]; omega
      · have e1 : ((p : Int) % 2 == 1) = true := by simp; omega
        obtain ⟨J, hJ⟩ : ∃ J : Nat, ((f : Int) + (k : Int)) / 8 = (J : Int) := ⟨(f + k) / 8, by omega⟩
        obtain ⟨R, hR8⟩ : ∃ R : Nat, ((f : Int) + (k : Int)) % 8 = (R : Int) := ⟨(f + k) % 8, by omega⟩
        have hR : R < 8 := by omega
        have hJl : J < m + 4 := by omega
        have hJl' : (J : Int) < (m : Int) + 4 := by omega
        obtain ⟨x, hx⟩ : ∃ x, L[J]? = some x := ⟨_, List.getElem?_eq_getElem (by omega)⟩
        have hcell := HRow.out.cell hx
        have hfz := HRow.out.frozen J
        have hxb := HLB.out x (List.mem_of_getElem? hx)
        have h2R : (2 : Nat) ^ R < 2 ^ 8 := Nat.pow_lt_pow_right (by omega) hR
        have HV : Hid (bits BinOp.xor IntKind.u8 x (2 ^ R % 256) = ((x.toNat ^^^ 2 ^ R : Nat) : Int)) := by
          show _ = _
          obtain ⟨y, rfl⟩ := Int.eq_ofNat_of_zero_le hxb.1
          rw [show ((2 : Int) ^ R % 256) = ((2 ^ R : Nat) : Int) by rw [Int.emod_eq_of_lt (Int.pow_nonneg (by omega)) (by have : ((2 ^ R : Nat) : Int) < 256 := by omega
                                                                                                                          simpa using this)]; simp, u8_xor_nat _ _ (by omega) (by omega), Int.toNat_natCast]
        have HB2 : Hid (Bytes (L.set J ((x.toNat ^^^ 2 ^ R : Nat) : Int))) := fun z hz => by
          rcases List.mem_or_eq_of_mem_set hz with h | h
          · exact HLB.out z h
          · subst h
            have := Cr.xor_lt 8 (show x.toNat < 2 ^ 8 by omega) h2R
            omega
        have HC' : Hid (Cr.crc Cr.ones (L.set J ((x.toNat ^^^ 2 ^ R : Nat) : Int)) ^^^ Cr.shn (8 * (m + 4) - f) (p / 2 * 2 ^ (k + 1)) = Cr.crc Cr.ones L0 ^^^ Cr.shn (8 * (m + 4) - f) turn) := by
          show _ = _
          rw [← HC.out, Cr.crc_flip Cr.ones L J R x hR hx, Cr.turn_odd hp2 (show k ≤ 8 * (m + 4) - f by omega), show 8 * (L.length - J) - R = 8 * (m + 4) - f - k by rw [hLl]; omega]
          rw [Nat.xor_assoc, Nat.xor_comm (Cr.shn (8 * (m + 4) - f - k) 1)]
        clear hx h2R hxb
        go_wp2
        refine wp_region_lex2 (C := fun w' => ∃ n, w' = wr.drewN n) (by kernel_rfl) (by kernel_rfl) ⟨1, rfl⟩ ?_
        repeat (first
          | (refine wpQ2_pure rfl ?_; go_big_quiet_step (fail); refine wpQuiet_nil ?_)
          | (refine wpQ2_look rfl ?_; go_big_quiet_step (fail); refine wpQuiet_nil ?_))
        refine wpQ2_store (fun w' => ∃ n, w' = (wr.setCell ⟨g, J, none⟩ (.int .u8 (bits BinOp.xor IntKind.u8 x (2 ^ R % 256)))).drewN n) rfl rfl rfl ⟨g, J, none⟩ (.int .u8 (bits BinOp.xor IntKind.u8 x (2 ^ R % 256))) rfl rfl ?_ ?_
        · rintro w5 ⟨n5, rfl⟩
          refine ⟨(wr.drewN n5).setCell ⟨g, J, none⟩ (.int .u8 (bits BinOp.xor IntKind.u8 x (2 ^ R % 256))), ?_, n5, rfl⟩
          simp [Instr.storeAt, go_sem, *]
        rintro w5 ⟨n5, rfl⟩
        rw [HV.out]
        have HN : Hid (RowIn w2 g w2.heap.size (L.set J ((x.toNat ^^^ 2 ^ R : Nat) : Int)) ((wr.setCell ⟨g, J, none⟩ (.int .u8 ((x.toNat ^^^ 2 ^ R : Nat) : Int))).drewN n5)) := (HRow.out.set J _).drewN n5
        generalize World.drewN _ n5 = w6 at *
        go_wp2
        go_roundw
        case rel => exact ⟨k + 1, p / 2, _, by omega, by go_num, by go_num, by omega, HP', by rw [List.length_set]; exact hLl, HB2, HN, HC'⟩
        case measure => simp [intOf]; omega
    · obtain rfl : k = 32 := by omega
      have hp0 : p = 0 := by rw [HP.out]; exact Nat.div_eq_of_lt (by omega)
      subst hp0
      have HE : Hid (openOf L = (11, [])) := HT.out L hLl HLB.out (by
        have h := HC.out
        rw [Nat.zero_mul, Cr.shn_zero, Nat.xor_zero] at h
        exact h)
      have hoff := HRow.out.off
      have hbr : Below w1.heap.size w2 wr := ⟨hoff.os, hoff.tape, hoff.output, hoff.size, fun q hq => hoff.block q (by omega) (by omega)⟩
      have hbw : Below w.heap.size w wr := hb2.trans (hbr.mono hb.size)
      have htab3 : TabAt wr w1.heap.size w.heap.size := htab2.below hbr
      have O := open_any wr.heap.size w.heap.size _ (m + 4) c2 L wr (htab3.mono (Nat.le_trans hs12 hbr.size)) (Nat.le_refl _) hLl hc2 (by omega) HLB.out HRow.out.nums
      rw [HE.out] at O
      clear htab3 htab2 hoff hbr
      go_wp2_with fail
      refine O.mono ?_
      rintro e w7 ⟨A, c7, rfl, _, _, hb7⟩
      clear O
      have hb8 := hbw.trans (hb7.mono hbw.size)
      simp only [List.length_nil]
      go_wp2_with fail
      refine (known_any _).mono ?_
      rintro e w9 ⟨rfl, hb9⟩
      go_wp2
      go_ret
      exact ⟨rfl, hb8.trans (hb9.mono hb8.size)⟩

theorem turns_zero (a : Option Addr) (n m c : Nat) (es : List Int) (at_ : Int) (w : World) (hn : es.length = n) (hc : n ≤ c) (_hl : n ≤ 9223372036854775807) (hz : Bytes es) (h1 : Nums .u8 w w.heap.size a es)
    (hm : min (n : Int) 200 = (m : Int)) (hmn : m ≤ n) (hm2 : m ≤ 200) :
    Calls Try.prog 5 #[.slice a n c, .int .i64 at_, .int .u32 0] w fun e w' => e = .returned (.bool true) ∧ Below w.heap.size w w' := by
  have hmc : (m : Int) ≤ (c : Int) := by omega
  have hlen : (es.take m).length = m := by rw [List.length_take]; omega
  have HZ := Lib.hid (hz.take m)
  go_enter Try.func5, Try.ntmps5
  go_wp2_with fail
  refine (new_any _).mono ?_
  rintro e w1 ⟨rfl, htab, hb, hsz⟩
  have htab1 : TabAt w1 w1.heap.size w.heap.size := by rw [hsz]; exact htab
  clear hsz htab
  have K := seal_any w1.heap.size w.heap.size a m c (es.take m) w1 htab1 (Nat.le_refl _) hlen (by omega) (by omega) HZ.out (((h1.take m).below hb).mono hb.size)
  have hlen2 : (es.take m ++ Cr.le4 (Cr.sum (es.take m))).length = m + 4 := by rw [List.length_append, hlen, Cr.le4_len]
  clear hlen hz
  go_wp2_with fail
  refine K.mono ?_
  rintro e w2 ⟨v, rfl, hmade⟩
  clear K
  obtain ⟨g, c2, rfl, hc2, hg, hrow⟩ := RowIn.made hmade (by omega)
  have hb2 := hb.trans (hmade.2.mono hb.size)
  clear hmade htab1 hrow
  rw [hlen2] at hc2 ⊢
  go_wp2_with fail
  refine (known_any _).mono ?_
  rintro e w9 ⟨rfl, hb9⟩
  go_wp2
  go_ret
  exact ⟨rfl, hb2.trans (hb9.mono hb2.size)⟩

theorem walk_turns (a0 : Option Addr) (len0 cap0 : Nat) (z0 : List Int) (a1 : Int) (a2 : Int) (w : World) (w0 : IsRow .u8 w a0 len0 cap0 z0) (w1 : (Lit.int .i64 a1).wf = true) (w2 : (Lit.int .u32 a2).wf = true) :
    Calls Try.prog 5 #[.slice a0 len0 cap0, .int .i64 a1, .int .u32 a2] w fun e w' => e = .returned (.bool true) ∧ Below w.heap.size w w' := by
  obtain ⟨es, hes, hlc, hcm, hn, hw⟩ := w0.elems
  have h1 := bounds_i64 w1
  have h2 := bounds_u32 w2
  have hl : len0 ≤ 9223372036854775807 := Nat.le_trans hlc hcm
  obtain ⟨t, rfl⟩ := Int.eq_ofNat_of_zero_le (show 0 ≤ a2 by omega)
  by_cases ht : t = 0
  · subst ht
    exact turns_zero a0 len0 (min len0 200) cap0 es a1 w hes hlc hl (bytes_of hw) hn (by omega) (by omega) (by omega)
  · exact turns_go a0 len0 (min len0 200) cap0 es a1 t w hes hlc hl (bytes_of hw) hn (by omega) (by omega) (by omega) ⟨by omega, by omega⟩ ht (by omega)
end Go.Proofs.Ytbhdffefjphphaa
