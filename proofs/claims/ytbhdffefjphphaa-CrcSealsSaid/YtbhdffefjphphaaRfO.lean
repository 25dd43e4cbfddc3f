/-
  The document's bytes of a sum, its Open.
-/
import Derived.Test.YtbhdffefjphphaaRfS
import Derived.Test.YtbhdffefjphphaaCrcO
import Derived.Test.YtbhdffefjphphaaApp
namespace Go.Proofs.Ytbhdffefjphphaa
open Go.RowKit
set_option maxRecDepth 100000

theorem rbytes_any (n : Nat) (w : World) (h : n < 4294967296) : Calls Try.prog 22 #[.int .u32 n] w fun e w' => e = .returned (.slice (some ⟨w.heap.size, 0, none⟩) 4 4) ∧ Nums .u8 w' w'.heap.size (some ⟨w.heap.size, 0, none⟩) (Cr.le4 n) ∧ Below w.heap.size w w' := by
  have HL := Lib.hid (le4_is n h)
  have hn := Nums.new .u8 w 5 [(n : Int) % 256, (n : Int) / 256 % 256, (n : Int) / 65536 % 256, (n : Int) / 16777216] _ rfl
  simp only [List.map_cons, List.map_nil] at hn
  have HN := Lib.hid hn
  clear hn
  go_enter Try.func22, Try.ntmps22
  go_wp2
  go_ret
  refine ⟨rfl, ?_, (Below.refl _ w).alloc (Nat.le_refl _) _⟩
  rw [HL.out, World.size_alloc]
  exact HN.out

theorem ropen_short (a : Option Addr) (n c : Nat) (zs : List Int) (w : World) (hn : zs.length = n) (hs : n < 4) :
    Calls Try.prog 24 #[.slice a n c] w fun e w' => OpenR w w' (openOf zs) e := by
  have e0 : openOf zs = (13, []) := by unfold openOf; rw [if_pos (by omega)]
  rw [e0]
  have hs' : (n : Int) < 4 := by omega
  go_enter Try.func24, Try.ntmps24
  go_wp2
  refine bodyPost_ret (v := .tuple #[.slice none 0 0, .int .i64 13]) (by simp [results, Try.results24, go_sem]) rfl ⟨none, 0, rfl, by simp, Nums.nil, Below.refl _ _⟩

theorem le4_get (S k : Nat) (h : k < 4) : ∃ c, (Cr.le4 S)[k]? = some c := ⟨_, List.getElem?_eq_getElem (by rw [Cr.le4_len]; exact h)⟩

set_option maxHeartbeats 1000000 in
theorem ropen_long (B : Nat) (a : Option Addr) (n c : Nat) (zs : List Int) (w : World) (hB : B ≤ w.heap.size) (hn : zs.length = n) (hs : 4 ≤ n) (hc : n ≤ c) (hl : n ≤ 1000000) (hz : Bytes zs) (h1 : Nums .u8 w B a zs) :
    Calls Try.prog 24 #[.slice a n c] w fun e w' => OpenR w w' (openOf zs) e := by
  obtain ⟨i0, hi, hz0, hz1, hz2⟩ := info_parts byteInfo
  obtain ⟨m, rfl⟩ : ∃ m, n = m + 4 := ⟨n - 4, by omega⟩
  have hT : (zs.take m).length = m := by rw [List.length_take]; omega
  have E0 : zs.length - 4 = m := by omega
  have KS := rsum_any B a m c (zs.take m) w hT (by omega) (hz.take m) hB (h1.take m)
  have hsl := Cr.sum_lt (zs.take m)
  have HO : Hid (openOf zs = if zs.take m ++ Cr.le4 (Cr.sum (zs.take m)) = zs then (0, zs.take m) else (11, [])) := by
    show _ = _
    unfold openOf
    rw [if_neg (by omega), E0]
  have hi1 : IntKind.i64.wrap ((m + 4 : Nat) - 4 : Int) = (m : Int) := by rw [IntKind.wrap_i64]; omega
  have hm0 : (0 : Int) ≤ (m : Int) := by omega
  have hmc : (m : Int) ≤ (c : Int) := by omega
  have HZ := Lib.hid hz
  have HN := Lib.hid hn
  have H1 := Lib.hid (h1.mono hB)
  have HT := Lib.hid hT
  have hnot : ¬ ((m + 4 : Nat) : Int) < 4 := by omega
  clear hz hn h1 hT E0
  generalize hS : Cr.sum (zs.take m) = S at *
  have HS := Lib.hid hS
  clear hS
  go_enter Try.func24, Try.ntmps24
  go_wp2_with fail
  refine KS.mono ?_
  rintro e w1 ⟨rfl, hb1⟩
  clear KS
  go_wp2_with fail
  refine (rbytes_any S _ (by omega)).mono ?_
  rintro e w2 ⟨rfl, hn2, hb2⟩
  have hs2 : w1.heap.size + 1 ≤ w2.heap.size := by
    obtain ⟨b, off, e, hb, _⟩ := hn2 (by simp [Cr.le4])
    injection e with e; injection e with e1 e2
    omega
  have hbw : Below w.heap.size w w2 := hb1.trans (hb2.mono hb1.size)
  have hcell : ∀ k c, (Cr.le4 S)[k]? = some c → w2.cell? ⟨w1.heap.size, k, none⟩ = some (.int .u8 c) := fun k c hk => by
    obtain ⟨b, off, e, hb, hc⟩ := hn2 (by simp [Cr.le4])
    injection e with e; injection e with e1 e2
    subst e1 e2
    have := hc k c hk
    rwa [Nat.zero_add] at this
  have HC := Lib.hid hcell
  clear hcell hn2
  go_wp2
  go_loopw [6] (fun i wr => ∃ k : Nat, k ≤ 4 ∧ i = .int .i64 k ∧ Hid (∀ j, j < k → zs[m + j]? = (Cr.le4 S)[j]?) ∧ ∃ d, wr = w2.drewN d) (fun i _ => 4 - (intOf i).toNat)
  case atStart => exact ⟨0, by omega, rfl, fun j hj => by omega, 0, rfl⟩
  case round =>
    obtain ⟨k, hk, rfl, HE, d, rfl⟩ := hrel
    by_cases hlt : k < 4
    · have hlt' : (k : Int) < 4 := by omega
      obtain ⟨p, hp⟩ := le4_get S k hlt
      obtain ⟨q, hq⟩ : ∃ q, zs[m + k]? = some q := ⟨_, List.getElem?_eq_getElem (by rw [HN.out]; omega)⟩
      obtain ⟨b1, o1, rfl, g1, d1⟩ := (H1.out.below hbw).open hq
      have c1 := HC.out k p hp
      have x1 : (m : Int) + (k : Int) < (m : Int) + 4 := by omega
      have x0 : (0 : Int) ≤ (m : Int) + (k : Int) := by omega
      have k0 : (0 : Int) ≤ (k : Int) := by omega
      rw [show o1 + (m + k) = o1 + (m + k) from rfl] at d1
      by_cases hpq : p = q
      · have hne : (p != q) = false := by simp [hpq]
        have HE' : Hid (∀ j, j < k + 1 → zs[m + j]? = (Cr.le4 S)[j]?) := fun j hj => by
          by_cases hjk : j = k
          · subst hjk; rw [hq, hp, hpq]
          · exact HE.out j (by omega)
        clear hp hq hpq
        go_wp2
        go_quiet (fail)
        go_wp2
        go_roundw
        case rel => exact ⟨k + 1, by omega, by go_num, HE', _, by first | rfl | rw [World.drewN_drewN]⟩
        case measure => simp [intOf]; omega
      · have hne : (p != q) = true := by simp [hpq]
        have HF : Hid (openOf zs = (11, [])) := by
          show _ = _
          rw [HO.out, if_neg]
          intro heq
          rw [← heq, List.getElem?_append_right (by rw [HT.out]; omega), HT.out, show m + k - m = k by omega, hp] at hq
          exact hpq (Option.some.inj hq)
        clear hp hq hpq
        go_wp2
        go_quiet (fail)
        go_wp2
        rw [HF.out]
        refine bodyPost_ret (v := .tuple #[.slice none 0 0, .int .i64 11]) (by simp [results, Try.results24, go_sem]) rfl ⟨none, 0, rfl, by simp, Nums.nil, ?_⟩
        first | exact below_drewN hbw _ | (rw [World.drewN_drewN]; exact below_drewN hbw _)
    · obtain rfl : k = 4 := by omega
      have HF : Hid (openOf zs = (0, zs.take m)) := by
        show _ = _
        rw [HO.out, if_pos]
        have : zs.drop m = Cr.le4 S := by
          apply List.ext_getElem?
          intro j
          rw [List.getElem?_drop]
          by_cases hj : j < 4
          · exact HE.out j hj
          · rw [List.getElem?_eq_none (by rw [HN.out]; omega), List.getElem?_eq_none (by rw [Cr.le4_len]; omega)]
        rw [← this, List.take_append_drop]
      have hbd := below_drewN hbw d
      generalize hwb : w2.drewN d = wb at *
      have hLit := MadeK.lit 5 .u8 hbd
      have HLit := Lib.hid hLit
      have HNu := Lib.hid (((H1.out.take m).below hbd).mono hbd.size)
      clear hLit hwb
      generalize zs.take m = T at *
      have h40 : ¬ ((4 : Nat) : Int) < 4 := by omega
      go_wp2_with (at_builtin; refine wpList_append_any rfl (.tmp 33) (.tmp 36) 22 rfl w.heap.size 5 i0 (.int .u8 0) 1 Try.underlying22 hi hz0 hz1 hz2 rfl .u8 [] T _ rfl HLit.out.1 a m c _ rfl HT.out (HNu.out.below ((Below.refl _ _).alloc (Nat.le_refl _) _)) ?c1 ?c2 HLit.out.2.size ?_)
      case c1 => unfold maxLen; (try simp only [List.length_nil]); omega
      case c2 => (try simp only [List.length_nil]); omega
      intro v1 w5 hown hg
      have hm1 := HLit.out.more (zs := T) (by simpa using hown) hg
      rw [List.nil_append] at hm1
      obtain ⟨A, c5, rfl, hc5, hnm⟩ := hm1.slice
      have hb5 := hm1.2
      have HNM := Lib.hid hnm
      clear hown hg hm1 hnm
      go_wp2
      rw [HF.out]
      refine bodyPost_ret (v := .tuple #[.slice A T.length c5, .int .i64 0]) (by simp [results, Try.results24, go_sem]) rfl ⟨A, c5, rfl, hc5, HNM.out, hb5⟩

theorem ropen_any (B : Nat) (a : Option Addr) (n c : Nat) (zs : List Int) (w : World) (hB : B ≤ w.heap.size) (hn : zs.length = n) (hc : n ≤ c) (hl : n ≤ 1000000) (hz : Bytes zs) (h1 : Nums .u8 w B a zs) :
    Calls Try.prog 24 #[.slice a n c] w fun e w' => OpenR w w' (openOf zs) e := by
  by_cases hs : n < 4
  · exact ropen_short a n c zs w hn hs
  · exact ropen_long B a n c zs w hB hn (by omega) hc hl hz h1
/-- sealed bytes are opened -/
theorem openOf_sealed (zs : List Int) : openOf (zs ++ Cr.le4 (Cr.sum zs)) = (0, zs) := by
  have h1 : (zs ++ Cr.le4 (Cr.sum zs)).length = zs.length + 4 := by rw [List.length_append, Cr.le4_len]
  unfold openOf
  rw [h1, if_neg (by omega), show zs.length + 4 - 4 = zs.length by omega, List.take_left, if_pos rfl]
end Go.Proofs.Ytbhdffefjphphaa
