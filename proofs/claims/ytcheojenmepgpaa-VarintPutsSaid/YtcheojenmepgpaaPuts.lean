/-
  The walk of the law VarintPuts: it returns true.
-/
import Derived.Test.YtcheojenmepgpaaKnown
import Derived.OpenShut
namespace Go.Proofs.Ytcheojenmepgpaa
open Go.RowKit
set_option maxRecDepth 100000

/-- the number of a signed one -/
def zigN (s : Int) : Int := if s < 0 then -2 * s - 1 else 2 * s
/-- the signed one of a number -/
def zagN (n : Int) : Int := if n % 2 = 1 then -(n / 2) - 1 else n / 2
theorem zigN_range {s : Int} (h0 : -9223372036854775808 ≤ s) (h1 : s ≤ 9223372036854775807) : 0 ≤ zigN s ∧ zigN s ≤ 18446744073709551615 := by unfold zigN; split <;> omega
theorem zagN_range {n : Int} (h0 : 0 ≤ n) (h1 : n ≤ 18446744073709551615) : -9223372036854775808 ≤ zagN n ∧ zagN n ≤ 9223372036854775807 := by unfold zagN; split <;> omega
theorem zag_zig (s : Int) : zagN (zigN s) = s := by unfold zagN zigN; split <;> split <;> omega
theorem zig_zag (n : Int) (h0 : 0 ≤ n) : zigN (zagN n) = n := by unfold zagN zigN; split <;> split <;> omega
theorem zig_any (s : Int) (w : World) (h0 : -9223372036854775808 ≤ s) (h1 : s ≤ 9223372036854775807) :
    Calls Try.prog 10 #[.int .i64 s] w fun e w' => e = .returned (.int .u64 (zigN s)) ∧ w = w' := by
  unfold zigN; split
  · exact zig_neg s w (by omega) h0
  · exact zig_pos s w (by omega) h1
theorem rzig_any (s : Int) (w : World) (h0 : -9223372036854775808 ≤ s) (h1 : s ≤ 9223372036854775807) :
    Calls Try.prog 11 #[.int .i64 s] w fun e w' => e = .returned (.int .u64 (zigN s)) ∧ w = w' := by
  unfold zigN; split
  · exact rzig_neg s w (by omega) h0
  · exact rzig_pos s w (by omega) h1
theorem zag_any (n : Int) (w : World) (h0 : 0 ≤ n) (h1 : n ≤ 18446744073709551615) :
    Calls Try.prog 12 #[.int .u64 n] w fun e w' => e = .returned (.int .i64 (zagN n)) ∧ w = w' := by
  unfold zagN; split
  · exact zag_odd n w h0 h1 (by simpa using ‹_›)
  · exact zag_even n w h0 h1 (by simpa using ‹_›)
theorem rzag_any (n : Int) (w : World) (h0 : 0 ≤ n) (h1 : n ≤ 18446744073709551615) :
    Calls Try.prog 15 #[.int .u64 n] w fun e w' => e = .returned (.int .i64 (zagN n)) ∧ w = w' := by
  unfold zagN; split
  · exact rzag_odd n w h0 h1 (by simpa using ‹_›)
  · exact rzag_even n w h0 h1 (by simpa using ‹_›)

set_option maxHeartbeats 800000 in
theorem puts_lt (a0 : Option Addr) (cap0 : Nat) (es : List Int) (s : Int) (w : World) (hs0 : -9223372036854775808 ≤ s) (hs1 : s ≤ 9223372036854775807) (hlc : es.length ≤ cap0) (hz : ∀ c ∈ es.take 20, 0 ≤ c ∧ c ≤ 18446744073709551615) (hn : Nums .u64 w w.heap.size a0 (es.take 20)) (h20 : es.length < 20) :
    Calls Try.prog 3 #[.slice a0 es.length cap0, .int .i64 s] w fun e w' => e = .returned (.bool true) ∧ Below w.heap.size w w' := by
  have hl : (es.take 20).length = min 20 es.length := List.length_take
  go_enter Try.func3, Try.ntmps3
  go_wp2_with fail
  refine (put_len w.heap.size _ _ _ (es.take 20) _ (by omega) (by omega) hz (Nat.le_refl _) hn).mono ?_
  rintro e w1 ⟨A, c, rfl, hc, hn1, hb1⟩
  go_wp2_with fail
  refine (rput_len w.heap.size _ _ _ (es.take 20) _ (by omega) (by omega) hz hb1.size (hn.below hb1)).mono ?_
  rintro e w2 ⟨A2, c2, rfl, hc2, hn2, hb2⟩
  go_wp2_with fail
  refine (same_len w2.heap.size _ _ _ _ _ _ (puts (es.take 20)) (puts (es.take 20)) _ rfl rfl rfl (by have := puts_length (es.take 20) hz; omega) ((hn1.below hb2).mono hb2.size) hn2).mono ?_
  rintro e w3 ⟨rfl, q, rfl⟩
  go_wp2_with fail
  refine (zig_any _ _ hs0 hs1).mono ?_
  rintro e w4 ⟨rfl, rfl⟩
  go_wp2_with fail
  refine (rzig_any _ _ hs0 hs1).mono ?_
  rintro e w4 ⟨rfl, rfl⟩
  go_wp2_with fail
  refine (zig_any _ _ hs0 hs1).mono ?_
  rintro e w4 ⟨rfl, rfl⟩
  go_wp2_with fail
  have hzr := zigN_range hs0 hs1
  refine (zag_any _ _ hzr.1 hzr.2).mono ?_
  rintro e w4 ⟨rfl, rfl⟩
  rw [zag_zig]
  go_wp2_with fail
  have hbW : Below w.heap.size w (w2.drewN q) := below_drewN (hb1.trans (hb2.mono hb1.size)) q
  have hnW : Nums .u64 (w2.drewN q) w.heap.size a0 (es.take 20) := hn.below hbW
  have hnA : Nums .u8 (w2.drewN q) (w2.drewN q).heap.size A (puts (es.take 20)) := ((hn1.below (below_drewN hb2 q)).mono hb2.size)
  generalize w2.drewN q = W at *
  clear hn1 hb1 hn2 hb2 hn hc2 hzr
  have hzl : (es.take 20).length ≤ 20 := by omega
  have hzN : (es.take 20).length = es.length := by omega
  have HZN := Lib.hid hzN
  have HZ := Lib.hid hz
  clear hz hl hzN
  generalize es.take 20 = zs at *
  go_loopw [5, 6] (fun v i wr => ∃ (k : Nat) (A : Option Addr) (c : Nat), k ≤ zs.length ∧ i = .int .i64 k ∧ v = .slice A (puts (zs.drop k)).length c ∧ (puts (zs.drop k)).length ≤ c ∧ Nums .u8 wr W.heap.size A (puts (zs.drop k)) ∧ Below W.heap.size W wr) (fun _ i _ => zs.length - (intOf i).toNat)
  case atStart => exact ⟨0, A, c, by omega, rfl, rfl, hc, hnA, Below.refl _ _⟩
  case round =>
    clear hnA hc
    obtain ⟨k, A, c, hk, rfl, rfl, hc, hnA, hbr⟩ := hrel
    by_cases hlt : k < zs.length
    · obtain ⟨z, hzk⟩ : ∃ z, zs[k]? = some z := ⟨_, List.getElem?_eq_getElem hlt⟩
      have hdrop : zs.drop k = z :: zs.drop (k + 1) := by
        rw [List.drop_eq_getElem_cons hlt]
        rw [List.getElem?_eq_getElem hlt] at hzk
        injection hzk with hzk
        rw [hzk]
      have hputs : puts (zs.drop k) = Vi.enc z.toNat ++ puts (zs.drop (k + 1)) := by
        rw [hdrop, show z :: zs.drop (k + 1) = [z] ++ zs.drop (k + 1) from rfl, puts_append, puts_one]
      have hzb := HZ.out z (List.mem_of_getElem? hzk)
      have hbyte := puts_byte (zs.drop k)
      have hplen := puts_length (zs.drop k) (fun x hx => HZ.out x (List.mem_of_mem_drop hx))
      have hget : Vi.get (puts (zs.drop k)) = (z.toNat, (Vi.enc z.toNat).length, 0) := by
        rw [hputs]; exact Vi.get_enc (by omega) _
      have hdl : (zs.drop k).length ≤ 20 := by rw [List.length_drop]; omega
      obtain ⟨b1, o1, rfl, hb1, hc1⟩ := (hnW.below (hbr.mono hbW.size)).open hzk
      have HG := Lib.hid hget
      have HP := Lib.hid hputs
      clear hget hdrop hputs hzk
      generalize puts (zs.drop k) = P at *
      have hkN : (k : Int) < (es.length : Int) := by have := HZN.out; omega
      have hkc : (k : Int) + 1 ≤ (cap0 : Int) := by have := HZN.out; omega
      go_wp2_with fail
      refine (get_len W.heap.size _ _ _ P _ rfl (by omega) hbyte hnA).mono ?_
      rintro e w1 ⟨he, rfl⟩
      rw [HG.out] at he
      obtain rfl := he
      have hzz : ((z.toNat : Nat) : Int) = z := Int.toNat_of_nonneg hzb.1
      simp only [hzz]
      clear hzz
      go_wp2_with fail
      refine (size_any _ _ hzb.1 hzb.2).mono ?_
      rintro e w1 ⟨rfl, rfl⟩
      go_wp2_with fail
      refine (rput_len w.heap.size _ _ _ [z] _ rfl (by simp) (by simpa using hzb) (by have := hbr.size; have := hbW.size; omega) (Nums.one hb1 hc1)).mono ?_
      rintro e w3 ⟨A3, c3, rfl, hc3, hn3, hb3⟩
      rw [puts_one]
      clear hc3 hn3
      have hKL : (Vi.enc z.toNat).length + (puts (zs.drop (k + 1))).length = P.length := by rw [HP.out, List.length_append]
      have hnA3 : Nums .u8 w3 W.heap.size A P := hnA.below (hb3.mono hbr.size)
      have hb4 := hbr.trans (hb3.mono hbr.size)
      have hdropP : P.drop (Vi.enc z.toNat).length = puts (zs.drop (k + 1)) := by rw [HP.out, List.drop_left]
      have hnD := hnA3.drop (i := (Vi.enc z.toNat).length) hc
      rw [hdropP] at hnD
      have HD := Lib.hid hnD
      clear hdropP hnA hnA3 hnD hb3
      generalize hP2 : puts (zs.drop (k + 1)) = P2 at *
      have HP2 := Lib.hid hP2
      clear hP2
      generalize (Vi.enc z.toNat).length = K at *
      have hKL2 : (K : Int) ≤ (P.length : Int) := by omega
      have hKc : (K : Int) ≤ (c : Int) := by omega
      have HE := Lib.hid (show P.length - K = P2.length by omega)
      have hP2c : P2.length ≤ c - K := by omega
      clear hKL
      have hzr := zagN_range hzb.1 hzb.2
      go_wp2_with fail
      refine (zag_any _ _ hzb.1 hzb.2).mono ?_
      rintro e w4 ⟨rfl, rfl⟩
      go_wp2_with fail
      refine (rzag_any _ _ hzb.1 hzb.2).mono ?_
      rintro e w4 ⟨rfl, rfl⟩
      go_wp2_with fail
      refine (zag_any _ _ hzb.1 hzb.2).mono ?_
      rintro e w4 ⟨rfl, rfl⟩
      go_wp2_with fail
      refine (zig_any _ _ hzr.1 hzr.2).mono ?_
      rintro e w4 ⟨rfl, rfl⟩
      rw [zig_zag z hzb.1]
      go_wp2_with fail
      go_roundw
      case rel => exact ⟨k + 1, _, _, by omega, by go_num, by rw [HE.out, HP2.out], by rw [HP2.out]; exact hP2c, by rw [HP2.out]; exact HD.out, hb4⟩
      case measure => simp [intOf]; omega
    · have hP0 : (puts (zs.drop k)).length = 0 := by rw [List.drop_eq_nil_of_le (by omega)]; rfl
      rw [hP0]
      have hkN : ¬ (k : Int) < (es.length : Int) := by have := HZN.out; omega
      clear hP0 hnA hc
      go_wp2_with fail
      refine (known_any _).mono ?_
      rintro e w3 ⟨rfl, hb3⟩
      go_wp2
      go_ret
      exact ⟨rfl, hbW.trans ((hbr.trans (hb3.mono hbr.size)).mono hbW.size)⟩

set_option maxHeartbeats 800000 in
theorem puts_eq (a0 : Option Addr) (cap0 : Nat) (es : List Int) (s : Int) (w : World) (hs0 : -9223372036854775808 ≤ s) (hs1 : s ≤ 9223372036854775807) (hlc : es.length ≤ cap0) (hz : ∀ c ∈ es.take 20, 0 ≤ c ∧ c ≤ 18446744073709551615) (hn : Nums .u64 w w.heap.size a0 (es.take 20)) (h20 : es.length ≤ 20) (h21 : 20 ≤ es.length) :
    Calls Try.prog 3 #[.slice a0 es.length cap0, .int .i64 s] w fun e w' => e = .returned (.bool true) ∧ Below w.heap.size w w' := by
  have hl : (es.take 20).length = min 20 es.length := List.length_take
  go_enter Try.func3, Try.ntmps3
  go_wp2_with fail
  refine (put_len w.heap.size _ _ _ (es.take 20) _ (by omega) (by omega) hz (Nat.le_refl _) hn).mono ?_
  rintro e w1 ⟨A, c, rfl, hc, hn1, hb1⟩
  go_wp2_with fail
  refine (rput_len w.heap.size _ _ _ (es.take 20) _ (by omega) (by omega) hz hb1.size (hn.below hb1)).mono ?_
  rintro e w2 ⟨A2, c2, rfl, hc2, hn2, hb2⟩
  go_wp2_with fail
  refine (same_len w2.heap.size _ _ _ _ _ _ (puts (es.take 20)) (puts (es.take 20)) _ rfl rfl rfl (by have := puts_length (es.take 20) hz; omega) ((hn1.below hb2).mono hb2.size) hn2).mono ?_
  rintro e w3 ⟨rfl, q, rfl⟩
  go_wp2_with fail
  refine (zig_any _ _ hs0 hs1).mono ?_
  rintro e w4 ⟨rfl, rfl⟩
  go_wp2_with fail
  refine (rzig_any _ _ hs0 hs1).mono ?_
  rintro e w4 ⟨rfl, rfl⟩
  go_wp2_with fail
  refine (zig_any _ _ hs0 hs1).mono ?_
  rintro e w4 ⟨rfl, rfl⟩
  go_wp2_with fail
  have hzr := zigN_range hs0 hs1
  refine (zag_any _ _ hzr.1 hzr.2).mono ?_
  rintro e w4 ⟨rfl, rfl⟩
  rw [zag_zig]
  go_wp2_with fail
  have hbW : Below w.heap.size w (w2.drewN q) := below_drewN (hb1.trans (hb2.mono hb1.size)) q
  have hnW : Nums .u64 (w2.drewN q) w.heap.size a0 (es.take 20) := hn.below hbW
  have hnA : Nums .u8 (w2.drewN q) (w2.drewN q).heap.size A (puts (es.take 20)) := ((hn1.below (below_drewN hb2 q)).mono hb2.size)
  generalize w2.drewN q = W at *
  clear hn1 hb1 hn2 hb2 hn hc2 hzr
  have hzl : (es.take 20).length ≤ 20 := by omega
  have hzN : (es.take 20).length = es.length := by omega
  have HZN := Lib.hid hzN
  have HZ := Lib.hid hz
  clear hz hl hzN
  generalize es.take 20 = zs at *
  go_loopw [5, 6] (fun v i wr => ∃ (k : Nat) (A : Option Addr) (c : Nat), k ≤ zs.length ∧ i = .int .i64 k ∧ v = .slice A (puts (zs.drop k)).length c ∧ (puts (zs.drop k)).length ≤ c ∧ Nums .u8 wr W.heap.size A (puts (zs.drop k)) ∧ Below W.heap.size W wr) (fun _ i _ => zs.length - (intOf i).toNat)
  case atStart => exact ⟨0, A, c, by omega, rfl, rfl, hc, hnA, Below.refl _ _⟩
  case round =>
    clear hnA hc
    obtain ⟨k, A, c, hk, rfl, rfl, hc, hnA, hbr⟩ := hrel
    by_cases hlt : k < zs.length
    · obtain ⟨z, hzk⟩ : ∃ z, zs[k]? = some z := ⟨_, List.getElem?_eq_getElem hlt⟩
      have hdrop : zs.drop k = z :: zs.drop (k + 1) := by
        rw [List.drop_eq_getElem_cons hlt]
        rw [List.getElem?_eq_getElem hlt] at hzk
        injection hzk with hzk
        rw [hzk]
      have hputs : puts (zs.drop k) = Vi.enc z.toNat ++ puts (zs.drop (k + 1)) := by
        rw [hdrop, show z :: zs.drop (k + 1) = [z] ++ zs.drop (k + 1) from rfl, puts_append, puts_one]
      have hzb := HZ.out z (List.mem_of_getElem? hzk)
      have hbyte := puts_byte (zs.drop k)
      have hplen := puts_length (zs.drop k) (fun x hx => HZ.out x (List.mem_of_mem_drop hx))
      have hget : Vi.get (puts (zs.drop k)) = (z.toNat, (Vi.enc z.toNat).length, 0) := by
        rw [hputs]; exact Vi.get_enc (by omega) _
      have hdl : (zs.drop k).length ≤ 20 := by rw [List.length_drop]; omega
      obtain ⟨b1, o1, rfl, hb1, hc1⟩ := (hnW.below (hbr.mono hbW.size)).open hzk
      have HG := Lib.hid hget
      have HP := Lib.hid hputs
      clear hget hdrop hputs hzk
      generalize puts (zs.drop k) = P at *
      have hkN : (k : Int) < (es.length : Int) := by have := HZN.out; omega
      have hkc : (k : Int) + 1 ≤ (cap0 : Int) := by have := HZN.out; omega
      go_wp2_with fail
      refine (get_len W.heap.size _ _ _ P _ rfl (by omega) hbyte hnA).mono ?_
      rintro e w1 ⟨he, rfl⟩
      rw [HG.out] at he
      obtain rfl := he
      have hzz : ((z.toNat : Nat) : Int) = z := Int.toNat_of_nonneg hzb.1
      simp only [hzz]
      clear hzz
      go_wp2_with fail
      refine (size_any _ _ hzb.1 hzb.2).mono ?_
      rintro e w1 ⟨rfl, rfl⟩
      go_wp2_with fail
      refine (rput_len w.heap.size _ _ _ [z] _ rfl (by simp) (by simpa using hzb) (by have := hbr.size; have := hbW.size; omega) (Nums.one hb1 hc1)).mono ?_
      rintro e w3 ⟨A3, c3, rfl, hc3, hn3, hb3⟩
      rw [puts_one]
      clear hc3 hn3
      have hKL : (Vi.enc z.toNat).length + (puts (zs.drop (k + 1))).length = P.length := by rw [HP.out, List.length_append]
      have hnA3 : Nums .u8 w3 W.heap.size A P := hnA.below (hb3.mono hbr.size)
      have hb4 := hbr.trans (hb3.mono hbr.size)
      have hdropP : P.drop (Vi.enc z.toNat).length = puts (zs.drop (k + 1)) := by rw [HP.out, List.drop_left]
      have hnD := hnA3.drop (i := (Vi.enc z.toNat).length) hc
      rw [hdropP] at hnD
      have HD := Lib.hid hnD
      clear hdropP hnA hnA3 hnD hb3
      generalize hP2 : puts (zs.drop (k + 1)) = P2 at *
      have HP2 := Lib.hid hP2
      clear hP2
      generalize (Vi.enc z.toNat).length = K at *
      have hKL2 : (K : Int) ≤ (P.length : Int) := by omega
      have hKc : (K : Int) ≤ (c : Int) := by omega
      have HE := Lib.hid (show P.length - K = P2.length by omega)
      have hP2c : P2.length ≤ c - K := by omega
      clear hKL
      have hzr := zagN_range hzb.1 hzb.2
      go_wp2_with fail
      refine (zag_any _ _ hzb.1 hzb.2).mono ?_
      rintro e w4 ⟨rfl, rfl⟩
      go_wp2_with fail
      refine (rzag_any _ _ hzb.1 hzb.2).mono ?_
      rintro e w4 ⟨rfl, rfl⟩
      go_wp2_with fail
      refine (zag_any _ _ hzb.1 hzb.2).mono ?_
      rintro e w4 ⟨rfl, rfl⟩
      go_wp2_with fail
      refine (zig_any _ _ hzr.1 hzr.2).mono ?_
      rintro e w4 ⟨rfl, rfl⟩
      rw [zig_zag z hzb.1]
      go_wp2_with fail
      go_roundw
      case rel => exact ⟨k + 1, _, _, by omega, by go_num, by rw [HE.out, HP2.out], by rw [HP2.out]; exact hP2c, by rw [HP2.out]; exact HD.out, hb4⟩
      case measure => simp [intOf]; omega
    · have hP0 : (puts (zs.drop k)).length = 0 := by rw [List.drop_eq_nil_of_le (by omega)]; rfl
      rw [hP0]
      have hkN : ¬ (k : Int) < (es.length : Int) := by have := HZN.out; omega
      clear hP0 hnA hc
      go_wp2_with fail
      refine (known_any _).mono ?_
      rintro e w3 ⟨rfl, hb3⟩
      go_wp2
      go_ret
      exact ⟨rfl, hbW.trans ((hbr.trans (hb3.mono hbr.size)).mono hbW.size)⟩

set_option maxHeartbeats 800000 in
theorem puts_gt (a0 : Option Addr) (cap0 : Nat) (es : List Int) (s : Int) (w : World) (hs0 : -9223372036854775808 ≤ s) (hs1 : s ≤ 9223372036854775807) (hlc : es.length ≤ cap0) (hz : ∀ c ∈ es.take 20, 0 ≤ c ∧ c ≤ 18446744073709551615) (hn : Nums .u64 w w.heap.size a0 (es.take 20)) (h20 : 20 < es.length) :
    Calls Try.prog 3 #[.slice a0 es.length cap0, .int .i64 s] w fun e w' => e = .returned (.bool true) ∧ Below w.heap.size w w' := by
  have hl : (es.take 20).length = min 20 es.length := List.length_take
  go_enter Try.func3, Try.ntmps3
  go_wp2_with fail
  refine (put_len w.heap.size _ _ _ (es.take 20) _ (by omega) (by omega) hz (Nat.le_refl _) hn).mono ?_
  rintro e w1 ⟨A, c, rfl, hc, hn1, hb1⟩
  go_wp2_with fail
  refine (rput_len w.heap.size _ _ _ (es.take 20) _ (by omega) (by omega) hz hb1.size (hn.below hb1)).mono ?_
  rintro e w2 ⟨A2, c2, rfl, hc2, hn2, hb2⟩
  go_wp2_with fail
  refine (same_len w2.heap.size _ _ _ _ _ _ (puts (es.take 20)) (puts (es.take 20)) _ rfl rfl rfl (by have := puts_length (es.take 20) hz; omega) ((hn1.below hb2).mono hb2.size) hn2).mono ?_
  rintro e w3 ⟨rfl, q, rfl⟩
  go_wp2_with fail
  refine (zig_any _ _ hs0 hs1).mono ?_
  rintro e w4 ⟨rfl, rfl⟩
  go_wp2_with fail
  refine (rzig_any _ _ hs0 hs1).mono ?_
  rintro e w4 ⟨rfl, rfl⟩
  go_wp2_with fail
  refine (zig_any _ _ hs0 hs1).mono ?_
  rintro e w4 ⟨rfl, rfl⟩
  go_wp2_with fail
  have hzr := zigN_range hs0 hs1
  refine (zag_any _ _ hzr.1 hzr.2).mono ?_
  rintro e w4 ⟨rfl, rfl⟩
  rw [zag_zig]
  go_wp2_with fail
  have hbW : Below w.heap.size w (w2.drewN q) := below_drewN (hb1.trans (hb2.mono hb1.size)) q
  have hnW : Nums .u64 (w2.drewN q) w.heap.size a0 (es.take 20) := hn.below hbW
  have hnA : Nums .u8 (w2.drewN q) (w2.drewN q).heap.size A (puts (es.take 20)) := ((hn1.below (below_drewN hb2 q)).mono hb2.size)
  generalize w2.drewN q = W at *
  clear hn1 hb1 hn2 hb2 hn hc2 hzr
  have hzl : (es.take 20).length ≤ 20 := by omega
  have hzN : (es.take 20).length = 20 := by omega
  have HZN := Lib.hid hzN
  have HZ := Lib.hid hz
  clear hz hl hzN
  generalize es.take 20 = zs at *
  go_loopw [5, 6] (fun v i wr => ∃ (k : Nat) (A : Option Addr) (c : Nat), k ≤ zs.length ∧ i = .int .i64 k ∧ v = .slice A (puts (zs.drop k)).length c ∧ (puts (zs.drop k)).length ≤ c ∧ Nums .u8 wr W.heap.size A (puts (zs.drop k)) ∧ Below W.heap.size W wr) (fun _ i _ => zs.length - (intOf i).toNat)
  case atStart => exact ⟨0, A, c, by omega, rfl, rfl, hc, hnA, Below.refl _ _⟩
  case round =>
    clear hnA hc
    obtain ⟨k, A, c, hk, rfl, rfl, hc, hnA, hbr⟩ := hrel
    by_cases hlt : k < zs.length
    · obtain ⟨z, hzk⟩ : ∃ z, zs[k]? = some z := ⟨_, List.getElem?_eq_getElem hlt⟩
      have hdrop : zs.drop k = z :: zs.drop (k + 1) := by
        rw [List.drop_eq_getElem_cons hlt]
        rw [List.getElem?_eq_getElem hlt] at hzk
        injection hzk with hzk
        rw [hzk]
      have hputs : puts (zs.drop k) = Vi.enc z.toNat ++ puts (zs.drop (k + 1)) := by
        rw [hdrop, show z :: zs.drop (k + 1) = [z] ++ zs.drop (k + 1) from rfl, puts_append, puts_one]
      have hzb := HZ.out z (List.mem_of_getElem? hzk)
      have hbyte := puts_byte (zs.drop k)
      have hplen := puts_length (zs.drop k) (fun x hx => HZ.out x (List.mem_of_mem_drop hx))
      have hget : Vi.get (puts (zs.drop k)) = (z.toNat, (Vi.enc z.toNat).length, 0) := by
        rw [hputs]; exact Vi.get_enc (by omega) _
      have hdl : (zs.drop k).length ≤ 20 := by rw [List.length_drop]; omega
      obtain ⟨b1, o1, rfl, hb1, hc1⟩ := (hnW.below (hbr.mono hbW.size)).open hzk
      have HG := Lib.hid hget
      have HP := Lib.hid hputs
      clear hget hdrop hputs hzk
      generalize puts (zs.drop k) = P at *
      have hkN : (k : Int) < 20 := by have := HZN.out; omega
      have hkc : (k : Int) + 1 ≤ (cap0 : Int) := by have := HZN.out; omega
      go_wp2_with fail
      refine (get_len W.heap.size _ _ _ P _ rfl (by omega) hbyte hnA).mono ?_
      rintro e w1 ⟨he, rfl⟩
      rw [HG.out] at he
      obtain rfl := he
      have hzz : ((z.toNat : Nat) : Int) = z := Int.toNat_of_nonneg hzb.1
      simp only [hzz]
      clear hzz
      go_wp2_with fail
      refine (size_any _ _ hzb.1 hzb.2).mono ?_
      rintro e w1 ⟨rfl, rfl⟩
      go_wp2_with fail
      refine (rput_len w.heap.size _ _ _ [z] _ rfl (by simp) (by simpa using hzb) (by have := hbr.size; have := hbW.size; omega) (Nums.one hb1 hc1)).mono ?_
      rintro e w3 ⟨A3, c3, rfl, hc3, hn3, hb3⟩
      rw [puts_one]
      clear hc3 hn3
      have hKL : (Vi.enc z.toNat).length + (puts (zs.drop (k + 1))).length = P.length := by rw [HP.out, List.length_append]
      have hnA3 : Nums .u8 w3 W.heap.size A P := hnA.below (hb3.mono hbr.size)
      have hb4 := hbr.trans (hb3.mono hbr.size)
      have hdropP : P.drop (Vi.enc z.toNat).length = puts (zs.drop (k + 1)) := by rw [HP.out, List.drop_left]
      have hnD := hnA3.drop (i := (Vi.enc z.toNat).length) hc
      rw [hdropP] at hnD
      have HD := Lib.hid hnD
      clear hdropP hnA hnA3 hnD hb3
      generalize hP2 : puts (zs.drop (k + 1)) = P2 at *
      have HP2 := Lib.hid hP2
      clear hP2
      generalize (Vi.enc z.toNat).length = K at *
      have hKL2 : (K : Int) ≤ (P.length : Int) := by omega
      have hKc : (K : Int) ≤ (c : Int) := by omega
      have HE := Lib.hid (show P.length - K = P2.length by omega)
      have hP2c : P2.length ≤ c - K := by omega
      clear hKL
      have hzr := zagN_range hzb.1 hzb.2
      go_wp2_with fail
      refine (zag_any _ _ hzb.1 hzb.2).mono ?_
      rintro e w4 ⟨rfl, rfl⟩
      go_wp2_with fail
      refine (rzag_any _ _ hzb.1 hzb.2).mono ?_
      rintro e w4 ⟨rfl, rfl⟩
      go_wp2_with fail
      refine (zag_any _ _ hzb.1 hzb.2).mono ?_
      rintro e w4 ⟨rfl, rfl⟩
      go_wp2_with fail
      refine (zig_any _ _ hzr.1 hzr.2).mono ?_
      rintro e w4 ⟨rfl, rfl⟩
      rw [zig_zag z hzb.1]
      go_wp2_with fail
      go_roundw
      case rel => exact ⟨k + 1, _, _, by omega, by go_num, by rw [HE.out, HP2.out], by rw [HP2.out]; exact hP2c, by rw [HP2.out]; exact HD.out, hb4⟩
      case measure => simp [intOf]; omega
    · have hP0 : (puts (zs.drop k)).length = 0 := by rw [List.drop_eq_nil_of_le (by omega)]; rfl
      rw [hP0]
      have hkN : ¬ (k : Int) < 20 := by have := HZN.out; omega
      clear hP0 hnA hc
      go_wp2_with fail
      refine (known_any _).mono ?_
      rintro e w3 ⟨rfl, hb3⟩
      go_wp2
      go_ret
      exact ⟨rfl, hbW.trans ((hbr.trans (hb3.mono hbr.size)).mono hbW.size)⟩

theorem walk_puts (a0 : Option Addr) (len0 cap0 : Nat) (z0 : List Int) (a1 : Int) (w : World) (w0 : IsRow .u64 w a0 len0 cap0 z0) (w1 : (Lit.int .i64 a1).wf = true) :
    Calls Try.prog 3 #[.slice a0 len0 cap0, .int .i64 a1] w fun e w' => e = .returned (.bool true) ∧ Below w.heap.size w w' := by
  obtain ⟨es, rfl, hlc, hcm, hn, hw⟩ := w0.elems
  have hb := bounds_i64 w1
  have hz : ∀ c ∈ es.take 20, 0 ≤ c ∧ c ≤ 18446744073709551615 := fun c hc => bounds_u64 (hw c (List.mem_of_mem_take hc))
  rcases Nat.lt_trichotomy es.length 20 with h | h | h
  · exact puts_lt a0 cap0 es a1 w hb.1 hb.2 hlc hz (hn.take 20) h
  · exact puts_eq a0 cap0 es a1 w hb.1 hb.2 hlc hz (hn.take 20) (by omega) (by omega)
  · exact puts_gt a0 cap0 es a1 w hb.1 hb.2 hlc hz (hn.take 20) h

end Go.Proofs.Ytcheojenmepgpaa
