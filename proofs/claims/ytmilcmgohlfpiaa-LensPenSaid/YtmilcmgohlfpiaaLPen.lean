/-
  The walk of LensPen.
-/
import Derived.Test.YtmilcmgohlfpiaaPenW
import Derived.Test.YtmilcmgohlfpiaaRdP
import Derived.Deep.LoopGhost
import Derived.Deep.QuietTactic
import Derived.Deep.RegionWith
namespace Go.Proofs.Ytmilcmgohlfpiaa
open Go.RowKit
set_option maxRecDepth 100000

theorem puts_drop {zs : List Int} {k : Nat} {z : Int} (h : zs[k]? = some z) : puts (zs.drop k) = Vi.enc z.toNat ++ puts (zs.drop (k + 1)) := by
  have hk : k < zs.length := (List.getElem?_eq_some_iff.1 h).1
  rw [List.getElem?_eq_getElem hk] at h
  injection h with h
  rw [List.drop_eq_getElem_cons hk, h, show z :: zs.drop (k + 1) = [z] ++ zs.drop (k + 1) from rfl, puts_append, puts_one]
/-- what the pen wrote, in the law's order -/
def pieces (a b c : Int) (l s f : List Int) : List Int :=
  [a] ++ (puts l ++ ([b % 256, b / 256] ++ (Vi.enc f.length ++ f ++ (puts (s.map zigZ) ++ ([c % 256, c / 256 % 256, c / 65536 % 256, c / 16777216] ++ (f ++ []))))))
theorem pieces_bytes {a b c : Int} {l s f : List Int} (ha : 0 ≤ a ∧ a ≤ 255) (hb : 0 ≤ b ∧ b ≤ 65535) (hc : 0 ≤ c ∧ c ≤ 4294967295) (hf : ∀ x ∈ f, 0 ≤ x ∧ x ≤ 255) : ∀ x ∈ pieces a b c l s f, 0 ≤ x ∧ x ≤ 255 := by
  intro x hx
  simp only [pieces, List.mem_append, List.mem_cons, List.not_mem_nil, or_false] at hx
  rcases hx with rfl | hx | (rfl | rfl) | (hx | hx) | hx | (rfl | rfl | rfl | rfl) | hx
  all_goals first | omega | exact puts_byte _ x hx | exact Vi.enc_byte _ x hx | exact hf x hx

/-- the pen's steps, one behind the other -/
structure PenSteps (a0 a1 a2 : Int) (a3 a4 a5 : Option Addr) (m3 c3 m4 c4 m5 c5 : Nat) (L S F : List Int) (w : World) (b : Nat) (P1 P2 P3 P4 P5 P6 P7 : World → Prop) : Prop where
  s1 : ∀ W, Pn w.heap.size w b 1000 [] false W → Calls Try.prog 26 #[.pointer (some ⟨b, 0, none⟩), .int .u8 a0] W fun e w' => (∃ v, e = .returned v) ∧ P1 w'
  s2 : ∀ W, P1 W → Calls Try.prog 27 #[.pointer (some ⟨b, 0, none⟩), .slice a3 m3 c3] W fun e w' => (∃ v, e = .returned v) ∧ P2 w'
  s3 : ∀ W, P2 W → Calls Try.prog 28 #[.pointer (some ⟨b, 0, none⟩), .int .u16 a1] W fun e w' => (∃ v, e = .returned v) ∧ P3 w'
  s4 : ∀ W, P3 W → Calls Try.prog 29 #[.pointer (some ⟨b, 0, none⟩), .slice a5 m5 c5] W fun e w' => (∃ v, e = .returned v) ∧ P4 w'
  s5 : ∀ W, P4 W → Calls Try.prog 30 #[.pointer (some ⟨b, 0, none⟩), .slice a4 m4 c4] W fun e w' => (∃ v, e = .returned v) ∧ P5 w'
  s6 : ∀ W, P5 W → Calls Try.prog 31 #[.pointer (some ⟨b, 0, none⟩), .int .u32 a2] W fun e w' => (∃ v, e = .returned v) ∧ P6 w'
  s7 : ∀ W, P6 W → Calls Try.prog 32 #[.pointer (some ⟨b, 0, none⟩), .slice a5 m5 c5] W fun e w' => (∃ v, e = .returned v) ∧ P7 w'
  s8 : ∀ W, P7 W → Calls Try.prog 33 #[.pointer (some ⟨b, 0, none⟩)] W fun e w' => e = .returned (.int .i64 0) ∧ W = w'
  s9 : ∀ W, P7 W → Calls Try.prog 34 #[.pointer (some ⟨b, 0, none⟩)] W fun e w' => ∃ A c, e = .returned (.slice A (pieces a0 a1 a2 L S F).length c) ∧ (pieces a0 a1 a2 L S F).length ≤ c ∧ Nums .u8 w' w'.heap.size A (pieces a0 a1 a2 L S F) ∧ Below w.heap.size w w' ∧ w.heap.size ≤ w'.heap.size
theorem pen_part (a0 a1 a2 : Int) (a3 a4 a5 : Option Addr) (m3 c3 m4 c4 m5 c5 : Nat) (L S F : List Int) (w : World) (b : Nat) (h1 : 0 ≤ a1 ∧ a1 ≤ 65535) (h2 : 0 ≤ a2 ∧ a2 ≤ 4294967295)
    (l3 : L.length = m3) (z3 : ∀ c ∈ L, 0 ≤ c ∧ c ≤ 18446744073709551615) (k3 : Nums .u64 w w.heap.size a3 L) (l4 : S.length = m4) (z4 : ∀ c ∈ S, -9223372036854775808 ≤ c ∧ c ≤ 9223372036854775807) (k4 : Nums .i64 w w.heap.size a4 S)
    (l5 : F.length = m5) (k5 : Nums .u8 w w.heap.size a5 F) (b3 : m3 ≤ 20) (b4 : m4 ≤ 20) (b5 : m5 ≤ 100) :
    ∃ P1 P2 P3 P4 P5 P6 P7, PenSteps a0 a1 a2 a3 a4 a5 m3 c3 m4 c4 m5 c5 L S F w b P1 P2 P3 P4 P5 P6 P7 := by
  have u1 := puts_length L z3
  have u2 := puts_length (S.map zigZ) (zigs_range z4)
  have u3 := puts_length [(m5 : Int)] (by simp; omega)
  rw [List.length_map] at u2
  rw [List.length_singleton] at u3
  have hE : puts [(m5 : Int)] = Vi.enc F.length := by rw [puts_one, Int.toNat_natCast, l5]
  have hfin : [] ++ [a0] ++ puts L ++ [a1 % 256, a1 / 256] ++ (puts [(m5 : Int)] ++ F) ++ puts (S.map zigZ) ++ [a2 % 256, a2 / 256 % 256, a2 / 65536 % 256, a2 / 16777216] ++ F = pieces a0 a1 a2 L S F := by
    rw [hE]; simp [pieces]
  refine ⟨_, _, _, _, _, _, _, ⟨fun W h => pw_u8 a0 h (by decide), fun W h => pw_num a3 m3 c3 L h l3 (by simp; omega) z3 k3, fun W h => pw_u16 a1 h1.1 h1.2 h (by simp; omega), fun W h => pw_fld a5 m5 c5 F h l5 (by simp; omega) k5,
    fun W h => pw_sig a4 m4 c4 S h l4 (by simp; omega) z4 k4, fun W h => pw_u32 a2 h2.1 h2.2 h (by simp; omega), fun W h => pw_raw a5 m5 c5 F h l5 (by simp; omega) k5, fun W h => pw_err h, fun W h => ?_⟩⟩
  have h9 := pw_bytes h (by simp; omega)
  rw [hfin] at h9
  exact h9

set_option maxHeartbeats 4000000 in
theorem lpen_go (a0 a1 a2 : Int) (a3 a4 a5 : Option Addr) (n3 c3 n4 c4 n5 c5 : Nat) (es3 es4 es5 : List Int) (w : World)
    (h0 : 0 ≤ a0 ∧ a0 ≤ 255) (h1 : 0 ≤ a1 ∧ a1 ≤ 65535) (h2 : 0 ≤ a2 ∧ a2 ≤ 4294967295)
    (l3 : es3.length = n3) (q3 : n3 ≤ c3) (z3 : ∀ c ∈ es3, 0 ≤ c ∧ c ≤ 18446744073709551615) (k3 : Nums .u64 w w.heap.size a3 es3)
    (l4 : es4.length = n4) (q4 : n4 ≤ c4) (z4 : ∀ c ∈ es4, -9223372036854775808 ≤ c ∧ c ≤ 9223372036854775807) (k4 : Nums .i64 w w.heap.size a4 es4)
    (l5 : es5.length = n5) (q5 : n5 ≤ c5) (z5 : ∀ c ∈ es5, 0 ≤ c ∧ c ≤ 255) (k5 : Nums .u8 w w.heap.size a5 es5) :
    Calls Try.prog 4 #[.int .u8 a0, .int .u16 a1, .int .u32 a2, .slice a3 n3 c3, .slice a4 n4 c4, .slice a5 n5 c5] w fun e w' => e = .returned (.bool true) ∧ Below w.heap.size w w' := by
  obtain ⟨m3, e3⟩ : ∃ m : Nat, (if 20 < (n3 : Int) then (20 : Int) else (n3 : Int)) = (m : Int) := ⟨min n3 20, by split <;> omega⟩
  obtain ⟨m4, e4⟩ : ∃ m : Nat, (if 20 < (n4 : Int) then (20 : Int) else (n4 : Int)) = (m : Int) := ⟨min n4 20, by split <;> omega⟩
  obtain ⟨m5, e5⟩ : ∃ m : Nat, (if 100 < (n5 : Int) then (100 : Int) else (n5 : Int)) = (m : Int) := ⟨min n5 100, by split <;> omega⟩
  have b3 : m3 ≤ 20 ∧ m3 ≤ n3 := by split at e3 <;> omega
  have b4 : m4 ≤ 20 ∧ m4 ≤ n4 := by split at e4 <;> omega
  have b5 : m5 ≤ 100 ∧ m5 ≤ n5 := by split at e5 <;> omega
  obtain ⟨L, hL⟩ : ∃ L, es3.take m3 = L := ⟨_, rfl⟩
  obtain ⟨S, hS⟩ : ∃ S, es4.take m4 = S := ⟨_, rfl⟩
  obtain ⟨F, hF⟩ : ∃ F, es5.take m5 = F := ⟨_, rfl⟩
  have HL : Hid (L.length = m3 ∧ (∀ c ∈ L, 0 ≤ c ∧ c ≤ 18446744073709551615) ∧ Nums .u64 w w.heap.size a3 L) := by
    subst hL; exact ⟨by rw [List.length_take]; omega, fun c hc => z3 c (List.mem_of_mem_take hc), k3.take _⟩
  have HS : Hid (S.length = m4 ∧ (∀ c ∈ S, -9223372036854775808 ≤ c ∧ c ≤ 9223372036854775807) ∧ Nums .i64 w w.heap.size a4 S) := by
    subst hS; exact ⟨by rw [List.length_take]; omega, fun c hc => z4 c (List.mem_of_mem_take hc), k4.take _⟩
  have HF : Hid (F.length = m5 ∧ (∀ c ∈ F, 0 ≤ c ∧ c ≤ 255) ∧ Nums .u8 w w.heap.size a5 F) := by
    subst hF; exact ⟨by rw [List.length_take]; omega, fun c hc => z5 c (List.mem_of_mem_take hc), k5.take _⟩
  have g3 : (m3 : Int) ≤ (c3 : Int) := by omega
  have g4 : (m4 : Int) ≤ (c4 : Int) := by omega
  have g5 : (m5 : Int) ≤ (c5 : Int) := by omega
  clear hL hS hF z3 z4 z5 k3 k4 k5 l3 l4 l5
  have HZ : Hid ((pieces a0 a1 a2 L S F).length ≤ 1000 ∧ ∀ c ∈ pieces a0 a1 a2 L S F, 0 ≤ c ∧ c ≤ 255) := by
    refine ⟨?_, pieces_bytes h0 h1 h2 HF.out.2.1⟩
    have u1 := puts_length L HL.out.2.1
    have u2 := puts_length (S.map zigZ) (zigs_range HS.out.2.1)
    have u3 := Vi.enc_le10 (n := F.length) (by have := HF.out.1; omega)
    have u4 := HL.out.1
    have u5 := HS.out.1
    have u6 := HF.out.1
    rw [List.length_map] at u2
    simp only [pieces, List.length_append, List.length_cons, List.length_nil]
    omega
  have HNEW : ∀ n, Calls Try.prog 25 #[.int .i64 1000] (w.drewN n) fun e w' => e = .returned (.pointer (some ⟨w.heap.size, 0, none⟩)) ∧ Pn w.heap.size w w.heap.size 1000 [] false w' := fun n =>
    (pw_new (w.drewN n)).mono fun e w' ⟨he, g, p1, p2, p3, p4⟩ => ⟨he, g, p1, p2, p3, (below_drewN (Below.refl _ w) n).trans p4⟩
  obtain ⟨P1, P2, P3, P4, P5, P6, P7, HPP⟩ := pen_part a0 a1 a2 a3 a4 a5 m3 c3 m4 c4 m5 c5 L S F w w.heap.size h1 h2 HL.out.1 HL.out.2.1 HL.out.2.2 HS.out.1 HS.out.2.1 HS.out.2.2 HF.out.1 HF.out.2.2 b3.1 b4.1 b5.1
  have HPEN := Lib.hid HPP
  obtain ⟨Z, hZ⟩ : ∃ Z, pieces a0 a1 a2 L S F = Z := ⟨_, rfl⟩
  obtain ⟨R4, hR4⟩ : ∃ R, [a2 % 256, a2 / 256 % 256, a2 / 65536 % 256, a2 / 16777216] ++ (F ++ []) = R := ⟨_, rfl⟩
  obtain ⟨R3, hR3⟩ : ∃ R, Vi.enc m5 ++ F ++ (puts (S.map zigZ) ++ R4) = R := ⟨_, rfl⟩
  obtain ⟨R2, hR2⟩ : ∃ R, [a1 % 256, a1 / 256] ++ R3 = R := ⟨_, rfl⟩
  have HZR : Hid (Z = [a0] ++ (puts L ++ R2)) := by
    show _ = _
    rw [← hZ, ← hR2, ← hR3, ← hR4, ← HF.out.1]; rfl
  have HR2 := Lib.hid hR2
  have HR3 := Lib.hid hR3
  have HR4 := Lib.hid hR4
  have HZL : Hid (Z.length ≤ 1000 ∧ ∀ c ∈ Z, 0 ≤ c ∧ c ≤ 255) := by rw [← hZ]; exact HZ.out
  have HBY : ∀ W, P7 W → Calls Try.prog 34 #[.pointer (some ⟨w.heap.size, 0, none⟩)] W fun e w' => ∃ A c, e = .returned (.slice A Z.length c) ∧ Nums .u8 w' w'.heap.size A Z ∧ Below w.heap.size w w' := fun W h =>
    (HPP.s9 W h).mono fun e w' ⟨A, c, he, _, hn, hb, _⟩ => ⟨A, c, by rw [← hZ]; exact he, by rw [← hZ]; exact hn, hb⟩
  have HLN : ∀ W A c, Nums .u8 W W.heap.size A Z → Below w.heap.size w W → Calls Try.prog 7 #[.slice A Z.length c] W fun e w' => ∃ b, e = .returned (.pointer (some ⟨b, 0, none⟩)) ∧ At w.heap.size w b Z ([a0] ++ (puts L ++ R2)) w' := fun W A c hn hb =>
    (lnew_any A Z.length c Z W rfl (by have := HZL.out.1; omega) hn).mono fun e w' ⟨b, he, hl, hb2⟩ => ⟨b, he, _, 0, ⟨hl, hb.size, hb.trans (hb2.mono hb.size)⟩, HZR.out⟩
  clear HPP hZ hR2 hR3 hR4 HZ
  go_enter Try.func4, Try.ntmps4
  go_wp2
  go_quiet (fail)
  go_wp2_with (first
    | (go_at_call 25; refine (HNEW _).mono ?_; rintro e w2 ⟨rfl, hp⟩; have HP := Lib.hid hp; clear hp)
    | (go_at_call 26; refine (HPEN.out.s1 _ HP.out).mono ?_; rintro e w2 ⟨⟨v, rfl⟩, hp⟩; have HP1 := Lib.hid hp; clear hp)
    | (go_at_call 27; refine (HPEN.out.s2 _ HP1.out).mono ?_; rintro e w2 ⟨⟨v, rfl⟩, hp⟩; have HP2 := Lib.hid hp; clear hp)
    | (go_at_call 28; refine (HPEN.out.s3 _ HP2.out).mono ?_; rintro e w2 ⟨⟨v, rfl⟩, hp⟩; have HP3 := Lib.hid hp; clear hp)
    | (go_at_call 29; refine (HPEN.out.s4 _ HP3.out).mono ?_; rintro e w2 ⟨⟨v, rfl⟩, hp⟩; have HP4 := Lib.hid hp; clear hp)
    | (go_at_call 30; refine (HPEN.out.s5 _ HP4.out).mono ?_; rintro e w2 ⟨⟨v, rfl⟩, hp⟩; have HP5 := Lib.hid hp; clear hp)
    | (go_at_call 31; refine (HPEN.out.s6 _ HP5.out).mono ?_; rintro e w2 ⟨⟨v, rfl⟩, hp⟩; have HP6 := Lib.hid hp; clear hp)
    | (go_at_call 32; refine (HPEN.out.s7 _ HP6.out).mono ?_; rintro e w2 ⟨⟨v, rfl⟩, hp⟩; have HP7 := Lib.hid hp; clear hp)
    | (go_at_call 33; refine (HPEN.out.s8 _ HP7.out).mono ?_; rintro e w2 ⟨rfl, rfl⟩)
    | (go_at_call 34; refine (HBY _ HP7.out).mono ?_; rintro e w2 ⟨A, c, rfl, hn, hb⟩; have HNB := Lib.hid hn; have HBB := Lib.hid hb; clear hn hb)
    | (go_at_call 7; refine (HLN _ _ _ HNB.out HBB.out).mono ?_; rintro e w2 ⟨b, rfl, ha⟩; have HA := Lib.hid ha; clear ha)
    | (go_at_call 8; refine (at_u8 _ HA.out HZL.out.1 HZL.out.2).mono ?_; rintro e wa ⟨rfl, ha⟩; have HA1 := Lib.hid ha; clear ha))
  clear HNEW HP HP1 HP2 HP3 HP4 HP5 HP6 HP7 HPEN HBY HLN HNB HBB HA HZR
  go_loopw [15] (fun i wr => ∃ k : Nat, k ≤ m3 ∧ i = .int .i64 k ∧ Hid (At w.heap.size w b Z (puts (L.drop k) ++ R2) wr)) (fun i _ => m3 - (intOf i).toNat)
  case atStart => exact ⟨0, by omega, rfl, HA1⟩
  case round =>
    obtain ⟨k, hk, rfl, HA⟩ := hrel
    clear HA1
    by_cases hlt : k < m3
    · have hlt' : (k : Int) < (m3 : Int) := by omega
      obtain ⟨z, hz⟩ : ∃ z, L[k]? = some z := ⟨_, List.getElem?_eq_getElem (by have := HL.out.1; omega)⟩
      have hzr := HL.out.2.1 z (List.mem_of_getElem? hz)
      obtain ⟨b1, o1, rfl, hb1, hc1⟩ := HL.out.2.2.open hz
      have HD : Hid (At w.heap.size w b Z (Vi.enc z.toNat ++ (puts (L.drop (k + 1)) ++ R2)) wr) := by
        show At _ _ _ _ _ _
        rw [← List.append_assoc, ← puts_drop hz]; exact HA.out
      have hc := (HA.out.base.cell (p := ⟨b1, o1 + k, none⟩) hb1).trans hc1
      have HN : Hid (Calls Try.prog 12 #[.pointer (some ⟨b, 0, none⟩), .int .u64 z] wr.drew fun r w' => r = .returned (.int .u64 z) ∧ At w.heap.size w b Z (puts (L.drop (k + 1)) ++ R2) w' ∧ w'.cell? ⟨b1, o1 + k, none⟩ = some (.int .u64 z)) :=
        (at_num z hzr.1 hzr.2 (HD.out.below (below_drewN (Below.refl _ _) 1)) HZL.out.1 HZL.out.2).mono fun r w' ⟨h1, h2⟩ => ⟨h1, h2, (h2.base.cell (p := ⟨b1, o1 + k, none⟩) hb1).trans hc1⟩
      clear hz hc1 HD HA
      go_wp2
      go_region_with (go_at_call 12; refine HN.out.mono ?_; rintro r w3 ⟨rfl, ha, hcc⟩; have HA2 := Lib.hid ha; clear ha)
      all_goals go_wp2
      all_goals go_roundw
      all_goals first | exact ⟨k + 1, by omega, by go_num, HA2⟩ | (simp [intOf]; omega)
    · have HA0 : Hid (At w.heap.size w b Z R2 wr) := by
        have h := HA.out
        rw [List.drop_eq_nil_of_le (by have := HL.out.1; omega), puts_nil, List.nil_append] at h
        exact h
      have HF1 : Hid (∀ W, At w.heap.size w b Z R2 W → Calls Try.prog 10 #[.pointer (some ⟨b, 0, none⟩)] W fun r w' => r = .returned (.int .u16 a1) ∧ At w.heap.size w b Z R3 w') := fun W h => at_u16 a1 (HR2.out ▸ h) HZL.out.1 HZL.out.2
      have HF2 : Hid (∀ W, At w.heap.size w b Z R3 W → Calls Try.prog 18 #[.pointer (some ⟨b, 0, none⟩), .int .i64 m5] W fun r w' => ∃ A c, r = .returned (.slice A m5 c) ∧ Nums .u8 w' w'.heap.size A F ∧ At w.heap.size w b Z (puts (S.map zigZ) ++ R4) w') := fun W h => at_fld m5 HF.out.1 (Nat.le_trans b5.1 (by decide)) (HR3.out ▸ h) HZL.out.1 HZL.out.2
      have HSM : Hid (∀ (W : World) A c, Nums .u8 W W.heap.size A F → Below w.heap.size w W → Calls Try.prog 22 #[.slice A m5 c, .slice a5 m5 c5] W fun e w' => e = .returned (.bool true) ∧ ∃ n, w' = W.drewN n) := fun W A c hn hb => same_len W.heap.size A a5 m5 m5 c c5 F F W rfl HF.out.1 HF.out.1 (by omega) hn ((HF.out.2.2.below hb).mono hb.size)
      clear HA
      go_wp2_with (first
        | (go_at_call 10; refine (HF1.out _ HA0.out).mono ?_; rintro e w3 ⟨rfl, ha⟩; have HA2 := Lib.hid ha; clear ha)
        | (go_at_call 18; refine (HF2.out _ HA2.out).mono ?_; rintro e w3 ⟨A1, c1, rfl, hn, ha⟩; have HA3 := Lib.hid ha; have HN3 := Lib.hid hn; clear ha hn)
        | (go_at_call 22; refine (HSM.out _ _ _ HN3.out HA3.out.base).mono ?_; rintro e w3 ⟨rfl, n, rfl⟩; have HA4 := Lib.hid (HA3.out.below (below_drewN (Below.refl _ _) n)))
        )
      clear HF1 HF2 HA0 HA2 HA3 HN3
      go_loopw [16] (fun i wr => ∃ k : Nat, k ≤ m4 ∧ i = .int .i64 k ∧ Hid (At w.heap.size w b Z (puts ((S.map zigZ).drop k) ++ R4) wr)) (fun i _ => m4 - (intOf i).toNat)
      case atStart => exact ⟨0, by omega, rfl, HA4⟩
      case round =>
        obtain ⟨j, hj, rfl, HA⟩ := hrel
        clear HA4
        by_cases hlt4 : j < m4
        · have hlt4' : (j : Int) < (m4 : Int) := by omega
          obtain ⟨z, hz⟩ : ∃ z, S[j]? = some z := ⟨_, List.getElem?_eq_getElem (by have := HS.out.1; omega)⟩
          have hzr := HS.out.2.1 z (List.mem_of_getElem? hz)
          obtain ⟨b1, o1, rfl, hb1, hc1⟩ := HS.out.2.2.open hz
          have HD : Hid (At w.heap.size w b Z (Vi.enc (zigZ z).toNat ++ (puts ((S.map zigZ).drop (j + 1)) ++ R4)) wr) := by
            show At _ _ _ _ _ _
            rw [← List.append_assoc, ← puts_drop (zs := S.map zigZ) (k := j) (z := zigZ z) (by simp [hz])]; exact HA.out
          have hc := (HA.out.base.cell (p := ⟨b1, o1 + j, none⟩) hb1).trans hc1
          have HN : Hid (Calls Try.prog 14 #[.pointer (some ⟨b, 0, none⟩), .int .i64 z, .int .i64 z] wr.drew fun r w' => r = .returned (.int .i64 z) ∧ At w.heap.size w b Z (puts ((S.map zigZ).drop (j + 1)) ++ R4) w' ∧ w'.cell? ⟨b1, o1 + j, none⟩ = some (.int .i64 z)) :=
            (at_sig z hzr.1 hzr.2 (HD.out.below (below_drewN (Below.refl _ _) 1)) HZL.out.1 HZL.out.2).mono fun r w' ⟨h1, h2⟩ => ⟨h1, h2, (h2.base.cell (p := ⟨b1, o1 + j, none⟩) hb1).trans hc1⟩
          clear hz hc1 HD HA HSM
          go_wp2
          go_region_with (go_at_call 14; refine HN.out.mono ?_; rintro r w3 ⟨rfl, ha, hcc⟩; have HA2 := Lib.hid ha; clear ha)
          all_goals go_wp2
          all_goals go_roundw
          all_goals first | exact ⟨j + 1, by omega, by go_num, HA2⟩ | (simp [intOf]; omega)
        · have HA0 : Hid (At w.heap.size w b Z R4 wr) := by
            have h := HA.out
            rw [List.drop_eq_nil_of_le (by rw [List.length_map]; have := HS.out.1; omega), puts_nil, List.nil_append] at h
            exact h
          have HF1 : Hid (∀ W, At w.heap.size w b Z R4 W → Calls Try.prog 11 #[.pointer (some ⟨b, 0, none⟩)] W fun r w' => r = .returned (.int .u32 a2) ∧ At w.heap.size w b Z (F ++ []) w') := fun W h => at_u32 a2 (HR4.out ▸ h) HZL.out.1 HZL.out.2
          have HF2 : Hid (∀ W, At w.heap.size w b Z (F ++ []) W → Calls Try.prog 16 #[.pointer (some ⟨b, 0, none⟩), .int .i64 m5] W fun r w' => ∃ A c, r = .returned (.slice A m5 c) ∧ Nums .u8 w' w'.heap.size A F ∧ At w.heap.size w b Z [] w') := fun W h => at_raw m5 HF.out.1 h HZL.out.1
          clear HA
          go_wp2_with (first
            | (go_at_call 24; refine (known3_any _).mono ?_; rintro e w3 ⟨rfl, hb⟩; have HA1 := Lib.hid (HA0.out.below hb); clear hb)
            | (go_at_call 11; refine (HF1.out _ HA1.out).mono ?_; rintro e w3 ⟨rfl, ha⟩; have HA2 := Lib.hid ha; clear ha)
            | (go_at_call 16; refine (HF2.out _ HA2.out).mono ?_; rintro e w3 ⟨A1, c1, rfl, hn, ha⟩; have HA3 := Lib.hid ha; have HN3 := Lib.hid hn; clear ha hn)
            | (go_at_call 22; refine (HSM.out _ _ _ HN3.out HA3.out.base).mono ?_; rintro e w3 ⟨rfl, n, rfl⟩; have HA4 := Lib.hid (HA3.out.below (below_drewN (Below.refl _ _) n)))
            | (go_at_call 35; refine (at_end HA4.out HZL.out.1).mono ?_; rintro e w3 ⟨rfl, ha⟩; have HA5 := Lib.hid ha; clear ha))
          go_ret
          exact ⟨rfl, HA5.out.base⟩
theorem walk_lpen (a0 a1 a2 : Int) (a3 : Option Addr) (n3 c3 : Nat) (z3 : List Int) (a4 : Option Addr) (n4 c4 : Nat) (z4 : List Int) (a5 : Option Addr) (n5 c5 : Nat) (z5 : List Int) (w : World) (w0 : (Lit.int .u8 a0).wf = true) (w1 : (Lit.int .u16 a1).wf = true) (w2 : (Lit.int .u32 a2).wf = true) (w3 : IsRow .u64 w a3 n3 c3 z3) (w4 : IsRow .i64 w a4 n4 c4 z4) (w5 : IsRow .u8 w a5 n5 c5 z5) :
    Calls Try.prog 4 #[.int .u8 a0, .int .u16 a1, .int .u32 a2, .slice a3 n3 c3, .slice a4 n4 c4, .slice a5 n5 c5] w fun e w' => e = .returned (.bool true) ∧ Below w.heap.size w w' := by
  obtain ⟨e3, l3, q3, _, k3, r3⟩ := w3.elems
  obtain ⟨e4, l4, q4, _, k4, r4⟩ := w4.elems
  obtain ⟨e5, l5, q5, _, k5, r5⟩ := w5.elems
  simp [Lit.wf] at w0 w1 w2 r3 r4 r5
  exact lpen_go a0 a1 a2 a3 a4 a5 n3 c3 n4 c4 n5 c5 e3 e4 e5 w w0 w1 w2 l3 q3 r3 k3 l4 q4 r4 k4 l5 q5 r5 k5
end Go.Proofs.Ytmilcmgohlfpiaa
