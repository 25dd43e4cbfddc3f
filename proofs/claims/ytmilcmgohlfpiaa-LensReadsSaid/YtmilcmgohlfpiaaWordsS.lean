/-
  The words of a lens, one by one: the iterator that Words makes, at words of 1, 2 or 4 bytes.
-/
import Derived.Test.YtmilcmgohlfpiaaWordsI
import Derived.ControlIn
import Derived.WalkMore
namespace Go.Proofs.Ytmilcmgohlfpiaa
open Go.RowKit Go.Shelf
set_option maxRecDepth 100000
attribute [local go_sem] Oper.semAt_some

/-- the j-th word from p on -/
def wordAt (zs : List Int) (p s j : Nat) : Int := le ((zs.drop (p + j * s)).take s)
/-- a lens's place, out of the world -/
def placeIn (b : Nat) (w : World) : Nat := match w.cell? ⟨b, 1, none⟩ with
  | some (.int _ z) => z.toNat
  | _ => 0
theorem placeIn_of {w : World} {lo b : Nat} {zs : List Int} {p e : Nat} (h : LensAt w lo b zs p e) : placeIn b w = p := by
  obtain ⟨A, cap, _, c0, c1, _⟩ := h.open
  simp [placeIn, c1]
theorem wordR_at {zs : List Int} {p s j : Nat} (h : p + (j + 1) * s ≤ zs.length) : wordR (zs.drop (p + j * s)) s = (wordAt zs p s j, s, 0) := by
  unfold wordR wordAt
  rw [Nat.succ_mul] at h
  rw [if_neg (by rw [List.length_drop]; omega)]

section
variable {n l B1 B2 lo b p s N : Nat} {zs : List Int} {Rd Dn : Nat → World → Prop} {Bk : World → Prop}
set_option maxHeartbeats 2000000 in
theorem words_some1 (hn : 1 ≤ n) (hl : zs.length ≤ 1000000000) (hz : ∀ x ∈ zs, 0 ≤ x ∧ x ≤ 255) (hs : s ≤ 4) (hs0 : 0 < s) (t1 : ((s : Int) == 1) = true) (hN : p + N * s ≤ zs.length) (hN1 : zs.length < p + (N + 1) * s)
    (hDL : ∀ j W, Dn j W → LensAt W lo b zs (p + j * s) 0 ∧ W.cell? ⟨B1, 0, none⟩ = some (.pointer (some ⟨b, 0, none⟩)) ∧ W.cell? ⟨B2, 0, none⟩ = some (.int .i64 s))
    (hdr : ∀ j W k, Dn j W → Dn j (W.drewN k)) (hBd : ∀ W k, Bk W → Bk (W.drewN k))
    (hst : ∀ j W r W2, j < N → Dn j W → Bk W → ReadI .u32 lo b zs (p + j * s) 0 (wordAt zs p s j, s, 0) W r W2 → Rd j W2 ∧ Bk W2)
    (hY : ∀ j W1, Rd j W1 → Bk W1 → j < N → YieldAt Fence.wide (n - 1) Try.prog l #[.int .u32 (wordAt zs p s j)] W1 fun e W2 => e = .returned (.bool true) ∧ Dn (j + 1) W2 ∧ Bk W2)
    (W : World) (h0 : Dn 0 W) (hb0 : Bk W) :
    CallsIn Fence.wide n Try.prog 58 #[.func (.yield l) #[] #[], .pointer (some ⟨B1, 0, none⟩), .pointer (some ⟨B2, 0, none⟩)] W fun r W' => (∃ v, r = .returned v) ∧ Dn N W' ∧ Bk W' := by
  have HZ := Lib.hid hz
  clear hz
  refine callsIn_of_wp Try.func58 rfl trivial ?_ rfl
  simp only [Try.ntmps58, List.size_toArray, List.length_cons, List.length_nil, Nat.reduceAdd, Nat.reduceSub, Array.replicate_succ, Array.replicate_zero, List.push_toArray, List.append_toArray, List.nil_append, List.cons_append]
  gi_wp2
  refine wpIn_wide.2 (wp_scope_straight ((wpIn_wide (n := n)).1 ?_))
  refine wpIn_seq ?_
  apply wpIn_label
  gi_wp2
  gi_loopw [] (fun wr => ∃ j, j ≤ N ∧ Dn j wr ∧ Bk wr) (fun wr => zs.length - placeIn b wr)
  case atStart => exact ⟨0, Nat.zero_le _, h0, hb0⟩
  case round =>
    obtain ⟨j, hj, hD, hB⟩ := hrel
    obtain ⟨hL, c1, c2⟩ := hDL j wr hD
    have hpl := placeIn_of hL
    have HE : Hid (∀ k, Calls Try.prog 39 #[.pointer (some ⟨b, 0, none⟩)] (wr.drewN k) fun r w' => r = .returned (.int .i64 (0 : Nat)) ∧ wr.drewN k = w') := fun k => lerr_any lo b zs _ 0 _ (hL.below (below_drewN (Below.refl _ _) k))
    have HL : Hid (∀ k, Calls Try.prog 37 #[.pointer (some ⟨b, 0, none⟩)] (wr.drewN k) fun r w' => r = .returned (.int .i64 ((zs.length : Int) - (p + j * s : Nat))) ∧ ∃ m, w' = wr.drewN m) := fun k => (lleft_any lo b zs _ 0 _ (hL.below (below_drewN (Below.refl _ _) k)) hl).mono fun r w' ⟨h1, m, h2⟩ => ⟨h1, k + m, by rw [h2]; simp [World.drewN, Nat.add_assoc]⟩
    have HD := Lib.hid hD
    have HB := Lib.hid hB
    have HLens := Lib.hid hL
    clear hD hB hL
    obtain ⟨q, hq⟩ : ∃ q, p + j * s = q := ⟨_, rfl⟩
    by_cases hlt : j < N
    · have hfit : p + (j + 1) * s ≤ zs.length := Nat.le_trans (Nat.add_le_add_left (Nat.mul_le_mul_right s hlt) p) hN
      have HW : Hid (wordR (zs.drop (p + j * s)) s = (wordAt zs p s j, s, 0)) := wordR_at hfit
      have HMZ : Hid (zs.length - (p + (j + 1) * s) < zs.length - (p + j * s)) := by
        show _ < _
        rw [Nat.succ_mul] at hfit ⊢
        omega
      rw [Nat.succ_mul, ← Nat.add_assoc] at hfit
      have HQ := Lib.hid hq
      rw [hq] at hfit HL hpl
      have hge : (s : Int) ≤ (zs.length : Int) - (q : Int) := by omega
      have HPL := Lib.hid hpl
      clear hpl hq hN hN1
      gi_wp2
      refine wpIn_wide.2 ?_
      go_quiet ((first | (go_at_call 39; exact quiet_of_eq (HE.out _)) | (go_at_call 37; exact HL.out _)))
      gi_wp2_with fail
      refine ⟨trivial, ?_⟩
      refine (callsIn_wide.2 (lword_any lo b zs q 0 (wr.drewN nq) s hs (HQ.out ▸ HLens.out.below (below_drewN (Below.refl _ _) nq)) hl HZ.out)).mono ?_
      rintro r W2 hr
      rw [← HQ.out, HW.out] at hr
      obtain ⟨hR2, hB2⟩ := hst j _ r W2 hlt (hdr _ _ nq HD.out) (hBd _ nq HB.out) hr
      have hr1 : r = .returned (.int .u32 (wordAt zs p s j)) := by rw [hr.1]; simp [ansI]
      subst hr1
      obtain ⟨fn, tmps, assign, body, hy, hR⟩ := hY j W2 hR2 hB2 hlt
      have HDL := Lib.hid hDL
      clear hr hR2 hB2 hDL hst hdr hBd hY
      gi_wp2
      refine hR.mono ?_
      rintro e W3 ⟨rfl, hD3, hB3⟩
      have hm3 := placeIn_of (HDL.out _ _ hD3).1
      have HM3 := Lib.hid hm3
      gi_wp2
      go_roundw
      case rel => exact ⟨j + 1, hlt, hD3, hB3⟩
      case measure => rw [HM3.out, HPL.out, ← HQ.out]; exact HMZ.out
    · have hjN : j = N := by omega
      subst hjN
      rw [Nat.succ_mul, ← Nat.add_assoc] at hN1
      rw [hq] at HL hN1
      have hge : ¬ (s : Int) ≤ (zs.length : Int) - (q : Int) := by omega
      clear hpl hq hN hN1
      gi_wp2
      refine wpIn_wide.2 ?_
      go_quiet ((first | (go_at_call 39; exact quiet_of_eq (HE.out _)) | (go_at_call 37; exact HL.out _)))
      gi_wp2
      first | go_end0 | (rw [Exit.noGoto_normal]; go_end0)
      exact ⟨⟨_, rfl⟩, hdr _ _ _ HD.out, hBd _ _ HB.out⟩

set_option maxHeartbeats 2000000 in
theorem words_some2 (hn : 1 ≤ n) (hl : zs.length ≤ 1000000000) (hz : ∀ x ∈ zs, 0 ≤ x ∧ x ≤ 255) (hs : s ≤ 4) (hs0 : 0 < s) (t1 : ((s : Int) == 1) = false) (t2 : ((s : Int) == 2) = true) (hN : p + N * s ≤ zs.length) (hN1 : zs.length < p + (N + 1) * s)
    (hDL : ∀ j W, Dn j W → LensAt W lo b zs (p + j * s) 0 ∧ W.cell? ⟨B1, 0, none⟩ = some (.pointer (some ⟨b, 0, none⟩)) ∧ W.cell? ⟨B2, 0, none⟩ = some (.int .i64 s))
    (hdr : ∀ j W k, Dn j W → Dn j (W.drewN k)) (hBd : ∀ W k, Bk W → Bk (W.drewN k))
    (hst : ∀ j W r W2, j < N → Dn j W → Bk W → ReadI .u32 lo b zs (p + j * s) 0 (wordAt zs p s j, s, 0) W r W2 → Rd j W2 ∧ Bk W2)
    (hY : ∀ j W1, Rd j W1 → Bk W1 → j < N → YieldAt Fence.wide (n - 1) Try.prog l #[.int .u32 (wordAt zs p s j)] W1 fun e W2 => e = .returned (.bool true) ∧ Dn (j + 1) W2 ∧ Bk W2)
    (W : World) (h0 : Dn 0 W) (hb0 : Bk W) :
    CallsIn Fence.wide n Try.prog 58 #[.func (.yield l) #[] #[], .pointer (some ⟨B1, 0, none⟩), .pointer (some ⟨B2, 0, none⟩)] W fun r W' => (∃ v, r = .returned v) ∧ Dn N W' ∧ Bk W' := by
  have HZ := Lib.hid hz
  clear hz
  refine callsIn_of_wp Try.func58 rfl trivial ?_ rfl
  simp only [Try.ntmps58, List.size_toArray, List.length_cons, List.length_nil, Nat.reduceAdd, Nat.reduceSub, Array.replicate_succ, Array.replicate_zero, List.push_toArray, List.append_toArray, List.nil_append, List.cons_append]
  gi_wp2
  refine wpIn_wide.2 (wp_scope_straight ((wpIn_wide (n := n)).1 ?_))
  refine wpIn_seq ?_
  apply wpIn_label
  gi_wp2
  gi_loopw [] (fun wr => ∃ j, j ≤ N ∧ Dn j wr ∧ Bk wr) (fun wr => zs.length - placeIn b wr)
  case atStart => exact ⟨0, Nat.zero_le _, h0, hb0⟩
  case round =>
    obtain ⟨j, hj, hD, hB⟩ := hrel
    obtain ⟨hL, c1, c2⟩ := hDL j wr hD
    have hpl := placeIn_of hL
    have HE : Hid (∀ k, Calls Try.prog 39 #[.pointer (some ⟨b, 0, none⟩)] (wr.drewN k) fun r w' => r = .returned (.int .i64 (0 : Nat)) ∧ wr.drewN k = w') := fun k => lerr_any lo b zs _ 0 _ (hL.below (below_drewN (Below.refl _ _) k))
    have HL : Hid (∀ k, Calls Try.prog 37 #[.pointer (some ⟨b, 0, none⟩)] (wr.drewN k) fun r w' => r = .returned (.int .i64 ((zs.length : Int) - (p + j * s : Nat))) ∧ ∃ m, w' = wr.drewN m) := fun k => (lleft_any lo b zs _ 0 _ (hL.below (below_drewN (Below.refl _ _) k)) hl).mono fun r w' ⟨h1, m, h2⟩ => ⟨h1, k + m, by rw [h2]; simp [World.drewN, Nat.add_assoc]⟩
    have HD := Lib.hid hD
    have HB := Lib.hid hB
    have HLens := Lib.hid hL
    clear hD hB hL
    obtain ⟨q, hq⟩ : ∃ q, p + j * s = q := ⟨_, rfl⟩
    by_cases hlt : j < N
    · have hfit : p + (j + 1) * s ≤ zs.length := Nat.le_trans (Nat.add_le_add_left (Nat.mul_le_mul_right s hlt) p) hN
      have HW : Hid (wordR (zs.drop (p + j * s)) s = (wordAt zs p s j, s, 0)) := wordR_at hfit
      have HMZ : Hid (zs.length - (p + (j + 1) * s) < zs.length - (p + j * s)) := by
        show _ < _
        rw [Nat.succ_mul] at hfit ⊢
        omega
      rw [Nat.succ_mul, ← Nat.add_assoc] at hfit
      have HQ := Lib.hid hq
      rw [hq] at hfit HL hpl
      have hge : (s : Int) ≤ (zs.length : Int) - (q : Int) := by omega
      have HPL := Lib.hid hpl
      clear hpl hq hN hN1
      gi_wp2
      refine wpIn_wide.2 ?_
      go_quiet ((first | (go_at_call 39; exact quiet_of_eq (HE.out _)) | (go_at_call 37; exact HL.out _)))
      gi_wp2_with fail
      refine ⟨trivial, ?_⟩
      refine (callsIn_wide.2 (lword_any lo b zs q 0 (wr.drewN nq) s hs (HQ.out ▸ HLens.out.below (below_drewN (Below.refl _ _) nq)) hl HZ.out)).mono ?_
      rintro r W2 hr
      rw [← HQ.out, HW.out] at hr
      obtain ⟨hR2, hB2⟩ := hst j _ r W2 hlt (hdr _ _ nq HD.out) (hBd _ nq HB.out) hr
      have hr1 : r = .returned (.int .u32 (wordAt zs p s j)) := by rw [hr.1]; simp [ansI]
      subst hr1
      obtain ⟨fn, tmps, assign, body, hy, hR⟩ := hY j W2 hR2 hB2 hlt
      have HDL := Lib.hid hDL
      clear hr hR2 hB2 hDL hst hdr hBd hY
      gi_wp2
      refine hR.mono ?_
      rintro e W3 ⟨rfl, hD3, hB3⟩
      have hm3 := placeIn_of (HDL.out _ _ hD3).1
      have HM3 := Lib.hid hm3
      gi_wp2
      go_roundw
      case rel => exact ⟨j + 1, hlt, hD3, hB3⟩
      case measure => rw [HM3.out, HPL.out, ← HQ.out]; exact HMZ.out
    · have hjN : j = N := by omega
      subst hjN
      rw [Nat.succ_mul, ← Nat.add_assoc] at hN1
      rw [hq] at HL hN1
      have hge : ¬ (s : Int) ≤ (zs.length : Int) - (q : Int) := by omega
      clear hpl hq hN hN1
      gi_wp2
      refine wpIn_wide.2 ?_
      go_quiet ((first | (go_at_call 39; exact quiet_of_eq (HE.out _)) | (go_at_call 37; exact HL.out _)))
      gi_wp2
      first | go_end0 | (rw [Exit.noGoto_normal]; go_end0)
      exact ⟨⟨_, rfl⟩, hdr _ _ _ HD.out, hBd _ _ HB.out⟩

set_option maxHeartbeats 2000000 in
theorem words_some4 (hn : 1 ≤ n) (hl : zs.length ≤ 1000000000) (hz : ∀ x ∈ zs, 0 ≤ x ∧ x ≤ 255) (hs : s ≤ 4) (hs0 : 0 < s) (t1 : ((s : Int) == 1) = false) (t2 : ((s : Int) == 2) = false) (t4 : ((s : Int) == 4) = true) (hN : p + N * s ≤ zs.length) (hN1 : zs.length < p + (N + 1) * s)
    (hDL : ∀ j W, Dn j W → LensAt W lo b zs (p + j * s) 0 ∧ W.cell? ⟨B1, 0, none⟩ = some (.pointer (some ⟨b, 0, none⟩)) ∧ W.cell? ⟨B2, 0, none⟩ = some (.int .i64 s))
    (hdr : ∀ j W k, Dn j W → Dn j (W.drewN k)) (hBd : ∀ W k, Bk W → Bk (W.drewN k))
    (hst : ∀ j W r W2, j < N → Dn j W → Bk W → ReadI .u32 lo b zs (p + j * s) 0 (wordAt zs p s j, s, 0) W r W2 → Rd j W2 ∧ Bk W2)
    (hY : ∀ j W1, Rd j W1 → Bk W1 → j < N → YieldAt Fence.wide (n - 1) Try.prog l #[.int .u32 (wordAt zs p s j)] W1 fun e W2 => e = .returned (.bool true) ∧ Dn (j + 1) W2 ∧ Bk W2)
    (W : World) (h0 : Dn 0 W) (hb0 : Bk W) :
    CallsIn Fence.wide n Try.prog 58 #[.func (.yield l) #[] #[], .pointer (some ⟨B1, 0, none⟩), .pointer (some ⟨B2, 0, none⟩)] W fun r W' => (∃ v, r = .returned v) ∧ Dn N W' ∧ Bk W' := by
  have HZ := Lib.hid hz
  clear hz
  refine callsIn_of_wp Try.func58 rfl trivial ?_ rfl
  simp only [Try.ntmps58, List.size_toArray, List.length_cons, List.length_nil, Nat.reduceAdd, Nat.reduceSub, Array.replicate_succ, Array.replicate_zero, List.push_toArray, List.append_toArray, List.nil_append, List.cons_append]
  gi_wp2
  refine wpIn_wide.2 (wp_scope_straight ((wpIn_wide (n := n)).1 ?_))
  refine wpIn_seq ?_
  apply wpIn_label
  gi_wp2
  gi_loopw [] (fun wr => ∃ j, j ≤ N ∧ Dn j wr ∧ Bk wr) (fun wr => zs.length - placeIn b wr)
  case atStart => exact ⟨0, Nat.zero_le _, h0, hb0⟩
  case round =>
    obtain ⟨j, hj, hD, hB⟩ := hrel
    obtain ⟨hL, c1, c2⟩ := hDL j wr hD
    have hpl := placeIn_of hL
    have HE : Hid (∀ k, Calls Try.prog 39 #[.pointer (some ⟨b, 0, none⟩)] (wr.drewN k) fun r w' => r = .returned (.int .i64 (0 : Nat)) ∧ wr.drewN k = w') := fun k => lerr_any lo b zs _ 0 _ (hL.below (below_drewN (Below.refl _ _) k))
    have HL : Hid (∀ k, Calls Try.prog 37 #[.pointer (some ⟨b, 0, none⟩)] (wr.drewN k) fun r w' => r = .returned (.int .i64 ((zs.length : Int) - (p + j * s : Nat))) ∧ ∃ m, w' = wr.drewN m) := fun k => (lleft_any lo b zs _ 0 _ (hL.below (below_drewN (Below.refl _ _) k)) hl).mono fun r w' ⟨h1, m, h2⟩ => ⟨h1, k + m, by rw [h2]; simp [World.drewN, Nat.add_assoc]⟩
    have HD := Lib.hid hD
    have HB := Lib.hid hB
    have HLens := Lib.hid hL
    clear hD hB hL
    obtain ⟨q, hq⟩ : ∃ q, p + j * s = q := ⟨_, rfl⟩
    by_cases hlt : j < N
    · have hfit : p + (j + 1) * s ≤ zs.length := Nat.le_trans (Nat.add_le_add_left (Nat.mul_le_mul_right s hlt) p) hN
      have HW : Hid (wordR (zs.drop (p + j * s)) s = (wordAt zs p s j, s, 0)) := wordR_at hfit
      have HMZ : Hid (zs.length - (p + (j + 1) * s) < zs.length - (p + j * s)) := by
        show _ < _
        rw [Nat.succ_mul] at hfit ⊢
        omega
      rw [Nat.succ_mul, ← Nat.add_assoc] at hfit
      have HQ := Lib.hid hq
      rw [hq] at hfit HL hpl
      have hge : (s : Int) ≤ (zs.length : Int) - (q : Int) := by omega
      have HPL := Lib.hid hpl
      clear hpl hq hN hN1
      gi_wp2
      refine wpIn_wide.2 ?_
      go_quiet ((first | (go_at_call 39; exact quiet_of_eq (HE.out _)) | (go_at_call 37; exact HL.out _)))
      gi_wp2_with fail
      refine ⟨trivial, ?_⟩
      refine (callsIn_wide.2 (lword_any lo b zs q 0 (wr.drewN nq) s hs (HQ.out ▸ HLens.out.below (below_drewN (Below.refl _ _) nq)) hl HZ.out)).mono ?_
      rintro r W2 hr
      rw [← HQ.out, HW.out] at hr
      obtain ⟨hR2, hB2⟩ := hst j _ r W2 hlt (hdr _ _ nq HD.out) (hBd _ nq HB.out) hr
      have hr1 : r = .returned (.int .u32 (wordAt zs p s j)) := by rw [hr.1]; simp [ansI]
      subst hr1
      obtain ⟨fn, tmps, assign, body, hy, hR⟩ := hY j W2 hR2 hB2 hlt
      have HDL := Lib.hid hDL
      clear hr hR2 hB2 hDL hst hdr hBd hY
      gi_wp2
      refine hR.mono ?_
      rintro e W3 ⟨rfl, hD3, hB3⟩
      have hm3 := placeIn_of (HDL.out _ _ hD3).1
      have HM3 := Lib.hid hm3
      gi_wp2
      go_roundw
      case rel => exact ⟨j + 1, hlt, hD3, hB3⟩
      case measure => rw [HM3.out, HPL.out, ← HQ.out]; exact HMZ.out
    · have hjN : j = N := by omega
      subst hjN
      rw [Nat.succ_mul, ← Nat.add_assoc] at hN1
      rw [hq] at HL hN1
      have hge : ¬ (s : Int) ≤ (zs.length : Int) - (q : Int) := by omega
      clear hpl hq hN hN1
      gi_wp2
      refine wpIn_wide.2 ?_
      go_quiet ((first | (go_at_call 39; exact quiet_of_eq (HE.out _)) | (go_at_call 37; exact HL.out _)))
      gi_wp2
      first | go_end0 | (rw [Exit.noGoto_normal]; go_end0)
      exact ⟨⟨_, rfl⟩, hdr _ _ _ HD.out, hBd _ _ HB.out⟩

end
end Go.Proofs.Ytmilcmgohlfpiaa
