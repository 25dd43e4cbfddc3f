/-
  The contract of the document's Get of layer 1: the number at a place, and where it ends.
-/
import Derived.Test.YtmilcmgohlfpiaaRead
namespace Go.Proofs.Ytmilcmgohlfpiaa
open Go.RowKit
set_option maxRecDepth 100000

/-- what the document's Get answers: the number, where it ends, the error -/
def RGetR (s : Int) (r : Nat × Nat × Nat) (e : Ending) : Prop := e = .returned (.tuple #[.int .u64 r.1, .int .i64 (s + r.2.1), .int .i64 r.2.2])
theorem RGetR.of {s : Int} {r : Nat × Nat × Nat} {a b c : Int} (ha : a = r.1) (hb : b = s + r.2.1) (hc : c = r.2.2) : RGetR s r (.returned (.tuple #[.int .u64 a, .int .i64 b, .int .i64 c])) := by
  subst ha hb hc; rfl

/-- from t on k high bytes have come -/
def Run (zs : List Int) (t k : Nat) : Prop := ∃ p r, zs.drop t = p ++ r ∧ p.length = k ∧ ∀ c ∈ p, 128 ≤ c
theorem run_nil (zs : List Int) (t : Nat) : Run zs t 0 := ⟨[], zs.drop t, rfl, rfl, by simp⟩
theorem run_more {zs : List Int} {t k : Nat} {c : Int} (h : Run zs t k) (hc : zs[t + k]? = some c) (h1 : 128 ≤ c) : Run zs t (k + 1) := by
  obtain ⟨p, r, hs, hp, ha⟩ := h
  obtain ⟨r', rfl, hs'⟩ := split_at hs hp (c := c) (by rw [List.getElem?_drop]; exact hc)
  refine ⟨p ++ [c], r', hs', by simp [hp], ?_⟩
  intro d hd
  simp only [List.mem_append, List.mem_singleton] at hd
  rcases hd with hd | rfl
  · exact ha d hd
  · exact h1
theorem run_long {zs : List Int} {t : Nat} (h : Run zs t 10) : Vi.get (zs.drop t) = (0, 0, 3) := by
  obtain ⟨p, r, hs, hp, ha⟩ := h
  rw [hs]; exact Vi.get_long ha (by omega)
theorem run_end {zs : List Int} {t k : Nat} (h : Run zs t k) (hk : k ≤ 9) (hl : t + k = zs.length) : Vi.get (zs.drop t) = (0, 0, 4) := by
  obtain ⟨p, r, hs, hp, ha⟩ := h
  have : r = [] := by
    apply List.eq_nil_of_length_eq_zero
    have := congrArg List.length hs
    simp at this; omega
  subst this
  rw [hs, List.append_nil]
  exact Vi.get_end ha (by omega)

/-- the bytes q of a number: high ones, and a last one; they lie in zs from t on -/
def Whole (zs : List Int) (t k : Nat) (c : Int) (q : List Int) : Prop := ∃ p r, q = p ++ [c] ∧ p.length = k ∧ (∀ d ∈ p, 128 ≤ d) ∧ c < 128 ∧ zs.drop t = p ++ c :: r
theorem whole_of {zs : List Int} {t k : Nat} {c : Int} (h : Run zs t k) (hc : zs[t + k]? = some c) (h1 : c < 128) : ∃ q, Whole zs t k c q ∧ q.length = k + 1 := by
  obtain ⟨p, r, hs, hp, ha⟩ := h
  obtain ⟨r', rfl, hs'⟩ := split_at hs hp (c := c) (by rw [List.getElem?_drop]; exact hc)
  exact ⟨p ++ [c], ⟨p, r', rfl, hp, ha, h1, hs⟩, by simp [hp]⟩
theorem whole_at {zs q : List Int} {t k : Nat} {c : Int} (h : Whole zs t k c q) {j : Nat} (hj : j < k + 1) : zs[t + j]? = q[j]? := by
  obtain ⟨p, r, rfl, hp, ha, hc, hs⟩ := h
  rw [← List.getElem?_drop, hs, show p ++ c :: r = (p ++ [c]) ++ r by simp, List.getElem?_append_left (by simp; omega)]
theorem whole_bad {zs q : List Int} {t k : Nat} {c : Int} (h : Whole zs t k c q) (hk : k ≤ 9) (hb : 18446744073709551616 ≤ Vi.val q ∨ (0 < k ∧ c = 0)) : Vi.get (zs.drop t) = (0, 0, 3) := by
  obtain ⟨p, r, rfl, hp, ha, hc, hs⟩ := h
  rw [hs]; exact Vi.get_bad ha (by omega) hc (by rw [hp]; exact hb)
theorem whole_ok {zs q : List Int} {t k : Nat} {c : Int} (h : Whole zs t k c q) (hk : k ≤ 9) (hb : Vi.val q < 18446744073709551616) (h0 : k = 0 ∨ c ≠ 0) : Vi.get (zs.drop t) = (Vi.val q, k + 1, 0) := by
  obtain ⟨p, r, rfl, hp, ha, hc, hs⟩ := h
  rw [hs, Vi.get_ok ha (by omega) hc hb (by omega), hp]
theorem val_drop {q : List Int} {j : Nat} {d : Int} (hd : q[j]? = some d) : Vi.val (q.drop j) = d.toNat % 128 + 128 * Vi.val (q.drop (j + 1)) := by
  have hj : j < q.length := by
    rcases Nat.lt_or_ge j q.length with h | h
    · exact h
    · rw [List.getElem?_eq_none h] at hd; simp at hd
  rw [List.getElem?_eq_getElem hj] at hd
  rw [List.drop_eq_getElem_cons hj]
  injection hd with hd
  rw [hd]; rfl
theorem val_drop_le (q : List Int) (j : Nat) : 128 ^ j * Vi.val (q.drop j) ≤ Vi.val q := by
  rcases Nat.lt_or_ge q.length j with h | h
  · rw [List.drop_eq_nil_of_le (by omega)]; simp [Vi.val]
  · have e := Vi.val_append (q.take j) (q.drop j)
    rw [List.take_append_drop, List.length_take, Nat.min_eq_left h] at e
    omega
theorem val_over {q : List Int} {j : Nat} (hj : 1 ≤ j) (h : 144115188075855872 ≤ Vi.val (q.drop j)) : 18446744073709551616 ≤ Vi.val q := by
  have h1 := val_drop_le q j
  have h2 : 128 ^ 1 ≤ 128 ^ j := Nat.pow_le_pow_right (by decide) hj
  have h3 := Nat.mul_le_mul h2 h
  omega

set_option maxHeartbeats 800000 in
theorem rget_any (B : Nat) (a : Option Addr) (cap : Nat) (zs : List Int) (s : Int) (w : World) (hl : zs.length ≤ 9223372036854775000) (hs0 : 0 ≤ s) (hs1 : s ≤ zs.length) (hz : ∀ c ∈ zs, 0 ≤ c ∧ c ≤ 255) (h1 : Nums .u8 w B a zs) :
    Calls Try.prog 46 #[.slice a zs.length cap, .int .i64 s] w fun e w' => RGetR s (Vi.get (zs.drop s.toNat)) e ∧ w = w' := by
  have HZ := Lib.hid hz
  clear hz
  obtain ⟨t, rfl⟩ := Int.eq_ofNat_of_zero_le hs0
  rw [Int.toNat_natCast]
  go_enter Try.func46, Try.ntmps46
  go_wp2
  go_loop [7] (fun i => ∃ (k : Nat), t + k ≤ zs.length ∧ k ≤ 10 ∧ i = .int .i64 ((t : Int) + (k : Int)) ∧ Run zs t k) (fun i => zs.length - (intOf i).toNat)
  case atStart => exact ⟨0, by omega, by omega, by simp, run_nil zs t⟩
  case round =>
    obtain ⟨k, hk, hk10, rfl, hrun⟩ := hrel
    have hdiff : (t : Int) + (k : Int) - (t : Int) = k := by omega
    by_cases h10 : k = 10
    · have HB : Hid (Vi.get (zs.drop t) = (0, 0, 3)) := by subst h10; exact run_long hrun
      have hk1 : ((t : Int) + (k : Int) - (t : Int) == 10) = true := by simp; omega
      have hk2 : ¬ (t : Int) + (k : Int) - (t : Int) < 10 := by omega
      clear hrun h10 hdiff
      go_wp2
      all_goals go_ret3
      all_goals exact ⟨by rw [HB.out]; exact RGetR.of rfl (by simp) rfl, rfl⟩
    · have hk1 : ((t : Int) + (k : Int) - (t : Int) == 10) = false := by simp; omega
      have hk2 : (t : Int) + (k : Int) - (t : Int) < 10 := by omega
      by_cases hend : t + k = zs.length
      · have HB := Lib.hid (run_end hrun (by omega) hend)
        have hk3 : ¬ (t : Int) + (k : Int) < (zs.length : Int) := by omega
        clear hrun hdiff hend
        go_wp2
        all_goals go_ret3
        all_goals exact ⟨by rw [HB.out]; exact RGetR.of rfl (by simp) rfl, rfl⟩
      · have hk3 : (t : Int) + (k : Int) < (zs.length : Int) := by omega
        have hlt : t + k < zs.length := by omega
        obtain ⟨c, hc⟩ : ∃ c, zs[t + k]? = some c := ⟨_, List.getElem?_eq_getElem hlt⟩
        obtain ⟨b1, o1, rfl, hb1, hc1⟩ := h1.open hc
        have hcb := HZ.out c (List.mem_of_getElem? hc)
        by_cases h128 : 128 ≤ c
        · have HM := Lib.hid (run_more hrun hc h128)
          clear hrun h1 hc hdiff
          go_wp2
          go_round
          case rel => exact ⟨k + 1, by omega, by omega, by go_num, HM.out⟩
          case measure => simp [intOf]; omega
        · obtain ⟨q, hw, hql⟩ := whole_of hrun hc (by omega)
          have HH1 := Lib.hid h1
          have HW := Lib.hid hw
          have HQ := Lib.hid hql
          clear hrun h1 hc hw hql hdiff
          go_wp2
          go_loop [8, 9] (fun n i => ∃ (j : Nat) (z : Int), j ≤ k + 1 ∧ i = .int .i64 z ∧ z = (t : Int) + (j : Int) - 1 ∧ n = .int .u64 (Vi.val (q.drop j)) ∧ Vi.val (q.drop j) ≤ 18446744073709551615) (fun _ i => (intOf i + 1).toNat)
          case atStart => exact ⟨k + 1, _, by omega, rfl, by omega, by rw [List.drop_eq_nil_of_le (by have := HQ.out; omega)]; rfl, by rw [List.drop_eq_nil_of_le (by have := HQ.out; omega)]; simp [Vi.val]⟩
          case round =>
            obtain ⟨j, z, hj, rfl, hzj, rfl, hv⟩ := hrel
            cases j with
            | zero =>
              have hzt : z < (t : Int) := by omega
              have HZJ := Lib.hid hzj
              clear hzj
              have HV : Hid (Vi.val (q.drop 0) = Vi.val q) := rfl
              generalize hX : Vi.val (q.drop 0) = X at *
              have HX := Lib.hid hX
              clear hX
              by_cases hk0 : k = 0
              · have HO := Lib.hid (whole_ok HW.out (by omega) (by rw [← HV.out]; omega) (.inl hk0))
                have hk4 : ¬ (t : Int) < (t : Int) + (k : Int) := by omega
                clear hk0
                go_wp2
                go_ret3
                exact ⟨by rw [HO.out]; exact RGetR.of (by rw [HV.out]) (by simp; omega) rfl, rfl⟩
              · have hk4 : (t : Int) < (t : Int) + (k : Int) := by omega
                by_cases hc0 : c = 0
                · have HB := Lib.hid (whole_bad HW.out (by omega) (.inr ⟨by omega, hc0⟩))
                  have hc0' : (c == 0) = true := by simp; omega
                  have HC := Lib.hid hc0
                  clear hc0
                  go_wp2
                  go_ret3
                  exact ⟨by rw [HB.out]; exact RGetR.of rfl (by simp) rfl, rfl⟩
                · have HO := Lib.hid (whole_ok HW.out (by omega) (by rw [← HV.out]; omega) (.inr hc0))
                  have hc0' : (c == 0) = false := by simp; omega
                  go_wp2
                  go_ret3
                  exact ⟨by rw [HO.out]; exact RGetR.of (by rw [HV.out]) (by simp; omega) rfl, rfl⟩
            | succ j =>
              obtain rfl : z = ((t + j : Nat) : Int) := by omega
              obtain ⟨d, hd⟩ : ∃ d, q[j]? = some d := ⟨_, List.getElem?_eq_getElem (by have := HQ.out; omega)⟩
              have hd1 := hd
              rw [← whole_at HW.out (by omega)] at hd1
              obtain ⟨b2, o2, hb2, _, hc2⟩ := HH1.out.open hd1
              injection hb2 with hb2
              injection hb2 with hb2 ho2
              subst hb2 ho2
              have hdb := HZ.out d (List.mem_of_getElem? hd1)
              have HVD := Lib.hid (val_drop hd)
              have HOv : 144115188075855872 ≤ Vi.val (q.drop (j + 1)) → Hid (Vi.get (zs.drop t) = (0, 0, 3)) := fun h => whole_bad HW.out (by omega) (.inl (val_over (by omega) h))
              generalize hX : Vi.val (q.drop (j + 1)) = X at *
              have HX := Lib.hid hX
              have htl : ((t + j : Nat) : Int) < (zs.length : Int) := by omega
              clear hX hd hd1 hzj
              by_cases hov : 144115188075855872 ≤ X
              · have HB := HOv hov
                clear HOv
                have hov' : (144115188075855871 : Int) < (X : Int) := by omega
                go_wp2
                go_ret3
                exact ⟨by rw [HB.out]; exact RGetR.of rfl (by simp) rfl, rfl⟩
              · clear HOv
                have hov' : (X : Int) ≤ 144115188075855871 := by omega
                go_wp2
                go_round
                case rel => exact ⟨j, _, by omega, rfl, by omega, by rw [HVD.out]; go_num, by rw [HVD.out]; omega⟩
                case measure => simp [intOf]; omega

theorem rget_len (B : Nat) (a : Option Addr) (n cap : Nat) (zs : List Int) (s : Int) (w : World) (hn : zs.length = n) (hl : n ≤ 9223372036854775000) (hs0 : 0 ≤ s) (hs1 : s ≤ n) (hz : ∀ c ∈ zs, 0 ≤ c ∧ c ≤ 255) (h1 : Nums .u8 w B a zs) :
    Calls Try.prog 46 #[.slice a n cap, .int .i64 s] w fun e w' => RGetR s (Vi.get (zs.drop s.toNat)) e ∧ w = w' := by
  subst hn; exact rget_any B a cap zs s w hl hs0 hs1 hz h1

end Go.Proofs.Ytmilcmgohlfpiaa
