/-
  The chapter's example.
-/
import Derived.Test.YtklkfajbfpihfaaWinL
namespace Go.Proofs.Ytklkfajbfpihfaa
open Go.RowKit
set_option maxRecDepth 100000

theorem below_off {b B : Nat} {w w' : World} (h : Off (fun k => k = b) w w') (hb : B ≤ b) (hB : B ≤ w.heap.size) : Below B w w' := h.below (fun k hk => by omega) hB
set_option maxHeartbeats 2000000 in
theorem wiknown_any (w : World) : Calls Try.prog 15 #[] w fun e w' => e = .returned (.bool true) ∧ Below w.heap.size w w' := by
  obtain ⟨r, hr⟩ : ∃ r, w.heap.size = r := ⟨_, rfl⟩
  go_enter Try.func15, Try.ntmps15
  go_wp2_with fail
  refine (wnew_any 5 (by omega) w).mono ?_
  rintro e w1 ⟨rfl, hA1, hb1, hs1⟩
  rw [show Sr.add 5 (-1) = 4 by decide] at hA1
  rw [hr] at hA1 hb1 hs1 ⊢
  have HR := Lib.hid hr
  clear hr
  go_wp2_with fail
  refine (wLook_any hA1 4 (by omega) (by omega) (by omega)).mono ?_
  rintro e w2 ⟨rfl, hb2⟩
  rw [show Wn.look 4 18446744073709551615 4 = 14 by decide]
  have hA2 := hA1.below hb2
  have hB2 := hb1.trans (hb2.mono (by omega))
  have hs2 := hb2.size
  clear hA1 hb1 hb2
  go_wp2_with fail
  refine (wMark_any hA2 7 (by omega) (by omega) (by omega)).mono ?_
  rintro e w3 ⟨rfl, hA3, hf3⟩
  rw [show Wn.look 4 18446744073709551615 7 = 0 by decide] at hA3 ⊢
  rw [if_pos rfl, if_pos rfl, show Wn.nt 4 7 = 7 by decide, show Wn.nq 4 18446744073709551615 7 = 18446744073709551609 by decide] at hA3
  have hB3 := hB2.trans (below_off hf3 (Nat.le_refl _) (by omega))
  have hs3 := hf3.size
  clear hA2 hB2 hf3
  go_wp2_with fail
  refine (wLook_any hA3 5 (by omega) (by omega) (by omega)).mono ?_
  rintro e w4 ⟨rfl, hb4⟩
  rw [show Wn.look 7 18446744073709551609 5 = 0 by decide]
  have hA4 := hA3.below hb4
  have hB4 := hB3.trans (hb4.mono (by omega))
  have hs4 := hb4.size
  clear hA3 hB3 hb4
  go_wp2_with fail
  refine (wLook_any hA4 7 (by omega) (by omega) (by omega)).mono ?_
  rintro e w5 ⟨rfl, hb5⟩
  rw [show Wn.look 7 18446744073709551609 7 = 14 by decide]
  have hA5 := hA4.below hb5
  have hB5 := hB4.trans (hb5.mono (by omega))
  have hs5 := hb5.size
  clear hA4 hB4 hb5
  go_wp2_with fail
  refine (wMark_any hA5 100 (by omega) (by omega) (by omega)).mono ?_
  rintro e w6 ⟨rfl, hA6, hf6⟩
  rw [show Wn.look 7 18446744073709551609 100 = 0 by decide] at hA6 ⊢
  rw [if_pos rfl, if_pos rfl, show Wn.nt 7 100 = 100 by decide, show Wn.nq 7 18446744073709551609 100 = 1 by decide] at hA6
  have hB6 := hB5.trans (below_off hf6 (Nat.le_refl _) (by omega))
  have hs6 := hf6.size
  clear hA5 hB5 hf6
  go_wp2_with fail
  refine (wLook_any hA6 5 (by omega) (by omega) (by omega)).mono ?_
  rintro e w7 ⟨rfl, hb7⟩
  rw [show Wn.look 100 1 5 = 15 by decide]
  have hA7 := hA6.below hb7
  have hB7 := hB6.trans (hb7.mono (by omega))
  have hs7 := hb7.size
  clear hA6 hB6 hb7
  go_wp2_with fail
  refine (wtop_any hA7).mono ?_
  rintro e w8 ⟨rfl, rfl⟩
  go_wp2
  go_ret
  exact ⟨rfl, by rw [HR.out]; exact hB7⟩
end Go.Proofs.Ytklkfajbfpihfaa
