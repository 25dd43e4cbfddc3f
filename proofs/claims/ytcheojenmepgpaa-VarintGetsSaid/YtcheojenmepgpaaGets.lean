/-
  The walk of the law VarintGets: it returns true.
-/
import Derived.Test.YtcheojenmepgpaaKnown
import Derived.Test.YtcheojenmepgpaaReadRef
import Derived.OpenShut
import Derived.Deep.RegionHeld3
namespace Go.Proofs.Ytcheojenmepgpaa
open Go.RowKit
set_option maxRecDepth 100000

set_option maxHeartbeats 800000 in
theorem gets_lt (a0 : Option Addr) (cap0 : Nat) (es : List Int) (w : World) (hlc : es.length ≤ cap0) (hcm' : cap0 ≤ 9223372036854775807) (hz : ∀ c ∈ es.take 20, 0 ≤ c ∧ c ≤ 255) (hn : Nums .u8 w w.heap.size a0 (es.take 20)) (h20 : es.length < 20) :
    Calls Try.prog 4 #[.slice a0 es.length cap0] w fun e w' => e = .returned (.bool true) ∧ Below w.heap.size w w' := by
  have hl : (es.take 20).length = min 20 es.length := List.length_take
  go_enter Try.func4, Try.ntmps4
  go_wp2_with fail
  refine (get_len _ _ _ _ (es.take 20) _ (by omega) (by omega) hz hn).mono ?_
  rintro e w1 ⟨rfl, rfl⟩
  go_wp2_with fail
  refine (rget_len _ _ _ _ (es.take 20) _ _ (by omega) (by omega) (by omega) (by omega) hz hn).mono ?_
  rintro e w1 ⟨rfl, rfl⟩
  rw [show (0 : Int).toNat = 0 from rfl, List.drop_zero]
  by_cases hok : (Vi.get (es.take 20)).2.2 = 0
  · have hp := Vi.get_put hz hok
    generalize es.take 20 = zs at *
    generalize Vi.get zs = r at *
    obtain ⟨r1, r2, r3⟩ := r
    simp only at hok hp
    subst hok
    have HE : Hid (Vi.enc (r1 : Int).toNat = zs.take r2) := by rw [Int.toNat_natCast]; exact hp.2.2.2.1
    have HL := Lib.hid (show (zs.take r2).length = r2 by rw [← hp.2.2.2.1]; exact hp.2.2.2.2)
    have hr1 : (r1 : Int) ≤ 18446744073709551615 := by have := hp.1; omega
    have hr2 : (r2 : Int) ≤ (cap0 : Int) := by have := hp.2.2.1; omega
    have hr3 : r2 ≤ 9223372036854775807 := by omega
    have hr20 : (0 : Int) ≤ (r2 : Int) := by omega
    clear hp hz
    go_wp2
    go_region_held3 (fun _ => True) (first | trivial)
      ((first
        | (go_at_call 16; refine (known_any _).mono ?_; rintro e w2 ⟨rfl, hb⟩; have hb1 := (Below.refl w.heap.size w).drew.trans hb)
        | (go_at_call 7; refine (put_one _ (r1 : Int) _ (by omega) hr1 (by simp) (by simp)).mono ?_; rintro e w3 ⟨A, c, rfl, hc, hn3, hb3⟩; have hb2 := (hb1.alloc hb1.size _).trans (hb3.mono (by have := hb1.size; simp; omega)))
        | (go_at_call 8; refine (same_len w3.heap.size _ _ _ _ _ _ (Vi.enc (r1 : Int).toNat) (zs.take r2) _ HE.out rfl HL.out (by rw [HE.out, HL.out]; exact hr3) hn3 (((hn.take r2).below hb2).mono hb2.size)).mono ?_; rintro e w4 ⟨rfl, q, rfl⟩)))
    go_wp2
    go_ret
    exact ⟨rfl, below_drewN hb2 q⟩
  · have hp := Vi.get_err hok
    generalize Vi.get (es.take 20) = r at *
    obtain ⟨r1, r2, r3⟩ := r
    simp only at hok hp
    obtain ⟨rfl, rfl⟩ := hp
    have h3 : ¬ (r3 : Int) = 0 := by omega
    have h4 : ((r3 : Int) == 0) = false := by simp; omega
    have h5 : ((r3 : Int) != 0) = true := by simp; omega
    go_wp2
    refine wp_region_below (by kernel_rfl) (by kernel_rfl) (Below.refl w.heap.size w) ?_
    repeat (go_big_quiet_step ((intro hC; first | rfl | (go_at_call 16; exact calls_below hC hC.size (known_any _)))))
    refine wpQuiet_nil ?_
    intro w2 hb1
    go_wp2
    go_ret
    exact ⟨rfl, hb1⟩

set_option maxHeartbeats 800000 in
theorem gets_eq (a0 : Option Addr) (cap0 : Nat) (es : List Int) (w : World) (hlc : es.length ≤ cap0) (hcm' : cap0 ≤ 9223372036854775807) (hz : ∀ c ∈ es.take 20, 0 ≤ c ∧ c ≤ 255) (hn : Nums .u8 w w.heap.size a0 (es.take 20)) (h20 : es.length ≤ 20) (h21 : 20 ≤ es.length) :
    Calls Try.prog 4 #[.slice a0 es.length cap0] w fun e w' => e = .returned (.bool true) ∧ Below w.heap.size w w' := by
  have hl : (es.take 20).length = min 20 es.length := List.length_take
  go_enter Try.func4, Try.ntmps4
  go_wp2_with fail
  refine (get_len _ _ _ _ (es.take 20) _ (by omega) (by omega) hz hn).mono ?_
  rintro e w1 ⟨rfl, rfl⟩
  go_wp2_with fail
  refine (rget_len _ _ _ _ (es.take 20) _ _ (by omega) (by omega) (by omega) (by omega) hz hn).mono ?_
  rintro e w1 ⟨rfl, rfl⟩
  rw [show (0 : Int).toNat = 0 from rfl, List.drop_zero]
  by_cases hok : (Vi.get (es.take 20)).2.2 = 0
  · have hp := Vi.get_put hz hok
    generalize es.take 20 = zs at *
    generalize Vi.get zs = r at *
    obtain ⟨r1, r2, r3⟩ := r
    simp only at hok hp
    subst hok
    have HE : Hid (Vi.enc (r1 : Int).toNat = zs.take r2) := by rw [Int.toNat_natCast]; exact hp.2.2.2.1
    have HL := Lib.hid (show (zs.take r2).length = r2 by rw [← hp.2.2.2.1]; exact hp.2.2.2.2)
    have hr1 : (r1 : Int) ≤ 18446744073709551615 := by have := hp.1; omega
    have hr2 : (r2 : Int) ≤ (cap0 : Int) := by have := hp.2.2.1; omega
    have hr3 : r2 ≤ 9223372036854775807 := by omega
    have hr20 : (0 : Int) ≤ (r2 : Int) := by omega
    clear hp hz
    go_wp2
    go_region_held3 (fun _ => True) (first | trivial)
      ((first
        | (go_at_call 16; refine (known_any _).mono ?_; rintro e w2 ⟨rfl, hb⟩; have hb1 := (Below.refl w.heap.size w).drew.trans hb)
        | (go_at_call 7; refine (put_one _ (r1 : Int) _ (by omega) hr1 (by simp) (by simp)).mono ?_; rintro e w3 ⟨A, c, rfl, hc, hn3, hb3⟩; have hb2 := (hb1.alloc hb1.size _).trans (hb3.mono (by have := hb1.size; simp; omega)))
        | (go_at_call 8; refine (same_len w3.heap.size _ _ _ _ _ _ (Vi.enc (r1 : Int).toNat) (zs.take r2) _ HE.out rfl HL.out (by rw [HE.out, HL.out]; exact hr3) hn3 (((hn.take r2).below hb2).mono hb2.size)).mono ?_; rintro e w4 ⟨rfl, q, rfl⟩)))
    go_wp2
    go_ret
    exact ⟨rfl, below_drewN hb2 q⟩
  · have hp := Vi.get_err hok
    generalize Vi.get (es.take 20) = r at *
    obtain ⟨r1, r2, r3⟩ := r
    simp only at hok hp
    obtain ⟨rfl, rfl⟩ := hp
    have h3 : ¬ (r3 : Int) = 0 := by omega
    have h4 : ((r3 : Int) == 0) = false := by simp; omega
    have h5 : ((r3 : Int) != 0) = true := by simp; omega
    go_wp2
    refine wp_region_below (by kernel_rfl) (by kernel_rfl) (Below.refl w.heap.size w) ?_
    repeat (go_big_quiet_step ((intro hC; first | rfl | (go_at_call 16; exact calls_below hC hC.size (known_any _)))))
    refine wpQuiet_nil ?_
    intro w2 hb1
    go_wp2
    go_ret
    exact ⟨rfl, hb1⟩

set_option maxHeartbeats 800000 in
theorem gets_gt (a0 : Option Addr) (cap0 : Nat) (es : List Int) (w : World) (hlc : es.length ≤ cap0) (hcm' : cap0 ≤ 9223372036854775807) (hz : ∀ c ∈ es.take 20, 0 ≤ c ∧ c ≤ 255) (hn : Nums .u8 w w.heap.size a0 (es.take 20)) (h20 : 20 < es.length) :
    Calls Try.prog 4 #[.slice a0 es.length cap0] w fun e w' => e = .returned (.bool true) ∧ Below w.heap.size w w' := by
  have hl : (es.take 20).length = min 20 es.length := List.length_take
  go_enter Try.func4, Try.ntmps4
  go_wp2_with fail
  refine (get_len _ _ _ _ (es.take 20) _ (by omega) (by omega) hz hn).mono ?_
  rintro e w1 ⟨rfl, rfl⟩
  go_wp2_with fail
  refine (rget_len _ _ _ _ (es.take 20) _ _ (by omega) (by omega) (by omega) (by omega) hz hn).mono ?_
  rintro e w1 ⟨rfl, rfl⟩
  rw [show (0 : Int).toNat = 0 from rfl, List.drop_zero]
  by_cases hok : (Vi.get (es.take 20)).2.2 = 0
  · have hp := Vi.get_put hz hok
    generalize es.take 20 = zs at *
    generalize Vi.get zs = r at *
    obtain ⟨r1, r2, r3⟩ := r
    simp only at hok hp
    subst hok
    have HE : Hid (Vi.enc (r1 : Int).toNat = zs.take r2) := by rw [Int.toNat_natCast]; exact hp.2.2.2.1
    have HL := Lib.hid (show (zs.take r2).length = r2 by rw [← hp.2.2.2.1]; exact hp.2.2.2.2)
    have hr1 : (r1 : Int) ≤ 18446744073709551615 := by have := hp.1; omega
    have hr2 : (r2 : Int) ≤ (cap0 : Int) := by have := hp.2.2.1; omega
    have hr3 : r2 ≤ 9223372036854775807 := by omega
    have hr20 : (0 : Int) ≤ (r2 : Int) := by omega
    clear hp hz
    go_wp2
    go_region_held3 (fun _ => True) (first | trivial)
      ((first
        | (go_at_call 16; refine (known_any _).mono ?_; rintro e w2 ⟨rfl, hb⟩; have hb1 := (Below.refl w.heap.size w).drew.trans hb)
        | (go_at_call 7; refine (put_one _ (r1 : Int) _ (by omega) hr1 (by simp) (by simp)).mono ?_; rintro e w3 ⟨A, c, rfl, hc, hn3, hb3⟩; have hb2 := (hb1.alloc hb1.size _).trans (hb3.mono (by have := hb1.size; simp; omega)))
        | (go_at_call 8; refine (same_len w3.heap.size _ _ _ _ _ _ (Vi.enc (r1 : Int).toNat) (zs.take r2) _ HE.out rfl HL.out (by rw [HE.out, HL.out]; exact hr3) hn3 (((hn.take r2).below hb2).mono hb2.size)).mono ?_; rintro e w4 ⟨rfl, q, rfl⟩)))
    go_wp2
    go_ret
    exact ⟨rfl, below_drewN hb2 q⟩
  · have hp := Vi.get_err hok
    generalize Vi.get (es.take 20) = r at *
    obtain ⟨r1, r2, r3⟩ := r
    simp only at hok hp
    obtain ⟨rfl, rfl⟩ := hp
    have h3 : ¬ (r3 : Int) = 0 := by omega
    have h4 : ((r3 : Int) == 0) = false := by simp; omega
    have h5 : ((r3 : Int) != 0) = true := by simp; omega
    go_wp2
    refine wp_region_below (by kernel_rfl) (by kernel_rfl) (Below.refl w.heap.size w) ?_
    repeat (go_big_quiet_step ((intro hC; first | rfl | (go_at_call 16; exact calls_below hC hC.size (known_any _)))))
    refine wpQuiet_nil ?_
    intro w2 hb1
    go_wp2
    go_ret
    exact ⟨rfl, hb1⟩

theorem walk_gets (a0 : Option Addr) (len0 cap0 : Nat) (z0 : List Int) (w : World) (w0 : IsRow .u8 w a0 len0 cap0 z0) :
    Calls Try.prog 4 #[.slice a0 len0 cap0] w fun e w' => e = .returned (.bool true) ∧ Below w.heap.size w w' := by
  obtain ⟨es, rfl, hlc, hcm, hn, hw⟩ := w0.elems
  have hcm' : cap0 ≤ 9223372036854775807 := hcm
  have hz : ∀ c ∈ es.take 20, 0 ≤ c ∧ c ≤ 255 := fun c hc => bounds_u8 (hw c (List.mem_of_mem_take hc))
  rcases Nat.lt_trichotomy es.length 20 with h | h | h
  · exact gets_lt a0 cap0 es w hlc hcm' hz (hn.take 20) h
  · exact gets_eq a0 cap0 es w hlc hcm' hz (hn.take 20) (by omega) (by omega)
  · exact gets_gt a0 cap0 es w hlc hcm' hz (hn.take 20) h

end Go.Proofs.Ytcheojenmepgpaa
