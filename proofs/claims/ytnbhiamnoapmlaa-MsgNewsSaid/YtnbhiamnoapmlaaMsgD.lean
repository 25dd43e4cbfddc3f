/-
  Contracts of layer 17's start and place.
-/
import Derived.Test.YtnbhiamnoapmlaaMsgC
namespace Go.Proofs.Ytnbhiamnoapmlaa
open Go.RowKit Go.Shelf
set_option maxRecDepth 100000
attribute [local go_sem] Oper.semAt_some

theorem start_any (f : Fd) (w : World) : Calls Try.prog 36 #[f.v] w fun e w' => e = .returned (.int .i64 (startV f)) ∧ Below w.heap.size w w' := by
  unfold Fd.v Fd.cs
  obtain ⟨R, hR⟩ : ∃ R, startV f = R := ⟨_, rfl⟩
  rw [hR]
  have HB := Lib.hid ((Below.refl _ w).alloc (Nat.le_refl _) (.cells #[.string f.nm, .int .i64 f.so, .int .i64 f.pl, .int .i64 f.le, .int .i64 f.mo, .int .i64 f.si, .int .i64 f.ab] 65))
  unfold startV at hR
  by_cases h1 : 1 < f.si
  · rw [if_pos h1] at hR
    subst hR
    go_enter Try.func36, Try.ntmps36
    go_wp2
    go_ret
    exact ⟨rfl, HB.out⟩
  · rw [if_neg h1] at hR
    subst hR
    go_enter Try.func36, Try.ntmps36
    go_wp2
    go_ret
    exact ⟨rfl, HB.out⟩

/-- what place answers -/
def plB (o : Option Fd) : Bool := o.isSome && decide (0 ≤ (o.getD Fd.zero).pl)
set_option maxHeartbeats 2000000 in
theorem mplace_any (k : Int) (nm : ByteArray) (w : World) : Calls Try.prog 38 #[.int .i64 k, .string nm] w fun e w' => e = .returned (.tuple #[.int .i64 ((fnd (FD k) nm).getD Fd.zero).pl, .bool (plB (fnd (FD k) nm))]) ∧ Below w.heap.size w w' := by
  have KF := Lib.hid (ffind_any k nm)
  obtain ⟨o, ho⟩ : ∃ o, fnd (FD k) nm = o := ⟨_, rfl⟩
  rw [ho] at KF ⊢
  clear ho
  unfold finR at KF
  obtain ⟨D, hD⟩ : ∃ D, plB o = D := ⟨_, rfl⟩
  rw [hD]
  unfold plB at hD
  obtain ⟨s, hs⟩ : ∃ s, o.isSome = s := ⟨_, rfl⟩
  obtain ⟨f, hf⟩ : ∃ f, o.getD Fd.zero = f := ⟨_, rfl⟩
  rw [hs, hf] at hD
  rw [hs, hf] at KF
  rw [hf]
  unfold Fd.v Fd.cs at KF
  clear hs hf
  have HD := Lib.hid hD
  clear hD
  go_enter Try.func38, Try.ntmps38
  go_wp2_with fail
  refine (KF.out w).mono ?_
  rintro e w1 ⟨rfl, hb⟩
  have HB := Lib.hid (hb.trans (((Below.refl w1.heap.size w1).alloc (Nat.le_refl _) (.cells #[.string f.nm, .int .i64 f.so, .int .i64 f.pl, .int .i64 f.le, .int .i64 f.mo, .int .i64 f.si, .int .i64 f.ab] 65)).mono hb.size))
  clear KF hb
  cases s
  · obtain rfl : false = D := HD.out
    go_wp2_with fail
    go_quiet (fail)
    go_wp2
    go_ret2
    exact ⟨rfl, below_drewN HB.out _⟩
  · by_cases hp : 0 ≤ f.pl
    · obtain rfl : true = D := by rw [← HD.out, decide_eq_true hp]; rfl
      go_wp2_with fail
      go_quiet (fail)
      go_wp2
      go_ret2
      exact ⟨rfl, below_drewN HB.out _⟩
    · obtain rfl : false = D := by rw [← HD.out, decide_eq_false hp]; rfl
      go_wp2_with fail
      go_quiet (fail)
      go_wp2
      go_ret2
      exact ⟨by show Ending.returned (.tuple #[.int .i64 f.pl, .bool (decide (0 ≤ f.pl))]) = _; rw [decide_eq_false (by omega)], below_drewN HB.out _⟩
end Go.Proofs.Ytnbhiamnoapmlaa
