/-
  Contracts of the closures that a lens reads by: Number, Signed, Raw, Field.
-/
import Derived.Test.YtmilcmgohlfpiaaLens
import Derived.Test.YtmilcmgohlfpiaaRead
import Derived.Test.YtmilcmgohlfpiaaZag
namespace Go.Proofs.Ytmilcmgohlfpiaa
open Go.RowKit
set_option maxRecDepth 100000

/-- what a read's closure hands on: where nothing is wrong, the value and its bytes' number -/
def ClosI (k : IntKind) (x : Int × Nat × Nat) (r : Ending) : Prop :=
  ∃ (v s : Int), r = .returned (.tuple #[.int k v, .int .i64 s, .int .i64 x.2.2]) ∧ (x.2.2 = 0 → v = x.1 ∧ s = x.2.1)
theorem ClosI.bad {k : IntKind} {x : Int × Nat × Nat} {v s : Int} {e : Int} (h : x.2.2 ≠ 0) (he : e = x.2.2) : ClosI k x (.returned (.tuple #[.int k v, .int .i64 s, .int .i64 e])) := by
  subst he; exact ⟨v, s, rfl, fun h0 => absurd h0 h⟩
theorem ClosI.ok {k : IntKind} {x : Int × Nat × Nat} {v s : Int} {e : Int} (hv : v = x.1) (hs : s = x.2.1) (he : e = x.2.2) : ClosI k x (.returned (.tuple #[.int k v, .int .i64 s, .int .i64 e])) := by
  subst he; exact ⟨v, s, rfl, fun _ => ⟨hv, hs⟩⟩

section
variable (B : Nat) (a : Option Addr) (n cap c : Nat) (l : List Int) (w : World)
theorem numc_any (most : Int) (hn : l.length = n) (hl : n ≤ 1000000000) (hz : ∀ x ∈ l, 0 ≤ x ∧ x ≤ 255) (h1 : Nums .u8 w B a l) (hc : w.cell? ⟨c, 0, none⟩ = some (.int .u64 most)) :
    Calls Try.prog 44 #[.slice a n cap, .pointer (some ⟨c, 0, none⟩)] w fun r w' => ClosI .u64 (numR l most) r ∧ w = w' := by
  have HG := get_len B a n cap l w hn (by omega) hz h1
  have hle := Vi.get_le l
  clear h1 hz
  by_cases he : (Vi.get l).2.2 = 0
  · have h0 : (((Vi.get l).2.2 : Nat) : Int) = 0 := by omega
    by_cases hm : most < ((Vi.get l).1 : Int)
    · have HR : Hid (numR l most = (0, 0, 5)) := by show _ = _; unfold numR; rw [if_neg (by simp [he]), if_pos hm]
      have h4 : (((Vi.get l).2.2 : Nat) : Int) = 0 := h0
      generalize hr : Vi.get l = r at *
      obtain ⟨r1, r2, r3⟩ := r
      simp only at he hm h0 HG h4 hle
      subst he
      clear hr h0 h4 hle
      go_enter Try.func44, Try.ntmps44
      go_wp2_with (go_at_call 45; refine HG.mono ?_; rintro e w1 ⟨rfl, rfl⟩)
      go_ret3
      exact ⟨ClosI.bad (by rw [HR.out]; decide) (by rw [HR.out]; rfl), rfl⟩
    · have HR : Hid (numR l most = (((Vi.get l).1 : Int), (Vi.get l).2.1, 0)) := by show _ = _; unfold numR; rw [if_neg (by simp [he]), if_neg hm]
      generalize hr : Vi.get l = r at *
      obtain ⟨r1, r2, r3⟩ := r
      simp only at he hm h0 HG hle HR
      subst he
      clear hr h0 hle
      go_enter Try.func44, Try.ntmps44
      go_wp2_with (go_at_call 45; refine HG.mono ?_; rintro e w1 ⟨rfl, rfl⟩)
      go_ret3
      exact ⟨by rw [HR.out]; exact ClosI.ok rfl rfl rfl, rfl⟩
  · have HR : Hid (numR l most = (0, 0, (Vi.get l).2.2)) := by show _ = _; unfold numR; rw [if_pos he]
    have h3 : ¬ (((Vi.get l).2.2 : Nat) : Int) = 0 := by omega
    have h4 : ((((Vi.get l).2.2 : Nat) : Int) == 0) = false := by simp; omega
    have HE := Lib.hid he
    clear he hle
    go_enter Try.func44, Try.ntmps44
    go_wp2_with (go_at_call 45; refine HG.mono ?_; rintro e w1 ⟨rfl, rfl⟩)
    go_ret3
    exact ⟨ClosI.bad (by rw [HR.out]; exact HE.out) (by rw [HR.out]), rfl⟩

theorem sigc_any (c2 : Nat) (least most : Int) (hn : l.length = n) (hl : n ≤ 1000000000) (hz : ∀ x ∈ l, 0 ≤ x ∧ x ≤ 255) (h1 : Nums .u8 w B a l) (hc : w.cell? ⟨c, 0, none⟩ = some (.int .i64 least)) (hc2 : w.cell? ⟨c2, 0, none⟩ = some (.int .i64 most)) :
    Calls Try.prog 48 #[.slice a n cap, .pointer (some ⟨c, 0, none⟩), .pointer (some ⟨c2, 0, none⟩)] w fun r w' => ClosI .i64 (sigR l least most) r ∧ w = w' := by
  have HG := get_len B a n cap l w hn (by omega) hz h1
  have hle := Vi.get_le l
  have HZ := zag_any ((Vi.get l).1 : Int) w (by omega) (by omega)
  clear h1 hz
  by_cases he : (Vi.get l).2.2 = 0
  · by_cases hm1 : zagZ ((Vi.get l).1 : Int) < least
    · have HR : Hid (sigR l least most = (0, 0, 5)) := by show _ = _; unfold sigR; rw [if_neg (by simp [he]), if_pos (.inl hm1)]
      generalize hr : Vi.get l = r at *
      obtain ⟨r1, r2, r3⟩ := r
      simp only at he hm1 HG HZ hle
      subst he
      clear hr hle
      generalize zagZ (r1 : Int) = z at *
      go_enter Try.func48, Try.ntmps48
      go_wp2_with (first
        | (go_at_call 45; refine HG.mono ?_; rintro e w1 ⟨rfl, rfl⟩)
        | (go_at_call 49; refine HZ.mono ?_; rintro e w1 ⟨rfl, rfl⟩))
      go_ret3
      exact ⟨ClosI.bad (by rw [HR.out]; decide) (by rw [HR.out]; rfl), rfl⟩
    · by_cases hm2 : most < zagZ ((Vi.get l).1 : Int)
      · have HR : Hid (sigR l least most = (0, 0, 5)) := by show _ = _; unfold sigR; rw [if_neg (by simp [he]), if_pos (.inr hm2)]
        generalize hr : Vi.get l = r at *
        obtain ⟨r1, r2, r3⟩ := r
        simp only at he hm1 hm2 HG HZ hle
        subst he
        clear hr hle
        generalize zagZ (r1 : Int) = z at *
        go_enter Try.func48, Try.ntmps48
        go_wp2_with (first
          | (go_at_call 45; refine HG.mono ?_; rintro e w1 ⟨rfl, rfl⟩)
          | (go_at_call 49; refine HZ.mono ?_; rintro e w1 ⟨rfl, rfl⟩))
        go_ret3
        exact ⟨ClosI.bad (by rw [HR.out]; decide) (by rw [HR.out]; rfl), rfl⟩
      · have HR : Hid (sigR l least most = (zagZ ((Vi.get l).1 : Int), (Vi.get l).2.1, 0)) := by show _ = _; unfold sigR; rw [if_neg (by simp [he]), if_neg (by rintro (h | h) <;> omega)]
        generalize hr : Vi.get l = r at *
        obtain ⟨r1, r2, r3⟩ := r
        simp only at he hm1 hm2 HG HZ hle HR
        subst he
        clear hr hle
        generalize zagZ (r1 : Int) = z at *
        go_enter Try.func48, Try.ntmps48
        go_wp2_with (first
          | (go_at_call 45; refine HG.mono ?_; rintro e w1 ⟨rfl, rfl⟩)
          | (go_at_call 49; refine HZ.mono ?_; rintro e w1 ⟨rfl, rfl⟩))
        go_ret3
        exact ⟨by rw [HR.out]; exact ClosI.ok rfl rfl rfl, rfl⟩
  · have HR : Hid (sigR l least most = (0, 0, (Vi.get l).2.2)) := by show _ = _; unfold sigR; rw [if_pos he]
    have h3 : ¬ (((Vi.get l).2.2 : Nat) : Int) = 0 := by omega
    have h4 : ((((Vi.get l).2.2 : Nat) : Int) == 0) = false := by simp; omega
    have HE := Lib.hid he
    clear he hle
    go_enter Try.func48, Try.ntmps48
    go_wp2_with (first
      | (go_at_call 45; refine HG.mono ?_; rintro e w1 ⟨rfl, rfl⟩)
      | (go_at_call 49; refine HZ.mono ?_; rintro e w1 ⟨rfl, rfl⟩))
    go_ret3
    exact ⟨ClosI.bad (by rw [HR.out]; exact HE.out) (by rw [HR.out]), rfl⟩

/-- what a closure that makes bytes hands on -/
def ClosB (x : List Int × Nat × Nat) (w : World) (r : Ending) (w' : World) : Prop :=
  ∃ (v : Value) (s : Int), r = .returned (.tuple #[v, .int .i64 s, .int .i64 x.2.2]) ∧ MadeK 5 .u8 w w' x.1 v ∧ (x.2.2 = 0 → s = x.2.1)
theorem ClosB.mk {x : List Int × Nat × Nat} {w w' : World} {v : Value} {s e : Int} (hm : MadeK 5 .u8 w w' x.1 v) (he : e = x.2.2) (hs : x.2.2 = 0 → s = x.2.1) : ClosB x w (.returned (.tuple #[v, .int .i64 s, .int .i64 e])) w' := by
  subst he; exact ⟨v, s, rfl, hm, hs⟩
theorem rawc_any (m : Int) (hn : l.length = n) (hnc : n ≤ cap) (hl : n ≤ 1000000000) (h1 : Nums .u8 w w.heap.size a l) (hc : w.cell? ⟨c, 0, none⟩ = some (.int .i64 m)) :
    Calls Try.prog 52 #[.slice a n cap, .pointer (some ⟨c, 0, none⟩)] w fun r w' => ClosB (rawR l m) w r w' := by
  have HC0 := cloneK_any none 0 0 [] w rfl (by decide) Nums.nil
  by_cases hneg : m < 0
  · have HR : Hid (rawR l m = ([], 0, 5)) := by show _ = _; unfold rawR; rw [if_pos hneg]
    have HP := part_neg a n cap m w hneg
    clear h1
    go_enter Try.func52, Try.ntmps52
    go_wp2_with (first
      | (go_at_call 53; refine HP.mono ?_; rintro e w1 ⟨rfl, rfl⟩)
      | (go_at_call 40; refine HC0.mono ?_; rintro e w1 ⟨v, rfl, hm⟩; have HM := Lib.hid hm; clear hm))
    go_ret3
    exact ClosB.mk (by rw [HR.out]; exact HM.out) (by rw [HR.out]; rfl) (by rw [HR.out]; simp)
  · by_cases hmore : (n : Int) < m
    · have HR : Hid (rawR l m = ([], 0, 4)) := by show _ = _; unfold rawR; rw [if_neg hneg, if_pos (by rw [hn]; exact hmore)]
      have HP := part_more a n cap m w hmore
      clear h1
      go_enter Try.func52, Try.ntmps52
      go_wp2_with (first
        | (go_at_call 53; refine HP.mono ?_; rintro e w1 ⟨rfl, rfl⟩)
        | (go_at_call 40; refine HC0.mono ?_; rintro e w1 ⟨v, rfl, hm⟩; have HM := Lib.hid hm; clear hm))
      go_ret3
      exact ClosB.mk (by rw [HR.out]; exact HM.out) (by rw [HR.out]; rfl) (by rw [HR.out]; simp)
    · have HR : Hid (rawR l m = (l.take m.toNat, m.toNat, 0)) := by show _ = _; unfold rawR; rw [if_neg hneg, if_neg (by rw [hn]; exact hmore)]
      have HP := part_ok a n cap m w (by omega) (by omega) hnc
      have HC := cloneK_any a m.toNat m.toNat (l.take m.toNat) w (by rw [List.length_take]; omega) (by omega) (h1.take _)
      clear h1 HC0
      go_enter Try.func52, Try.ntmps52
      go_wp2_with (first
        | (go_at_call 53; refine HP.mono ?_; rintro e w1 ⟨rfl, rfl⟩)
        | (go_at_call 40; refine HC.mono ?_; rintro e w1 ⟨v, rfl, hm⟩; have HM := Lib.hid hm; clear hm))
      go_ret3
      exact ClosB.mk (by rw [HR.out]; exact HM.out) (by rw [HR.out]; rfl) (by rw [HR.out]; intro _; simp)

theorem fldc_any (m : Int) (hn : l.length = n) (hnc : n ≤ cap) (hl : n ≤ 1000000000) (hz : ∀ x ∈ l, 0 ≤ x ∧ x ≤ 255) (hm0 : -9223372036854775808 ≤ m) (hm1 : m ≤ 9223372036854775807) (h1 : Nums .u8 w w.heap.size a l) (hc : w.cell? ⟨c, 0, none⟩ = some (.int .i64 m)) :
    Calls Try.prog 54 #[.slice a n cap, .pointer (some ⟨c, 0, none⟩)] w fun r w' => ClosB (fldR l m) w r w' := by
  have HG := get_len _ a n cap l w hn (by omega) hz h1
  have hle := Vi.get_le l
  have HC0 := cloneK_any none 0 0 [] w rfl (by decide) Nums.nil
  by_cases he : (Vi.get l).2.2 = 0
  · obtain ⟨M, hq⟩ : ∃ M : Int, (if m < 0 then (0 : Int) else m) = M := ⟨_, rfl⟩
    have hM : max m 0 = M := by rw [← hq]; split <;> omega
    have hM0 : 0 ≤ M := by omega
    have hM1 : M ≤ 9223372036854775807 := by omega
    by_cases hmany : M < ((Vi.get l).1 : Int)
    · have HR : Hid (fldR l m = ([], 0, 6)) := by show _ = _; unfold fldR; rw [if_neg (by simp [he]), if_pos (by rw [hM]; exact hmany)]
      generalize hr : Vi.get l = r at *
      obtain ⟨r1, r2, r3⟩ := r
      simp only at he hmany HG hle
      subst he
      clear hr h1 hz HC0
      clear hM
      go_enter Try.func54, Try.ntmps54
      go_wp2_with (go_at_call 45; refine HG.mono ?_; rintro e w1 ⟨rfl, rfl⟩)
      go_ret3
      exact ClosB.mk (by rw [HR.out]; exact MadeK.nil _ _ (Below.refl _ _)) (by rw [HR.out]; rfl) (by rw [HR.out]; simp)
    · have hd := h1.drop (i := (Vi.get l).2.1) (cap := cap) (by omega)
      obtain ⟨A', hA'⟩ : ∃ A', (if cap = (Vi.get l).2.1 then a else Option.map (fun x => x.add (Vi.get l).2.1) a) = A' := ⟨_, rfl⟩
      rw [hA'] at hd
      have hdl : (l.drop (Vi.get l).2.1).length = n - (Vi.get l).2.1 := by rw [List.length_drop, hn]
      by_cases hmore : n - (Vi.get l).2.1 < (Vi.get l).1
      · have HR : Hid (fldR l m = ([], 0, 4)) := by show _ = _; unfold fldR; rw [if_neg (by simp [he]), if_neg (by rw [hM]; exact hmany), if_pos (by rw [hn]; exact hmore)]
        have HP := part_more A' (n - (Vi.get l).2.1) (cap - (Vi.get l).2.1) ((Vi.get l).1 : Int) w (by omega)
        generalize hr : Vi.get l = r at *
        obtain ⟨r1, r2, r3⟩ := r
        simp only at he hmany HG hle hd hA' hdl hmore HP
        subst he
        have h2n : r2 ≤ n := by omega
        clear hr h1 hz hd hdl
        clear hM
        go_enter Try.func54, Try.ntmps54
        go_wp2_with (first
          | (go_at_call 45; refine HG.mono ?_; rintro e w1 ⟨rfl, rfl⟩)
          | (go_at_call 53; refine HP.mono ?_; rintro e w1 ⟨rfl, rfl⟩)
          | (go_at_call 40; refine HC0.mono ?_; rintro e w1 ⟨v, rfl, hm⟩; have HM := Lib.hid hm; clear hm))
        go_ret3
        exact ClosB.mk (by rw [HR.out]; exact HM.out) (by rw [HR.out]; rfl) (by rw [HR.out]; simp)
      · have HR : Hid (fldR l m = ((l.drop (Vi.get l).2.1).take (Vi.get l).1, (Vi.get l).2.1 + (Vi.get l).1, 0)) := by
          show _ = _; unfold fldR; rw [if_neg (by simp [he]), if_neg (by rw [hM]; exact hmany), if_neg (by rw [hn]; exact hmore)]
        have HP := part_ok A' (n - (Vi.get l).2.1) (cap - (Vi.get l).2.1) ((Vi.get l).1 : Int) w (by omega) (by omega) (by omega)
        rw [Int.toNat_natCast] at HP
        have HC := cloneK_any A' (Vi.get l).1 (Vi.get l).1 ((l.drop (Vi.get l).2.1).take (Vi.get l).1) w (by rw [List.length_take]; omega) (by omega) (hd.take _)
        generalize hr : Vi.get l = r at *
        obtain ⟨r1, r2, r3⟩ := r
        simp only at he hmany HG hle hd hA' hdl hmore HP HC HR
        subst he
        have h2n : r2 ≤ n := by omega
        have h3n : r1 ≤ n := by omega
        clear hr h1 hz hd hdl HC0
        clear hM
        go_enter Try.func54, Try.ntmps54
        go_wp2_with (first
          | (go_at_call 45; refine HG.mono ?_; rintro e w1 ⟨rfl, rfl⟩)
          | (go_at_call 53; refine HP.mono ?_; rintro e w1 ⟨rfl, rfl⟩)
          | (go_at_call 40; refine HC.mono ?_; rintro e w1 ⟨v, rfl, hm⟩; have HM := Lib.hid hm; clear hm))
        go_ret3
        exact ClosB.mk (by rw [HR.out]; exact HM.out) (by rw [HR.out]; rfl) (by rw [HR.out]; intro _; simp)
  · have HR : Hid (fldR l m = ([], 0, (Vi.get l).2.2)) := by show _ = _; unfold fldR; rw [if_pos he]
    have h3 : ¬ (((Vi.get l).2.2 : Nat) : Int) = 0 := by omega
    have h4 : ((((Vi.get l).2.2 : Nat) : Int) != 0) = true := by simp; omega
    have HE := Lib.hid he
    clear he hle h1 HC0
    go_enter Try.func54, Try.ntmps54
    go_wp2_with (go_at_call 45; refine HG.mono ?_; rintro e w1 ⟨rfl, rfl⟩)
    go_ret3
    exact ClosB.mk (by rw [HR.out]; exact MadeK.nil _ _ (Below.refl _ _)) (by rw [HR.out]) (fun h => by rw [HR.out] at h ⊢; exact absurd h HE.out)
end
end Go.Proofs.Ytmilcmgohlfpiaa
