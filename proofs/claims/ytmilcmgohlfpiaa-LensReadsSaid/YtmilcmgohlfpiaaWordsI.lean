/-
  The words of a lens: the iterator that Words makes.
-/
import Derived.Test.YtmilcmgohlfpiaaWordsN
import Derived.Test.YtmilcmgohlfpiaaTurns
namespace Go.Proofs.Ytmilcmgohlfpiaa
open Go.RowKit Go.Shelf
set_option maxRecDepth 100000

section
variable (n l B1 B2 lo b : Nat) (zs : List Int) (p e : Nat) (s : Int) (W : World)
/-- no word is given -/
theorem words_none (h : LensAt W lo b zs p e) (hl : zs.length ≤ 1000000000) (h1 : W.cell? ⟨B1, 0, none⟩ = some (.pointer (some ⟨b, 0, none⟩))) (h2 : W.cell? ⟨B2, 0, none⟩ = some (.int .i64 s))
    (hc : e ≠ 0 ∨ (e = 0 ∧ (zs.length : Int) - p < s) ∨ (e = 0 ∧ s ≤ (zs.length : Int) - p ∧ s ≠ 1 ∧ s ≠ 2 ∧ s ≠ 4)) :
    CallsIn Fence.wide n Try.prog 58 #[.func (.yield l) #[] #[], .pointer (some ⟨B1, 0, none⟩), .pointer (some ⟨B2, 0, none⟩)] W fun r W' => (∃ v, r = .returned v) ∧ ∃ k, W' = W.drewN k := by
  refine callsIn_wide.2 ?_
  have HE : Hid (∀ k, Calls Try.prog 39 #[.pointer (some ⟨b, 0, none⟩)] (W.drewN k) fun r w' => r = .returned (.int .i64 e) ∧ W.drewN k = w') := fun k => lerr_any lo b zs p e _ (h.below (below_drewN (Below.refl _ _) k))
  have HL : Hid (∀ k, Calls Try.prog 37 #[.pointer (some ⟨b, 0, none⟩)] (W.drewN k) fun r w' => r = .returned (.int .i64 ((zs.length : Int) - p)) ∧ ∃ m, w' = W.drewN m) := fun k => (lleft_any lo b zs p e _ (h.below (below_drewN (Below.refl _ _) k)) hl).mono fun r w' ⟨h1, m, h2⟩ => ⟨h1, k + m, by rw [h2]; simp [World.drewN, Nat.add_assoc]⟩
  have hp := h.place
  clear h
  rcases hc with he | ⟨rfl, hlt⟩ | ⟨rfl, hge, s1, s2, s4⟩
  · have h3 : ¬ (e : Int) = 0 := by omega
    have h4 : ((e : Int) == 0) = false := by simp; omega
    go_enter Try.func58, Try.ntmps58
    go_wp2
    go_step3
    go_wp2
    go_step3
    go_wp2
    go_loopw [] (fun wr => wr = W) (fun _ => 0)
    case atStart => rfl
    case round =>
      subst hrel
      go_wp2
      go_quiet ((go_at_call 39; exact quiet_of_eq (HE.out _)))
      go_wp2
      first | go_end0 | (rw [Exit.noGoto_normal]; go_end0)
      exact ⟨⟨_, rfl⟩, _, rfl⟩
  · have hlt' : ¬ s ≤ (zs.length : Int) - (p : Int) := by omega
    go_enter Try.func58, Try.ntmps58
    go_wp2
    go_step3
    go_wp2
    go_step3
    go_wp2
    go_loopw [] (fun wr => wr = W) (fun _ => 0)
    case atStart => rfl
    case round =>
      subst hrel
      go_wp2
      go_quiet ((first | (go_at_call 39; exact quiet_of_eq (HE.out _)) | (go_at_call 37; exact HL.out _)))
      go_wp2
      first | go_end0 | (rw [Exit.noGoto_normal]; go_end0)
      exact ⟨⟨_, rfl⟩, _, rfl⟩
  · have t1 : (s == 1) = false := by simp; omega
    have t2 : (s == 2) = false := by simp; omega
    have t4 : (s == 4) = false := by simp; omega
    have HS := Lib.hid (And.intro s1 (And.intro s2 s4))
    clear s1 s2 s4
    go_enter Try.func58, Try.ntmps58
    go_wp2
    go_step3
    go_wp2
    go_step3
    go_wp2
    go_loopw [] (fun wr => wr = W) (fun _ => 0)
    case atStart => rfl
    case round =>
      subst hrel
      go_wp2
      go_quiet ((first | (go_at_call 39; exact quiet_of_eq (HE.out _)) | (go_at_call 37; exact HL.out _)))
      go_wp2
      first | go_end0 | (rw [Exit.noGoto_normal]; go_end0)
      exact ⟨⟨_, rfl⟩, _, rfl⟩
end
end Go.Proofs.Ytmilcmgohlfpiaa
