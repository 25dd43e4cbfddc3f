/-
  Contract of the law's Alike: a lens and the document's are the same.
-/
import Derived.Test.YtmilcmgohlfpiaaRef3
import Derived.Test.YtmilcmgohlfpiaaWordsN
import Derived.Deep.QuietTactic
namespace Go.Proofs.Ytmilcmgohlfpiaa
open Go.RowKit
set_option maxRecDepth 100000
set_option maxHeartbeats 1000000 in
theorem alike_go (lo b : Nat) (zs : List Int) (p e n : Nat) (A : Option Addr) (c : Nat) (en : Nat) (w : World) (h : LensAt w lo b zs p e) (hn : zs.length = n) (hl : n ≤ 1000000000) (hen : endOf zs p e = en) (hc : (e ≠ 0 ∧ en = e) ∨ (e = 0 ∧ p < n ∧ en = 3) ∨ (e = 0 ∧ p = n ∧ en = 0)) :
    Calls Try.prog 23 #[.pointer (some ⟨b, 0, none⟩), RefL A n c p e] w fun r w' => r = .returned (.bool true) ∧ Below w.heap.size w w' := by
  have hb : Below w.heap.size w (w.alloc (RefC A n c p e)) := (Below.refl _ w).alloc (Nat.le_refl _) _
  have hL : ∀ k, LensAt ((w.alloc (RefC A n c p e)).drewN k) lo b zs p e := fun k => h.below (below_drewN hb k)
  have HE : Hid (∀ k, Calls Try.prog 39 #[.pointer (some ⟨b, 0, none⟩)] ((w.alloc (RefC A n c p e)).drewN k) fun r w' => r = .returned (.int .i64 e) ∧ (w.alloc (RefC A n c p e)).drewN k = w') := fun k => lerr_any lo b zs p e _ (hL k)
  have HP : Hid (∀ k, Calls Try.prog 38 #[.pointer (some ⟨b, 0, none⟩)] ((w.alloc (RefC A n c p e)).drewN k) fun r w' => r = .returned (.int .i64 p) ∧ (w.alloc (RefC A n c p e)).drewN k = w') := fun k => lplace_any lo b zs p e _ (hL k)
  have HL : Hid (∀ k, Calls Try.prog 37 #[.pointer (some ⟨b, 0, none⟩)] ((w.alloc (RefC A n c p e)).drewN k) fun r w' => r = .returned (.int .i64 ((n : Int) - p)) ∧ ∃ m, w' = (w.alloc (RefC A n c p e)).drewN m) := fun k => (lleft_any lo b zs p e _ (hL k) (by omega)).mono fun r w' ⟨h1, m, h2⟩ => ⟨by rw [h1, hn], k + m, by rw [h2]; simp [World.drewN, Nat.add_assoc]⟩
  have HN : Hid (∀ k, Calls Try.prog 35 #[.pointer (some ⟨b, 0, none⟩)] ((w.alloc (RefC A n c p e)).drewN k) fun r w' => r = .returned (.int .i64 en) ∧ ∃ m, w' = (w.alloc (RefC A n c p e)).drewN m) := fun k => (lend_any lo b zs p e _ (hL k) (by omega)).mono fun r w' ⟨h1, m, h2⟩ => ⟨by rw [h1, hen], k + m, by rw [h2]; simp [World.drewN, Nat.add_assoc]⟩
  have HB := Lib.hid hb
  have hp := h.place
  clear h hL hen hb
  rcases hc with ⟨he, rfl⟩ | ⟨rfl, hp1, rfl⟩ | ⟨rfl, hp1, rfl⟩
  · have h3 : ¬ (en : Int) = 0 := by omega
    have h4 : ((en : Int) == 0) = false := by simp; omega
    clear he
    go_enter Try.func23, Try.ntmps23
    go_wp2
    go_quiet ((first | (go_at_call 39; exact quiet_of_eq (HE.out _)) | (go_at_call 38; exact quiet_of_eq (HP.out _)) | (go_at_call 37; exact HL.out _) | (go_at_call 35; exact HN.out _)))
    go_wp2
    go_ret
    exact ⟨rfl, below_drewN HB.out _⟩
  · have hlt : (p : Int) < (n : Int) := by omega
    go_enter Try.func23, Try.ntmps23
    go_wp2
    go_quiet ((first | (go_at_call 39; exact quiet_of_eq (HE.out _)) | (go_at_call 38; exact quiet_of_eq (HP.out _)) | (go_at_call 37; exact HL.out _) | (go_at_call 35; exact HN.out _)))
    go_wp2
    go_ret
    exact ⟨rfl, below_drewN HB.out _⟩
  · have hlt : ¬ (p : Int) < (n : Int) := by omega
    clear hp1
    go_enter Try.func23, Try.ntmps23
    go_wp2
    go_quiet ((first | (go_at_call 39; exact quiet_of_eq (HE.out _)) | (go_at_call 38; exact quiet_of_eq (HP.out _)) | (go_at_call 37; exact HL.out _) | (go_at_call 35; exact HN.out _)))
    go_wp2
    go_ret
    exact ⟨rfl, below_drewN HB.out _⟩
theorem alike_any (lo b : Nat) (zs : List Int) (p e n : Nat) (A : Option Addr) (c : Nat) (w : World) (h : LensAt w lo b zs p e) (hn : zs.length = n) (hl : n ≤ 1000000000) :
    Calls Try.prog 23 #[.pointer (some ⟨b, 0, none⟩), RefL A n c p e] w fun r w' => r = .returned (.bool true) ∧ Below w.heap.size w w' := by
  have hp := h.place
  refine alike_go lo b zs p e n A c (endOf zs p e) w h hn hl rfl ?_
  by_cases he : e = 0
  · by_cases hp1 : p < n
    · exact .inr (.inl ⟨he, hp1, by simp [endOf, he, hn, hp1]⟩)
    · exact .inr (.inr ⟨he, by omega, by simp [endOf, he, hn, hp1]⟩)
  · exact .inl ⟨he, by simp [endOf, he]⟩
end Go.Proofs.Ytmilcmgohlfpiaa
