/-
  Contract of a pen's part: a place of that size behind what was written.
-/
import Derived.Test.YtmilcmgohlfpiaaPen
namespace Go.Proofs.Ytmilcmgohlfpiaa
open Go.RowKit
set_option maxRecDepth 100000

/-- what part answers -/
def PartR (b g : Nat) (room : Int) (L : List Int) (full : Bool) (n : Nat) (w : World) (e : Ending) (w' : World) : Prop :=
  ∃ A cap cur P, e = .returned (.slice P n n) ∧ w'.heap[b]? = some (.cells #[.int .i64 room, .slice A (L.length + n : Nat) cap, .bool full] 93 (0, 0)) ∧ KRow 5 .u8 w' A cap cur ∧ L.length + n ≤ cap ∧ cur.take L.length = L ∧ Off (penS b g) w w' ∧
    ((A = none ∧ g = b) ∨ ∃ g', A = some ⟨g', 0, none⟩ ∧ g' ≠ b ∧ (g' = g ∨ w.heap.size ≤ g') ∧ (0 < n → P = some ⟨g', L.length, none⟩))

theorem frozen_of {w : World} {b j : Nat} {cs : Array Value} {t : TypeId} (h : w.heap[b]? = some (.cells cs t (0, 0))) : w.frozen? ⟨b, j, none⟩ = false := by
  simp [World.frozen?, h]

/-- what is so behind Grow -/
theorem part_facts {b g n cap cap2 : Nat} {room : Int} {L cur cur2 : List Int} {full : Bool} {w w2 : World} {A A2 : Option Addr} (hblt : b < w.heap.size)
    (hb : w.heap[b]? = some (.cells #[.int .i64 room, .slice A L.length cap, .bool full] 93 (0, 0))) (hA : (A = none ∧ g = b) ∨ (A = some ⟨g, 0, none⟩ ∧ g ≠ b)) (ht : cur.take L.length = L)
    (hc2 : L.length + n ≤ cap2) (hk2 : KRow 5 .u8 w2 A2 cap2 cur2) (ht2 : cur2.take L.length = cur.take L.length) (hbel : Below w.heap.size w w2) (hA2 : A2 = A ∨ ∃ g, A2 = some ⟨g, 0, none⟩ ∧ w.heap.size ≤ g) :
    Hid (w2.heap[b]? = some (.cells #[.int .i64 room, .slice A L.length cap, .bool full] 93 (0, 0))) ∧ w2.cell? ⟨b, 1, none⟩ = some (.slice A L.length cap) ∧ w2.frozen? ⟨b, 1, none⟩ = false ∧
      Hid (∀ P, (0 < n → P = A2.map (·.add L.length)) → PartR b g room L full n w (.returned (.slice P n n)) (w2.setCell ⟨b, 1, none⟩ (.slice A2 (L.length + n : Nat) cap2))) := by
  have hb2 : w2.heap[b]? = some (.cells #[.int .i64 room, .slice A L.length cap, .bool full] 93 (0, 0)) := by rw [hbel.block b hblt]; exact hb
  have hne : ∀ g', A2 = some ⟨g', 0, none⟩ → g' ≠ b ∧ (g' = g ∨ w.heap.size ≤ g') := by
    intro g' he
    rcases hA2 with h | ⟨q, h, hq⟩
    · rcases hA with ⟨h0, _⟩ | ⟨h0, hgb⟩
      · rw [h, h0] at he; simp at he
      · rw [h, h0] at he; injection he with he; injection he with he; subst he; exact ⟨hgb, .inl rfl⟩
    · rw [h] at he; injection he with he; injection he with he; subst he; exact ⟨by omega, .inr hq⟩
  have hO : Off (penS b g) w (w2.setCell ⟨b, 1, none⟩ (.slice A2 (L.length + n : Nat) cap2)) := (Off.of_below hbel).setCell (.inl rfl) _
  refine ⟨hb2, by simp [World.cell?, hb2], frozen_of hb2, fun P hP => ?_⟩
  refine ⟨A2, cap2, cur2, P, rfl, by rw [setCell_at hb2]; rfl, ?_, hc2, ht2.trans ht, hO, ?_⟩
  · refine hk2.off ((Off.refl (fun k => k = b) w2).setCell rfl _) ?_
    rintro q ⟨o, s, hq⟩ rfl
    rcases hk2.2 with ⟨h0, _⟩ | ⟨q', h0, _⟩
    · rw [h0] at hq; simp at hq
    · have := (hne q' h0).1
      rw [h0] at hq; injection hq with hq; injection hq with hq; exact this hq
  · rcases hk2.2 with ⟨h0, _⟩ | ⟨g', h0, _⟩
    · refine .inl ⟨h0, ?_⟩
      rcases hA2 with h | ⟨q, h, _⟩
      · rcases hA with ⟨_, hg⟩ | ⟨h1, _⟩
        · exact hg
        · rw [h, h1] at h0; simp at h0
      · rw [h] at h0; simp at h0
    · exact .inr ⟨g', h0, (hne g' h0).1, (hne g' h0).2, fun hn => by rw [hP hn, h0, Option.map_some, Addr.add_lit, Nat.zero_add]⟩

set_option maxHeartbeats 2000000 in
theorem part_any (b g n : Nat) (room : Int) (L : List Int) (full : Bool) (w : World) (h : PenAt w b g room L full) (hn : L.length + n ≤ 1000000000) :
    Calls Try.prog 63 #[.pointer (some ⟨b, 0, none⟩), .int .i64 n] w fun e w' => PartR b g room L full n w e w' := by
  have hblt := h.lt
  obtain ⟨A, cap, cur, hb, c0, c1, c2, hk, hlc, ht, hA⟩ := h.open
  clear h
  have HC := grow_any A L.length cap n cur w hk hlc hn
  have HT := Lib.hid ht
  have HB := Lib.hid hb
  clear ht hb
  have HBA := Lib.hid hA
  clear hk hA c0 c2
  go_enter Try.func63, Try.ntmps63
  go_wp2_with (go_at_call 65; refine HC.mono ?_; rintro e w2 ⟨A2, cap2, cur2, rfl, hc2, hk2, ht2, hbel, hA2⟩; obtain ⟨hb2, c1', f1, HX⟩ := part_facts hblt HB.out HBA.out HT.out hc2 hk2 ht2 hbel hA2; clear hk2 ht2 hbel hA2)
  · obtain rfl : n = 0 := by omega
    go_ret
    exact HX.out A2 (fun h => absurd h (Nat.lt_irrefl 0))
  · go_ret
    exact HX.out _ (fun _ => rfl)
end Go.Proofs.Ytmilcmgohlfpiaa
