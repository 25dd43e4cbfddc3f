/-
  Contract of slices.Grow at a slice of bytes that the call made.
-/
import Derived.Test.YtmilcmgohlfpiaaPut
import Derived.Test.YtmilcmgohlfpiaaRow
namespace Go.Proofs.Ytmilcmgohlfpiaa
open Go.RowKit
set_option maxRecDepth 100000

/-- what Grow answers -/
def GrowR (A : Option Addr) (l n : Nat) (cur : List Int) (w : World) (e : Ending) (w' : World) : Prop :=
  ∃ A' cap' cur', e = .returned (.slice A' l cap') ∧ l + n ≤ cap' ∧ KRow 5 .u8 w' A' cap' cur' ∧ cur'.take l = cur.take l ∧ Below w.heap.size w w' ∧ (A' = A ∨ ∃ g, A' = some ⟨g, 0, none⟩ ∧ w.heap.size ≤ g)

set_option maxHeartbeats 2000000 in
theorem grow_any (A : Option Addr) (l cap n : Nat) (cur : List Int) (w : World) (hr : KRow 5 .u8 w A cap cur) (hl : l ≤ cap) (hn : l + n ≤ 1000000000) :
    Calls Try.prog 65 #[.slice A l cap, .int .i64 n] w fun e w' => GrowR A l n cur w e w' := by
  have hc63 : cap ≤ 9223372036854775807 := by
    rcases hr.2 with ⟨_, h0⟩ | ⟨g, _, hm, _⟩
    · omega
    · unfold maxLen at hm; omega
  by_cases hroom : l + n ≤ cap
  · have HR := Lib.hid hr
    clear hr
    have h4 : (n : Int) - ((cap : Int) - (l : Int)) ≤ 0 := by omega
    go_enter Try.func65, Try.ntmps65
    go_wp2
    go_ret
    exact ⟨A, cap, cur, rfl, hroom, HR.out, rfl, Below.refl _ _, .inl rfl⟩
  · obtain ⟨i0, hi, hz0, hz1, hz2⟩ := info_parts byteInfo
    have h4 : 0 < (n : Int) - ((cap : Int) - (l : Int)) := by omega
    have hck : cap + (l + n - cap) = l + n := by omega
    have hold : (Builtin.firstCells i0.size cap (.slice A cap cap)).run Try.prog w.drew = .ok (cur.map (Value.int .u8)).toArray w.drew := by
      rcases hr.2 with ⟨rfl, h0⟩ | ⟨g, rfl, hm, hh⟩
      · have hcu : cur = [] := List.eq_nil_of_length_eq_zero (hr.1.trans h0)
        subst h0
        subst hcu
        exact run_firstCells_none _ _ _ _ _
      · refine run_firstCells_some (w := w.drew) i0.size cap ⟨g, 0, none⟩ cap cap _ (by rw [hz1, List.length_map, hr.1]; omega) (fun j v hj => ?_)
        rw [List.getElem?_map] at hj
        obtain ⟨c, hc, rfl⟩ := Option.map_eq_some_iff.1 hj
        rw [Addr.add_lit, Nat.zero_add]
        exact hr.cell (w := w) rfl hc
    obtain ⟨G, hG⟩ : ∃ G, G = grownCap w (l + n) cap 5 := ⟨_, rfl⟩
    have hGn : l + n ≤ G := by rw [hG]; exact grownCap_ge w _ _ _
    have hGm : G ≤ maxLen := by rw [hG]; exact grownCap_le_maxLen w _ _ _ (by unfold maxLen; omega)
    have hG63 : G ≤ 9223372036854775807 := by unfold maxLen at hGm; omega
    obtain ⟨cur', hcur'⟩ : ∃ cur', cur' = cur ++ (List.replicate (l + n - cap) (0 : Int) ++ List.replicate (G - (l + n)) (0 : Int)) := ⟨_, rfl⟩
    have hlen' : cur'.length = G := by rw [hcur', List.length_append, List.length_append, List.length_replicate, List.length_replicate, hr.1]; omega
    have htake : cur'.take l = cur.take l := by rw [hcur', List.take_append_of_le_length (by rw [hr.1]; omega)]
    have hrz : ∀ ty, (Builtin.append_ #[22, 3] ty #[.slice A cap cap, .int .i64 ((n : Int) - ((cap : Int) - (l : Int)))]).run Try.prog w =
        .ok (.slice (some ⟨w.heap.size, 0, none⟩) (l + n) G) (w.drew.alloc (.cells (cur'.map (Value.int .u8)).toArray 5)) := fun ty => by
      have h := Lib.run_append_grow_zeros w 22 3 ty 5 i0 (.int .u8 0) .i64 .i64 Try.underlying22 Try.underlying3 hi hz0 A cap cap _ hold (l + n - cap) (by omega) (by omega) (by omega) (by omega) (by rw [hz2]; omega) (by rw [hck, hz2]; exact growslice_fits (by omega) (by omega))
      rw [hck, ← hG] at h
      rw [show (n : Int) - ((cap : Int) - (l : Int)) = ((l + n - cap : Nat) : Int) by omega]
      rw [h]
      have hz : (Value.int .u8 0).cells = #[.int .u8 0] := rfl
      rw [hz, zeroCells_int, zeroCells_int, hcur']
      rw [show (cur.map (Value.int .u8)).toArray ++ ((List.replicate (l + n - cap) (0 : Int)).map (Value.int .u8)).toArray ++ ((List.replicate (G - (l + n)) (0 : Int)).map (Value.int .u8)).toArray = ((cur ++ (List.replicate (l + n - cap) (0 : Int) ++ List.replicate (G - (l + n)) (0 : Int))).map (Value.int .u8)).toArray from Array.toList_inj.1 (by simp)]
    have HK : Hid (KRow 5 .u8 (w.drew.alloc (.cells (cur'.map (Value.int .u8)).toArray 5)) (some ⟨w.heap.size, 0, none⟩) G cur') := ⟨hlen', .inr ⟨_, rfl, hGm, heap_alloc_new w.drew _⟩⟩
    have HB : Hid (Below w.heap.size w (w.drew.alloc (.cells (cur'.map (Value.int .u8)).toArray 5))) := ((Below.refl _ w).drew).alloc (Nat.le_refl _) _
    have HT := Lib.hid htake
    have hnil : A = none → cap = 0 := fun h => by
      rcases hr.2 with ⟨_, h0⟩ | ⟨g, e, _⟩
      · exact h0
      · rw [h] at e; simp at e
    clear hold hck hG hcur' htake hlen' hr
    go_enter Try.func65, Try.ntmps65
    cases A with
    | none =>
      have h0 := hnil rfl
      subst h0
      obtain rfl : l = 0 := by omega
      go_wp2_with (at_builtin; refine Lib.wpList_append_run _ rfl _ _ _ _ rfl _ _ rfl rfl _ _ (hrz _) ?_)
      all_goals (go_ret; exact ⟨_, _, _, rfl, hGn, HK.out, HT.out, HB.out, .inr ⟨_, rfl, Nat.le_refl _⟩⟩)
    | some a =>
      obtain ⟨ab, ao, asp⟩ := a
      go_wp2_with (at_builtin; refine Lib.wpList_append_run _ rfl _ _ _ _ rfl _ _ rfl rfl _ _ (hrz _) ?_)
      all_goals (go_ret; exact ⟨_, _, _, rfl, hGn, HK.out, HT.out, HB.out, .inr ⟨_, rfl, Nat.le_refl _⟩⟩)
end Go.Proofs.Ytmilcmgohlfpiaa
