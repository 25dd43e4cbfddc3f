/-
  Contract of slices.Reverse at []uint32; a row of numbers that is written in place.
-/
import Derived.Test.YtklkfajbfpihfaaWinO
namespace Go.Proofs.Ytklkfajbfpihfaa
open Go.RowKit
set_option maxRecDepth 100000

/-- numbers that lie in block g, whole; all blocks but g are as they were in w -/
structure RowU (w : World) (g : Nat) (L : List Int) (wr : World) : Prop where
  row : ∃ cs, wr.heap[g]? = some (.cells cs 22 (0, 0)) ∧ ∀ (j : Nat) c, L[j]? = some c → cs[j]? = some (.int .u32 c)
  off : Off (fun k => k = g) w wr
section
variable {w wr : World} {g : Nat} {L : List Int}
theorem RowU.cell (h : RowU w g L wr) {j : Nat} {c : Int} (hj : L[j]? = some c) : wr.cell? ⟨g, j, none⟩ = some (.int .u32 c) := by
  obtain ⟨cs, hh, hc⟩ := h.row
  rw [cell_of_row wr g j cs _ _ hh]
  exact hc j c hj
theorem RowU.frozen (h : RowU w g L wr) (j : Nat) : wr.frozen? ⟨g, j, none⟩ = false := by
  obtain ⟨cs, hh, hc⟩ := h.row
  simp [World.frozen?, hh]
theorem RowU.drewN (h : RowU w g L wr) (n : Nat) : RowU w g L (wr.drewN n) := ⟨h.row, ⟨h.off.os, h.off.tape, h.off.output, h.off.size, h.off.block⟩⟩
theorem RowU.set (h : RowU w g L wr) (j : Nat) (c : Int) : RowU w g (L.set j c) (wr.setCell ⟨g, j, none⟩ (.int .u32 c)) := by
  obtain ⟨cs, hh, hc⟩ := h.row
  refine ⟨⟨_, setCell_at hh, fun i x hi => ?_⟩, h.off.setCell rfl _⟩
  rw [Array.getElem?_setIfInBounds]
  rw [List.getElem?_set] at hi
  by_cases hji : j = i
  · subst hji
    rw [if_pos rfl] at hi ⊢
    split at hi
    · rename_i hlt
      injection hi with hi
      subst hi
      have h2 := hc j L[j] (List.getElem?_eq_getElem hlt)
      rw [if_pos (Array.getElem?_eq_some_iff.1 h2).1]
    · simp at hi
  · rw [if_neg hji] at hi ⊢
    exact hc i x hi
theorem RowU.nums (h : RowU w g L wr) : Nums .u32 wr wr.heap.size (some ⟨g, 0, none⟩) L := fun hn => by
  obtain ⟨cs, hh, hc⟩ := h.row
  refine ⟨g, 0, rfl, (Array.getElem?_eq_some_iff.1 hh).1, fun j c hj => ?_⟩
  rw [Nat.zero_add]
  exact h.cell hj
theorem RowU.same (h : RowU w g L wr) {M : List Int} (hM : ∀ (j : Nat) (c : Int), M[j]? = some c → L[j]? = some c) : RowU w g M wr := by
  obtain ⟨cs, hh, hc⟩ := h.row
  exact ⟨⟨cs, hh, fun j c hj => hc j c (hM j c hj)⟩, h.off⟩
theorem RowU.below {w' : World} (h : RowU w g L wr) (hb : Below wr.heap.size wr w') : RowU w g L w' := by
  obtain ⟨cs, hh, hc⟩ := h.row
  exact ⟨⟨cs, (hb.block g (Array.getElem?_eq_some_iff.1 hh).1).trans hh, hc⟩, h.off.trans (S' := fun _ => False) (Off.of_below hb) (fun _ _ h => h.elim)⟩
end
theorem RowU.of_own {w : World} {lo c : Nat} {A : Option Addr} {L : List Int} (h : w.ownsRow lo 22 1 (.slice A L.length c) L.length (L.map (Value.int .u32))) (hL : 0 < L.length) : ∃ g, A = some ⟨g, 0, none⟩ ∧ lo ≤ g ∧ L.length ≤ c ∧ RowU w g L w := by
  rcases h.2 with ⟨_, h0⟩ | ⟨g, cap, cur, hv, hg, hh, hn, hcur⟩
  · omega
  · injection hv with hv1 hv2 hv3
    subst hv1 hv3
    refine ⟨g, rfl, hg, hn, ⟨cur, hh, fun j z hj => ?_⟩, Off.refl _ _⟩
    have := h.cells (g := g) rfl j (.int .u32 z) (by rw [List.getElem?_map, hj]; rfl)
    rw [show (⟨g, 0, none⟩ : Addr).add j = ⟨g, j, none⟩ by unfold Addr.add; split <;> simp_all] at this
    rwa [cell_of_row w g j cur _ _ hh] at this

/-- the first k and the last k have changed places -/
structure RvTo (L : List Int) (k : Nat) (M : List Int) : Prop where
  len : M.length = L.length
  at' : ∀ p, p < L.length → M[p]? = if p < k ∨ L.length - k ≤ p then L[L.length - 1 - p]? else L[p]?
theorem RvTo.start (L : List Int) : RvTo L 0 L := ⟨rfl, fun p hp => by rw [if_neg (by omega)]⟩
theorem RvTo.step {L M : List Int} {k : Nat} {x y : Int} (h : RvTo L k M) (hk : k < L.length - 1 - k) (hx : M[k]? = some x) (hy : M[L.length - 1 - k]? = some y) : RvTo L (k + 1) ((M.set k y).set (L.length - 1 - k) x) := by
  have hl := h.len
  refine ⟨by simp [hl], fun p hp => ?_⟩
  have h1 := h.at' p hp
  have e1 : L[L.length - 1 - k]? = some y := by
    have := h.at' (L.length - 1 - k) (by omega)
    rw [if_neg (by omega)] at this
    rw [← this]; exact hy
  have e2 : L[k]? = some x := by
    have := h.at' k (by omega)
    rw [if_neg (by omega)] at this
    rw [← this]; exact hx
  rw [List.getElem?_set, List.getElem?_set, List.length_set, hl]
  by_cases h2 : L.length - 1 - k = p
  · rw [if_pos h2, if_pos (by omega), if_pos (by omega), show L.length - 1 - p = k by omega, e2]
  · rw [if_neg h2]
    by_cases h3 : k = p
    · rw [if_pos h3, if_pos (by omega), if_pos (by omega), ← h3, e1]
    · rw [if_neg h3, h1]
      by_cases h4 : p < k ∨ L.length - k ≤ p
      · rw [if_pos h4, if_pos (by omega)]
      · rw [if_neg h4, if_neg (by omega)]
theorem RvTo.done {L M : List Int} {k : Nat} (h : RvTo L k M) (hk : ¬ (k : Int) < (L.length : Int) - 1 - k) : M = L.reverse := by
  apply List.ext_getElem?
  intro p
  rcases Nat.lt_or_ge p L.length with h1 | h1
  · rw [h.at' p h1, List.getElem?_reverse h1]
    by_cases h2 : p < k ∨ L.length - k ≤ p
    · rw [if_pos h2]
    · rw [if_neg h2, show L.length - 1 - p = p by omega]
  · rw [List.getElem?_eq_none (by rw [h.len]; exact h1), List.getElem?_eq_none (by rw [List.length_reverse]; exact h1)]

theorem reverse_none (A : Option Addr) (c : Nat) (w : World) : Calls Try.prog 27 #[.slice A 0 c] w fun e w' => (∃ x, e = .returned x) ∧ w' = w := by
  go_enter Try.func27, Try.ntmps27
  go_wp2
  go_loopw [2, 3] (fun i j wr => i = .int .i64 0 ∧ j = .int .i64 (-1) ∧ wr = w) (fun _ _ _ => 0)
  case atStart => exact ⟨rfl, rfl, rfl⟩
  case round =>
    obtain ⟨rfl, rfl, rfl⟩ := hrel
    go_wp2
    go_end0
    exact ⟨⟨_, rfl⟩, rfl⟩
set_option maxHeartbeats 1000000 in
theorem reverse_any (g c : Nat) (L : List Int) (n : Nat) (w : World) (hn : L.length = n) (hl : n ≤ 1000000) (_hc : n ≤ c) (h : RowU w g L w) :
    Calls Try.prog 27 #[.slice (some ⟨g, 0, none⟩) n c] w fun e w' => (∃ x, e = .returned x) ∧ RowU w g L.reverse w' := by
  have HN := Lib.hid hn
  clear hn
  go_enter Try.func27, Try.ntmps27
  go_wp2
  go_loopw [2, 3] (fun i j wr => ∃ (k : Nat) (M : List Int), k ≤ n ∧ i = .int .i64 (k : Int) ∧ j = .int .i64 ((n : Int) - 1 - (k : Int)) ∧ Hid (RvTo L k M) ∧ RowU w g M wr) (fun i _ _ => n - (intOf i).toNat)
  case atStart => exact ⟨0, L, by omega, rfl, by go_num, RvTo.start L, h⟩
  case round =>
    obtain ⟨k, M, hkn, rfl, rfl, HR, hrow⟩ := hrel
    by_cases hlt : (k : Int) < (n : Int) - 1 - (k : Int)
    · obtain ⟨m, hm⟩ : ∃ m : Nat, (n : Int) - 1 - (k : Int) = (m : Int) := ⟨n - 1 - k, by omega⟩
      have hmn : m = n - 1 - k := by omega
      have hML : M.length = n := HR.out.len.trans HN.out
      obtain ⟨x, hx⟩ : ∃ x, M[k]? = some x := ⟨_, List.getElem?_eq_getElem (by omega)⟩
      obtain ⟨y, hy⟩ : ∃ y, M[m]? = some y := ⟨_, List.getElem?_eq_getElem (by omega)⟩
      have cx := hrow.cell hx
      have cy := hrow.cell hy
      have fx := hrow.frozen k
      have fy := hrow.frozen m
      have HS : Hid (RvTo L (k + 1) ((M.set k y).set m x)) := by
        have := HR.out.step (x := x) (y := y) (by rw [HN.out]; omega) hx (by rw [HN.out, ← hmn]; exact hy)
        rw [HN.out, ← hmn] at this
        exact this
      have HW := Lib.hid ((hrow.set k y).set m x)
      have hkm : (k : Int) < (m : Int) := by omega
      have hmc : (m : Int) < (n : Int) := by omega
      have hm2 : (n : Int) - 1 - ((k : Int) + 1) = (m : Int) - 1 := by omega
      have HM2 := Lib.hid hm2
      have hne : k ≠ m := by omega
      rw [hm]
      clear hm hmn hML hx hy hrow hm2
      go_wp2
      refine wp_region_lex2 (C := fun w' => ∃ n, w' = wr.drewN n) (by kernel_rfl) (by kernel_rfl) ⟨1, rfl⟩ ?_
      repeat (first
        | (refine wpQ2_pure rfl ?_; go_big_quiet_step (fail); refine wpQuiet_nil ?_)
        | (refine wpQ2_look rfl ?_; go_big_quiet_step (fail); refine wpQuiet_nil ?_))
      refine wpQ2_store (fun w' => ∃ n, w' = (wr.setCell ⟨g, k, none⟩ (.int .u32 y)).drewN n) rfl rfl rfl ⟨g, k, none⟩ (.int .u32 y) rfl rfl ?_ ?_
      · rintro w5 ⟨n5, rfl⟩
        refine ⟨(wr.drewN n5).setCell ⟨g, k, none⟩ (.int .u32 y), ?_, n5, rfl⟩
        simp [Instr.storeAt, go_sem, *]
      repeat (first
        | (refine wpQ2_pure rfl ?_; go_big_quiet_step (fail); refine wpQuiet_nil ?_))
      refine wpQ2_store (fun w' => ∃ n, w' = ((wr.setCell ⟨g, k, none⟩ (.int .u32 y)).setCell ⟨g, m, none⟩ (.int .u32 x)).drewN n) rfl rfl rfl ⟨g, m, none⟩ (.int .u32 x) rfl rfl ?_ ?_
      · rintro w5 ⟨n5, rfl⟩
        refine ⟨((wr.setCell ⟨g, k, none⟩ (.int .u32 y)).drewN n5).setCell ⟨g, m, none⟩ (.int .u32 x), ?_, n5, rfl⟩
        simp [Instr.storeAt, go_sem, *]
      rintro w6 ⟨n6, rfl⟩
      have HW6 := Lib.hid (HW.out.drewN n6)
      generalize ((wr.setCell ⟨g, k, none⟩ (.int .u32 y)).setCell ⟨g, m, none⟩ (.int .u32 x)).drewN n6 = w6 at *
      clear HW cx cy fx fy
      go_wp2
      go_roundw
      case rel => exact ⟨k + 1, _, by omega, by go_num, by rw [show ((m : Int) - 1) = (n : Int) - 1 - ((k + 1 : Nat) : Int) by have := HM2.out; omega], HS, HW6.out⟩
      case measure => simp [intOf]; omega
    · have hM := HR.out.done (by rw [HN.out]; exact hlt)
      subst hM
      go_wp2
      go_end0
      exact ⟨⟨_, rfl⟩, hrow⟩
end Go.Proofs.Ytklkfajbfpihfaa
