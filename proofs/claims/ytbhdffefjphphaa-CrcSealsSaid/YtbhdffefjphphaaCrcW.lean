/-
  Contract of crc.New: the table.
-/
import Derived.Test.YtbhdffefjphphaaCrcA
import Derived.Deep.WholeRow
namespace Go.Proofs.Ytbhdffefjphphaa
open Go.RowKit
set_option maxRecDepth 100000

theorem tabInfo : (Try.prog.info? 55).map (fun i => (i.zero, i.size)) = some (some (.agg (Array.replicate 1024 (.int .u32 0))), 1024) := by kernel_rfl
/-- what of the table is told: the columns below i, and of column i the rows below k -/
def TabTo (cs : Array Value) (i k : Nat) : Prop := cs.size = 1024 ∧ ∀ k' i' : Nat, k' < 4 → i' < 256 → (i' < i ∨ (i' = i ∧ k' < k)) → cs[k' * 256 + i']? = some (.int .u32 ((Cr.shn (8 * (k' + 1)) i' : Nat) : Int))
theorem TabTo.next {cs : Array Value} {i k : Nat} (h : TabTo cs i k) (hk : k < 4) (hi : i < 256) : TabTo (cs.setIfInBounds (k * 256 + i) (.int .u32 ((Cr.shn (8 * (k + 1)) i : Nat) : Int))) i (k + 1) := by
  refine ⟨by simp [h.1], fun k' i' hk' hi' hd => ?_⟩
  rw [Array.getElem?_setIfInBounds]
  by_cases he : k * 256 + i = k' * 256 + i'
  · have e1 : k = k' := by omega
    have e2 : i = i' := by omega
    subst e1 e2
    rw [if_pos rfl, if_pos (by rw [h.1]; omega)]
  · rw [if_neg he]
    exact h.2 k' i' hk' hi' (by omega)
theorem TabTo.col {cs : Array Value} {i : Nat} (h : TabTo cs i 4) : TabTo cs (i + 1) 0 := ⟨h.1, fun k' i' hk' hi' hd => h.2 k' i' hk' hi' (by omega)⟩

theorem new_any (w : World) : Calls Try.prog 8 #[] w fun e w' => e = .returned (.pointer (some ⟨w.heap.size, 0, none⟩)) ∧ TabAt w' (w.heap.size + 1) w.heap.size ∧ Below w.heap.size w w' ∧ w'.heap.size = w.heap.size + 1 := by
  obtain ⟨hz, hs⟩ := zero_of_info tabInfo
  go_enter Try.func8, Try.ntmps8
  go_wp2
  go_loopw [6] (fun x wr => ∃ (i : Nat) (cs : Array Value), i ≤ 256 ∧ x = .int .i64 i ∧ wr = w.alloc (.cells cs 55) ∧ Hid (TabTo cs i 0)) (fun x _ => 256 - (intOf x).toNat)
  case atStart => exact ⟨0, _, by omega, rfl, rfl, by simp, fun k' i' _ _ hd => by omega⟩
  case round =>
    obtain ⟨i, cs, hi, rfl, rfl, HT⟩ := hrel
    by_cases hlt : i < 256
    · have hlt' : (i : Int) < 256 := by omega
      go_wp2
      go_loopw [3, 11] (fun x j wx => ∃ (k m : Nat) (cs : Array Value), k ≤ 4 ∧ j = .int .i64 k ∧ x = .int .u32 (m : Int) ∧ m < 4294967296 ∧ Hid (m = Cr.shn (8 * k) i) ∧ wx = w.alloc (.cells cs 55) ∧ Hid (TabTo cs i k)) (fun _ j _ => 4 - (intOf j).toNat)
      case atStart => exact ⟨0, i, cs, by omega, rfl, by go_num, by omega, rfl, rfl, HT⟩
      case round =>
        obtain ⟨k, m, cs, hk, rfl, rfl, hm, HM, rfl, HT⟩ := hrel
        by_cases hk4 : k < 4
        · have hk4' : (k : Int) < 4 := by omega
          have HM' : Hid (Cr.shn 8 m = Cr.shn (8 * (k + 1)) i) := by
            show _ = _
            rw [HM.out, ← Cr.shn_add]
            congr 1
          have HL : Hid (Cr.shn 8 m < 4294967296) := by have := Cr.shn_lt (n := m) 8 (by omega); show _ < _; omega
          have HN := HT.out.next hk4 hlt
          rw [← HM'.out] at HN
          have HNN := Lib.hid HN
          clear HN
          have hsz := HT.out.1
          have hin : k * 256 + i < cs.size := by omega
          have hcell : (w.alloc (.cells cs 55)).cell? ⟨w.heap.size, k * 256 + i, none⟩ = some (cs[k * 256 + i]'hin) := by
            rw [World.cell?_alloc_at _ _ _ _ rfl]
            simp [hin]
          go_wp2_with fail
          refine (shifted_any m _ hm).mono ?_
          rintro e w' ⟨rfl, rfl⟩
          generalize Cr.shn 8 m = M at *
          go_wp2
          go_roundw
          case rel => exact ⟨k + 1, M, _, by omega, by go_num, by go_num, HL.out, HM', rfl, HNN⟩
          case measure => simp [intOf]; omega
        · obtain rfl : k = 4 := by omega
          go_wp2
          go_roundw
          case rel => exact ⟨i + 1, cs, by omega, by go_num, rfl, HT.out.col⟩
          case measure => simp [intOf]; omega
    · obtain rfl : i = 256 := by omega
      go_wp2
      go_ret
      refine ⟨rfl, ⟨by omega, fun k' i' hk' hi' => ?_⟩, (Below.refl _ w).alloc (Nat.le_refl _) _, by simp⟩
      rw [World.cell?_alloc_at _ _ _ _ rfl]
      exact HT.out.2 k' i' hk' hi' (by omega)
end Go.Proofs.Ytbhdffefjphphaa
