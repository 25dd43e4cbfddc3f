/-
  Contract of layer 7's Bytes.
-/
import Derived.Test.YtmmffifndheafaaDoorHdC
import Derived.Test.YtmmffifndheafaaDoorMem
import Derived.Deep.QuietTactic
namespace Go.Proofs.YtmmffifndheafaaDoor
open Go.RowKit Go.Shelf
set_option maxRecDepth 100000
attribute [local go_sem] Oper.semAt_some

/-- a head's bytes -/
def hdB (v k s i c : Int) : List Int := [v, k, s % 256, s / 256 % 256, s / 65536 % 256, s / 16777216, i, c]
/-- what Bytes answers -/
def HdBR (B : Nat) (v k s i c : Int) (w' : World) (e : Ending) : Prop :=
  (chk v k i c ≠ 0 ∧ e = .returned (.tuple #[.slice none 0 0, .int .i64 (chk v k i c)])) ∨
  (chk v k i c = 0 ∧ ∃ g, B ≤ g ∧ e = .returned (.tuple #[.slice (some ⟨g, 0, none⟩) 8 8, .int .i64 0]) ∧ Nums .u8 w' w'.heap.size (some ⟨g, 0, none⟩) (hdB v k s i c))

set_option maxHeartbeats 2000000 in
theorem hbytes_any (v k s i c : Int) (hs : 0 ≤ s ∧ s ≤ 4294967295) (w : World) :
    Calls Tryd.prog 6 #[hdV v k s i c] w fun e w' => HdBR w.heap.size v k s i c w' e ∧ Below w.heap.size w w' := by
  have HC := Lib.hid (check_any v k s i c)
  have hh : hdV v k s i c = .agg #[.int .i64 v, .int .i64 k, .int .u32 s, .int .i64 i, .int .i64 c] := rfl
  rw [hh] at HC ⊢
  clear hh
  by_cases h0 : chk v k i c = 0
  · have hz := chk_zero h0
    rw [h0] at HC
    have H0 := Lib.hid h0
    clear h0
    have b1 : 0 ≤ v ∧ v ≤ 255 ∧ 0 ≤ k ∧ k ≤ 255 ∧ 0 ≤ i ∧ i ≤ 255 ∧ 0 ≤ c ∧ c ≤ 255 := by omega
    clear hz
    go_enter Tryd.func6, Tryd.ntmps6
    go_wp2_with (go_at_call 8; refine (HC.out _).mono ?_; rintro e w1 ⟨rfl, hb1⟩; obtain ⟨d0, d1, d2, d3, d4⟩ := hd_cells hb1)
    go_ret2
    have hn := Nums.new .u8 w1 45 (hdB v k s i c) _ rfl
    rw [← World.size_alloc w1] at hn
    have hb := ((Below.refl _ w).alloc (Nat.le_refl _) (.cells #[.int .i64 v, .int .i64 k, .int .u32 s, .int .i64 i, .int .i64 c] 24)).trans (hb1.mono (by simp))
    exact ⟨.inr ⟨H0.out, _, hb.size, rfl, hn⟩, hb.alloc hb.size _⟩
  · have h1 : (chk v k i c != 0) = true := by simpa using h0
    have H0 := Lib.hid h0
    clear h0
    go_enter Tryd.func6, Tryd.ntmps6
    go_wp2_with (go_at_call 8; refine (HC.out _).mono ?_; rintro e w1 ⟨rfl, hb1⟩)
    go_ret2
    exact ⟨.inl ⟨H0.out, rfl⟩, ((Below.refl _ w).alloc (Nat.le_refl _) _).trans (hb1.mono (by simp))⟩
end Go.Proofs.YtmmffifndheafaaDoor
