/-
  Contract of the document's Word of layer 2.
-/
import Derived.Test.YtmmffifndheafaaDoorApp
import Derived.Test.YtmmffifndheafaaDoorPut
import Derived.Handy
namespace Go.Proofs.YtmmffifndheafaaDoor
open Go.RowKit
set_option maxRecDepth 100000

theorem made_later {w w1 w2 : World} {L : List Int} {v : Value} (h1 : w2.ownsRow w1.heap.size 5 1 v L.length (L.map (Value.int .u8))) (h2 : Below w1.heap.size w1 w2) (hb : Below w.heap.size w w1) : Made w w2 L v := by
  have hs := hb.size
  refine ⟨⟨h1.1, ?_⟩, hb.trans (h2.mono hs)⟩
  rcases h1.2 with h | ⟨g, cap, cur, hv, hg, rest⟩
  · exact .inl h
  · exact .inr ⟨g, cap, cur, hv, by omega, rest⟩

/-- so many bytes of a number, the lowest ones first -/
def wordL (n : Int) : Nat → List Int
  | 0 => []
  | k + 1 => n % 256 :: wordL (n / 256) k
theorem wordL_length (n : Int) (k : Nat) : (wordL n k).length = k := by
  induction k generalizing n with
  | zero => rfl
  | succ k ih => simp [wordL, ih]
set_option maxHeartbeats 800000 in
theorem word_any (n : Int) (size : Nat) (w : World) (h0 : 0 ≤ n) (h1 : n ≤ 4294967295) (hs : size ≤ 1000) :
    Calls Tryd.prog 25 #[.int .u32 n, .int .i64 size] w fun e w' => ∃ v, e = .returned v ∧ Made w w' (wordL n size) v := by
  obtain ⟨i0, hi, hz0, hz1, hz2⟩ := info_parts byteInfo
  go_enter Tryd.func25, Tryd.ntmps25
  go_wp2
  go_loopw [0, 5, 6] (fun x v i wr => ∃ (k j : Nat) (L : List Int) (y : Int), k + j = size ∧ i = .int .i64 k ∧ 0 ≤ y ∧ y ≤ 4294967295 ∧ x = .int .u32 y ∧ Hid (L ++ wordL y j = wordL n size) ∧ L.length = k ∧ Made w wr L v) (fun _ _ i _ => size - (intOf i).toNat)
  case atStart => exact ⟨0, size, [], n, by omega, rfl, h0, h1, rfl, rfl, rfl, Made.nil w⟩
  case round =>
    obtain ⟨k, j, L, y, hkj, rfl, hy0, hy1, rfl, HE, hL, hm⟩ := hrel
    cases j with
    | zero =>
      go_wp2
      go_ret
      have he := HE.out
      simp [wordL] at he
      subst he
      exact ⟨_, rfl, hm⟩
    | succ j =>
      subst hL
      have hlt : L.length < size := by omega
      have hsz := hm.2.size
      go_wp2_with (at_builtin; refine wpList_append_own _ rfl _ _ 25 rfl w.heap.size 5 i0 (.int .u8 0) 1 1 Tryd.underlying25 hi hz0 hz1 hz2 rfl (by decide) _ _ _ rfl (hm.1.alloc _) ⟨wr.heap.size, 0, none⟩ 1 1 [_] rfl rfl (cell_one_new _ _ _) ?c2 ?c3 ?c4 ?c5 ?_)
      case c2 => intro u hu; simp at hu; subst hu; rfl
      case c3 => unfold maxLen; omega
      case c4 => omega
      case c5 => simp; omega
      intro v' w1 hown' hgrow _
      have HM := Lib.hid (hm.app hown' hgrow rfl)
      clear hown' hgrow hm
      go_wp2
      go_roundw
      case rel => exact ⟨L.length + 1, j, L ++ [y % 256], y / 256, by omega, by go_num, by omega, by omega, rfl, by have := HE.out; simpa [Hid, wordL] using this, by simp, HM.out⟩
      case measure => simp [intOf]; omega
end Go.Proofs.YtmmffifndheafaaDoor
