/-
  Contracts of layer 6: slices.Clone of ints, slices.ContainsFunc with 'more than 0', Chunks.
-/
import Derived.Test.YtemafhaeppifoaaFenR
import Derived.Test.YtemafhaeppifoaaClone
namespace Go.Proofs.Ytemafhaeppifoaa
open Go.RowKit Go.Shelf
set_option maxRecDepth 100000
attribute [local go_sem] Oper.semAt_some

/-- slices.Clone of ints -/
theorem clonei_any (a : Option Addr) (n cap : Nat) (zs : List Int) (w : World) (hn : zs.length = n) (hl : n ≤ 1000000) (h1 : Nums .i64 w w.heap.size a zs) :
    Calls Try.prog 21 #[.slice a n cap] w fun e w' => ∃ v, e = .returned v ∧ MadeK 3 .i64 w w' zs v := by
  subst hn
  obtain ⟨i0, hi, hz0, hz1, hz2⟩ := info_parts intInfo
  cases a with
  | none =>
    have : zs = [] := by
      apply Classical.byContradiction
      intro hn
      obtain ⟨b, off, e, _⟩ := h1 hn
      cases e
    subst this
    have hq := fun w => Lib.run_eql_slice_nil (P := Try.prog) w 26 3 none 0 cap 0 0 Try.underlying26
    go_enter Try.func21, Try.ntmps21
    go_wp2
    go_ret
    exact ⟨_, rfl, MadeK.nil _ _ (Below.refl _ _)⟩
  | some x =>
    have hq := fun w => Lib.run_eql_slice_nil (P := Try.prog) w 26 3 (some x) zs.length cap 0 0 Try.underlying26
    have HL := Lib.hid (MadeK.lit 3 .i64 (Below.refl w.heap.size w))
    have HN := Lib.hid (h1.below ((Below.refl w.heap.size w).alloc (Nat.le_refl _) (.cells #[] 3)))
    have HX1 : Hid (([] : List Int).length + zs.length ≤ maxLen) := by show _ ≤ _; unfold maxLen; simp only [List.length_nil]; omega
    have HX2 : Hid ((([] : List Int).length + zs.length) * 8 ≤ 140737488355328) := by show _ ≤ _; simp only [List.length_nil]; omega
    go_enter Try.func21, Try.ntmps21
    go_wp2_with (at_builtin; refine wpList_append_any rfl (.tmp 5) (.tmp 6) 26 rfl w.heap.size 3 i0 (.int .i64 0) 8 Try.underlying26 hi hz0 hz1 hz2 rfl .i64 [] zs _ rfl HL.out.1 _ _ _ _ rfl rfl HN.out HX1.out HX2.out HL.out.2.size ?_)
    intro v' w1 hown hg
    have HM := Lib.hid (HL.out.more (zs := zs) (v' := v') (by simpa using hown) hg)
    rw [List.nil_append] at HM
    go_wp2
    go_ret
    exact ⟨_, rfl, HM.out⟩

theorem more_any (x : Int) (w : World) : Calls Try.prog 23 #[.int .i64 x] w fun e w' => e = .returned (.bool (decide (0 < x))) ∧ w' = w := by
  go_enter Try.func23, Try.ntmps23
  go_wp2
  go_ret
  exact ⟨rfl, rfl⟩
abbrev moreFn : Value := .func (.func 23) #[] #[]

set_option maxHeartbeats 1000000 in
theorem indexf_any (B : Nat) (a : Option Addr) (n c : Nat) (zs : List Int) (w : World) (hn : zs.length = n) (hl : n ≤ 1000000) (h1 : Nums .i64 w B a zs) :
    Calls Try.prog 28 #[.slice a n c, .func (.func 23) #[] #[]] w fun e w' => (∃ r : Int, e = .returned (.int .i64 r) ∧ ((0 ≤ r ∧ ∃ s ∈ zs, 0 < s) ∨ (r = -1 ∧ ∀ s ∈ zs, s ≤ 0))) ∧ w' = w := by
  have HL := Lib.hid hn
  clear hn
  go_enter Try.func28, Try.ntmps28
  go_wp2
  go_loopw [5, 8] (fun _ v wr => ∃ k : Nat, k ≤ n ∧ v = .int .i64 (k : Int) ∧ Hid (∀ s ∈ zs.take k, s ≤ 0) ∧ wr = w) (fun _ v _ => n - (intOf v).toNat)
  case atStart => exact ⟨0, by omega, rfl, fun s hs => by simp at hs, rfl⟩
  case round =>
    obtain ⟨k, hk, rfl, HN, rfl⟩ := hrel
    by_cases hlt : k < n
    · obtain ⟨z, hz⟩ : ∃ z, zs[k]? = some z := ⟨_, List.getElem?_eq_getElem (by rw [HL.out]; exact hlt)⟩
      obtain ⟨b1, o1, rfl, hb1, hc1⟩ := h1.open hz
      have hlt' : (k : Int) < (n : Int) := by omega
      have K := more_any z wr
      by_cases hz0 : 0 < z
      · have HF := Lib.hid (show ∃ s ∈ zs, 0 < s from ⟨z, List.mem_of_getElem? hz, hz0⟩)
        rw [decide_eq_true hz0] at K
        clear hz h1
        go_wp2_with fail
        refine K.mono ?_
        rintro e w' ⟨rfl, rfl⟩
        go_wp2
        go_ret
        exact ⟨⟨_, rfl, .inl ⟨by omega, HF.out⟩⟩, rfl⟩
      · have HF : Hid (∀ s ∈ zs.take (k + 1), s ≤ 0) := by
          show ∀ s ∈ _, _
          rw [List.take_add_one, hz]
          intro s hs
          rcases List.mem_append.1 hs with h | h
          · exact HN.out s h
          · simp at h; subst h; omega
        rw [decide_eq_false hz0] at K
        clear hz h1
        go_wp2_with fail
        refine K.mono ?_
        rintro e w' ⟨rfl, rfl⟩
        go_wp2
        go_roundw
        case rel => exact ⟨k + 1, by omega, by go_num, HF, trivial⟩
        case measure => simp [intOf]; omega
    · have hkn : k = n := by omega
      have HF : Hid (∀ s ∈ zs, s ≤ 0) := by
        have := HN.out
        rwa [List.take_of_length_le (by rw [HL.out]; omega)] at this
      go_wp2
      go_ret
      exact ⟨⟨_, rfl, .inr ⟨rfl, HF.out⟩⟩, rfl⟩

/-- what ContainsFunc answers -/
def ContR (zs : List Int) (w : World) (e : Ending) (w' : World) : Prop := (∃ r : Bool, e = .returned (.bool r) ∧ ((r = true ∧ ∃ s ∈ zs, 0 < s) ∨ (r = false ∧ ∀ s ∈ zs, s ≤ 0))) ∧ w' = w
theorem contains_any (B : Nat) (a : Option Addr) (n c : Nat) (zs : List Int) (w : World) (hn : zs.length = n) (hl : n ≤ 1000000) (h1 : Nums .i64 w B a zs) :
    Calls Try.prog 22 #[.slice a n c, .func (.func 23) #[] #[]] w (ContR zs w) := by
  have K := indexf_any B a n c zs w hn hl h1
  clear h1
  go_enter Try.func22, Try.ntmps22
  go_wp2_with fail
  refine K.mono ?_
  rintro e w' ⟨⟨r, rfl, h⟩, rfl⟩
  rcases h with ⟨h0, h⟩ | ⟨rfl, h⟩
  · have HF := Lib.hid h
    clear h K
    go_wp2
    go_ret
    exact ⟨⟨true, rfl, .inl ⟨rfl, HF.out⟩⟩, rfl⟩
  · have HF := Lib.hid h
    clear h K
    go_wp2
    go_ret
    exact ⟨⟨false, rfl, .inr ⟨rfl, HF.out⟩⟩, rfl⟩
end Go.Proofs.Ytemafhaeppifoaa
