/-
  Contracts of layer 5: slices.Clone, Blocks, and its closure.
-/
import Derived.Test.YtljacfhkjhhbgaaCobE
import Derived.Test.YtljacfhkjhhbgaaGiven
import Derived.Lib.SliceRun
namespace Go.Proofs.Ytljacfhkjhhbgaa
open Go.RowKit Go.Shelf
set_option maxRecDepth 100000
attribute [local go_sem] Oper.semAt_some

/-- slices.Clone of bytes -/
theorem clone_any (a : Option Addr) (n cap : Nat) (zs : List Int) (w : World) (hn : zs.length = n) (hl : n ≤ 1000000) (h1 : Nums .u8 w w.heap.size a zs) :
    Calls Try.prog 20 #[.slice a n cap] w fun e w' => ∃ v, e = .returned v ∧ MadeK 5 .u8 w w' zs v := by
  subst hn
  obtain ⟨i0, hi, hz0, hz1, hz2⟩ := info_parts byteInfo
  cases a with
  | none =>
    have : zs = [] := by
      apply Classical.byContradiction
      intro hn
      obtain ⟨b, off, e, _⟩ := h1 hn
      cases e
    subst this
    have hq := fun w => Lib.run_eql_slice_nil (P := Try.prog) w 22 5 none 0 cap 0 0 Try.underlying22
    go_enter Try.func20, Try.ntmps20
    go_wp2
    go_ret
    exact ⟨_, rfl, MadeK.nil _ _ (Below.refl _ _)⟩
  | some x =>
    have hq := fun w => Lib.run_eql_slice_nil (P := Try.prog) w 22 5 (some x) zs.length cap 0 0 Try.underlying22
    have HL := Lib.hid (MadeK.lit 5 .u8 (Below.refl w.heap.size w))
    have HN := Lib.hid (h1.below ((Below.refl w.heap.size w).alloc (Nat.le_refl _) (.cells #[] 5)))
    have HX1 : Hid (([] : List Int).length + zs.length ≤ maxLen) := by show _ ≤ _; unfold maxLen; simp only [List.length_nil]; omega
    have HX2 : Hid ((([] : List Int).length + zs.length) * 1 ≤ 140737488355328) := by show _ ≤ _; simp only [List.length_nil]; omega
    go_enter Try.func20, Try.ntmps20
    go_wp2_with (at_builtin; refine wpList_append_any rfl (.tmp 5) (.tmp 6) 22 rfl w.heap.size 5 i0 (.int .u8 0) 1 Try.underlying22 hi hz0 hz1 hz2 rfl .u8 [] zs _ rfl HL.out.1 _ _ _ _ rfl rfl HN.out HX1.out HX2.out HL.out.2.size ?_)
    intro v' w1 hown hg
    have HM := Lib.hid (HL.out.more (zs := zs) (v' := v') (by simpa using hown) hg)
    rw [List.nil_append] at HM
    go_wp2
    go_ret
    exact ⟨_, rfl, HM.out⟩

/-- what Blocks answers: a closure over a box with a copy of the bytes -/
structure Seq (w : World) (zs : List Int) (Bs : Nat) (A : Option Addr) (n c : Nat) (w' : World) : Prop where
  lo : w.heap.size ≤ Bs
  hi : Bs < w'.heap.size
  box : w'.cell? ⟨Bs, 0, none⟩ = some (.slice A n c)
  room : n ≤ c
  nums : NumsS .u8 w' (fun b => w.heap.size ≤ b ∧ b < w'.heap.size) A zs
  below : Below w.heap.size w w'

theorem blocks_any (a : Option Addr) (n c : Nat) (zs : List Int) (w : World) (hn : zs.length = n) (hl : n ≤ 1000000) (h1 : Nums .u8 w w.heap.size a zs) :
    Calls Try.prog 14 #[.slice a n c] w fun e w' => ∃ Bs A c', e = .returned (.func (.func 21) #[] #[.pointer (some ⟨Bs, 0, none⟩)]) ∧ Seq w zs Bs A n c' w' := by
  have K := clone_any a n c zs w hn hl h1
  clear h1
  go_enter Try.func14, Try.ntmps14
  go_wp2_with fail
  refine K.mono ?_
  rintro e w1 ⟨v, rfl, hm⟩
  obtain ⟨A, c1, rfl, hc, _⟩ := hm.slice
  have hnu := hm.numsS rfl
  rw [hn] at hc ⊢
  have hb := hm.2.size
  have hb2 := hm.2.alloc hb (.cells #[.slice A n c1] 22)
  have hn2 : NumsS .u8 (w1.alloc (.cells #[.slice A n c1] 22)) (fun b => w.heap.size ≤ b ∧ b < (w1.alloc (.cells #[.slice A n c1] 22)).heap.size) A zs :=
    (hnu.keeps (KeepS.of_below ((Below.refl w1.heap.size w1).alloc (Nat.le_refl _) _) (fun k hk => hk.2))).more (fun k hk => ⟨hk.1, by rw [World.size_alloc]; omega⟩)
  clear hm hnu K
  go_wp2
  go_ret
  exact ⟨w1.heap.size, A, c1, rfl, hb, by simp, by simp, hc, hn2, hb2⟩
theorem func_not_nil (Bs : Nat) (w : World) : (binOp .eql 33 (.func (.func 21) #[] #[.pointer (some ⟨Bs, 0, none⟩)]) .nilFunc).run Try.prog w = .ok (.bool false) w := by
  kernel_rfl
end Go.Proofs.Ytljacfhkjhhbgaa
