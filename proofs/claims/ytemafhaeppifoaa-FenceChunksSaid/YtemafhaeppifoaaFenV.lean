/-
  Contract of layer 6's Chunks.
-/
import Derived.Test.YtemafhaeppifoaaFenQ
namespace Go.Proofs.Ytemafhaeppifoaa
open Go.RowKit Go.Shelf
set_option maxRecDepth 100000
attribute [local go_sem] Oper.semAt_some

/-- what Chunks answers: a closure over two boxes: a copy of the bytes, and the round of sizes -/
structure ChSeq (w : World) (zs R : List Int) (B1 B2 : Nat) (A1 : Option Addr) (n k1 : Nat) (A2 : Option Addr) (q k2 : Nat) (w' : World) : Prop where
  lo1 : w.heap.size ≤ B1
  lo2 : w.heap.size ≤ B2
  hi1 : B1 < w'.heap.size
  hi2 : B2 < w'.heap.size
  box1 : w'.cell? ⟨B1, 0, none⟩ = some (.slice A1 n k1)
  box2 : w'.cell? ⟨B2, 0, none⟩ = some (.slice A2 q k2)
  room1 : n ≤ k1
  room2 : q ≤ k2
  nums1 : NumsS .u8 w' (fun b => w.heap.size ≤ b ∧ b < w'.heap.size) A1 zs
  nums2 : NumsS .i64 w' (fun b => w.heap.size ≤ b ∧ b < w'.heap.size) A2 R
  below : Below w.heap.size w w'
/-- the round of the sizes -/
def rnd (ss : List Int) (n : Nat) (R : List Int) : Prop := ((∃ s ∈ ss, 0 < s) ∧ R = ss) ∨ ((∀ s ∈ ss, s ≤ 0) ∧ R = [(n : Int)])

theorem NumsS.later {k : IntKind} {w1 w2 : World} {B : Nat} {A : Option Addr} {zs : List Int} (h : NumsS k w1 (fun b => B ≤ b ∧ b < w1.heap.size) A zs) (hb : Below w1.heap.size w1 w2) : NumsS k w2 (fun b => B ≤ b ∧ b < w2.heap.size) A zs :=
  (h.keeps (KeepS.of_below hb (fun k hk => hk.2))).more (fun k hk => ⟨hk.1, by have := hb.size; omega⟩)
theorem NumsS.lower {k : IntKind} {w1 : World} {B B' : Nat} {A : Option Addr} {zs : List Int} (h : NumsS k w1 (fun b => B ≤ b ∧ b < w1.heap.size) A zs) (hb : B' ≤ B) : NumsS k w1 (fun b => B' ≤ b ∧ b < w1.heap.size) A zs :=
  h.more (fun k hk => ⟨by omega, hk.2⟩)

set_option maxHeartbeats 2000000 in
theorem chunks_any (a : Option Addr) (n c : Nat) (zs : List Int) (a2 : Option Addr) (n2 c2 : Nat) (ss : List Int) (w : World) (hn : zs.length = n) (hl : n ≤ 1000000) (h1 : Nums .u8 w w.heap.size a zs)
    (hn2 : ss.length = n2) (hl2 : n2 ≤ 1000000) (h2 : Nums .i64 w w.heap.size a2 ss) :
    Calls Try.prog 16 #[.slice a n c, .slice a2 n2 c2] w fun e w' => ∃ B1 B2 A1 k1 A2 q k2 R, e = .returned (.func (.func 24) #[] #[.pointer (some ⟨B1, 0, none⟩), .pointer (some ⟨B2, 0, none⟩)]) ∧ R.length = q ∧ rnd ss n R ∧ ChSeq w zs R B1 B2 A1 n k1 A2 q k2 w' := by
  have K := clone_any a n c zs w hn hl h1
  have H2 := Lib.hid h2
  clear h1 h2
  go_enter Try.func16, Try.ntmps16
  go_wp2_with fail
  refine K.mono ?_
  rintro e w1 ⟨v, rfl, hm⟩
  clear K
  obtain ⟨A1, k1, rfl, hk1, _⟩ := hm.slice
  have hnu := hm.numsS rfl
  rw [hn] at hk1 ⊢
  have hb1 := hm.2
  have hs1 := hb1.size
  have hb2 := hb1.alloc hs1 (.cells #[.slice A1 n k1] 22)
  have hs2 := hb2.size
  have K2 := clonei_any a2 n2 c2 ss (w1.alloc (.cells #[.slice A1 n k1] 22)) hn2 hl2 ((H2.out.below hb2).mono hs2)
  obtain ⟨w2, hw2⟩ : ∃ w2, w1.alloc (.cells #[.slice A1 n k1] 22) = w2 := ⟨_, rfl⟩
  have bB1 : Boxed w2 w1.heap.size 22 (.slice A1 n k1) := by rw [← hw2]; exact Boxed.new w1 _ _
  have hn12 : NumsS .u8 w2 (fun b => w.heap.size ≤ b ∧ b < w2.heap.size) A1 zs := by rw [← hw2]; exact hnu.later ((Below.refl _ w1).alloc (Nat.le_refl _) _)
  have hs12 : w2.heap.size = w1.heap.size + 1 := by rw [← hw2]; simp
  rw [hw2] at hb2 hs2 K2
  clear hnu hm hb1
  go_wp2_with fail
  try rw [hw2]
  refine K2.mono ?_
  rintro e w3 ⟨v, rfl, hm3⟩
  clear K2 hw2
  obtain ⟨A2, k2, rfl, hk2, hnn3⟩ := hm3.slice
  have hnu3 := (hm3.numsS rfl).lower hs2
  rw [hn2] at hk2 ⊢
  have hb23 := hm3.2
  have hs3 := hb23.size
  have hb3 := hb2.trans (hb23.mono hs2)
  have hn13 := hn12.later hb23
  have bB13 : Boxed w3 w1.heap.size 22 (.slice A1 n k1) := (hb23.block _ (by omega)).trans bB1
  obtain ⟨w4, hw4⟩ : ∃ w4, w3.alloc (.cells #[.slice A2 n2 k2] 26) = w4 := ⟨_, rfl⟩
  have hb34 : Below w3.heap.size w3 w4 := by rw [← hw4]; exact (Below.refl _ w3).alloc (Nat.le_refl _) _
  have hs34 : w4.heap.size = w3.heap.size + 1 := by rw [← hw4]; simp
  have bB14 : Boxed w4 w1.heap.size 22 (.slice A1 n k1) := (hb34.block _ (by omega)).trans bB13
  have bB24 : Boxed w4 w3.heap.size 26 (.slice A2 n2 k2) := by rw [← hw4]; exact Boxed.new w3 _ _
  have hn14 := hn13.later hb34
  have hn24 := hnu3.later hb34
  have hb4 := hb3.trans (hb34.mono hb3.size)
  have K4 := contains_any w3.heap.size A2 n2 k2 ss w4 hn2 hl2 (hnn3.below hb34)
  have kB1 := bB14.cell
  have kB2 := bB24.cell
  have fB2 := bB24.frozen
  clear hm3 hnu3 hnn3 hb23 hn13 bB13 hb2 hn12 bB1 hb34 hb3
  go_wp2_with fail
  try rw [hw4]
  refine K4.mono ?_
  rintro e w5 ⟨⟨r, rfl, hr⟩, rfl⟩
  clear K4 hw4
  rcases hr with ⟨rfl, hr⟩ | ⟨rfl, hr⟩
  · have HF := Lib.hid (show rnd ss n ss from .inl ⟨hr, rfl⟩)
    have HS := Lib.hid (show ChSeq w zs ss w1.heap.size w3.heap.size A1 n k1 A2 n2 k2 w5 from ⟨by omega, by omega, by omega, by omega, kB1, kB2, hk1, hk2, hn14, hn24, hb4⟩)
    clear hr hn14 hn24 hb4 bB14 bB24
    go_wp2
    go_ret
    exact ⟨w1.heap.size, w3.heap.size, A1, k1, A2, n2, k2, ss, rfl, hn2, HF.out, HS.out⟩
  · have HF := Lib.hid (show rnd ss n [(n : Int)] from .inr ⟨hr, rfl⟩)
    have hb56 : Below w5.heap.size w5 (w5.alloc (.cells #[.int .i64 (n : Int)] 3)) := (Below.refl _ w5).alloc (Nat.le_refl _) _
    have bB25 : Boxed (w5.alloc (.cells #[.int .i64 (n : Int)] 3)) w3.heap.size 26 (.slice A2 n2 k2) := (hb56.block _ (by omega)).trans bB24
    have bB15 : Boxed (w5.alloc (.cells #[.int .i64 (n : Int)] 3)) w1.heap.size 22 (.slice A1 n k1) := (hb56.block _ (by omega)).trans bB14
    have hn15 := hn14.later hb56
    have hbf : Below w.heap.size w ((w5.alloc (.cells #[.int .i64 (n : Int)] 3)).setCell ⟨w3.heap.size, 0, none⟩ (.slice (some ⟨w5.heap.size, 0, none⟩) 1 1)) := (hb4.trans (hb56.mono hb4.size)).setCell (p := ⟨w3.heap.size, 0, none⟩) (by simp only; omega) _
    have hnN : NumsS .i64 ((w5.alloc (.cells #[.int .i64 (n : Int)] 3)).setCell ⟨w3.heap.size, 0, none⟩ (.slice (some ⟨w5.heap.size, 0, none⟩) 1 1)) (fun b => w.heap.size ≤ b ∧ b < ((w5.alloc (.cells #[.int .i64 (n : Int)] 3)).setCell ⟨w3.heap.size, 0, none⟩ (.slice (some ⟨w5.heap.size, 0, none⟩) 1 1)).heap.size) (some ⟨w5.heap.size, 0, none⟩) [(n : Int)] := fun _ => by
      refine ⟨w5.heap.size, 0, rfl, ⟨by omega, by simp [World.setCell]⟩, fun j z hj => ?_⟩
      have h0 := Nums.new .i64 w5 3 [(n : Int)] #[.int .i64 (n : Int)] rfl
      obtain ⟨b, off, e, _, hc⟩ := h0 (by simp)
      injection e with e; injection e with e1 e2; subst e1 e2
      exact (World.cell?_of_block (Below.heap_setCell _ ⟨w3.heap.size, 0, none⟩ _ _ (by simp only; omega))).trans (hc j z hj)
    have hn1F : NumsS .u8 ((w5.alloc (.cells #[.int .i64 (n : Int)] 3)).setCell ⟨w3.heap.size, 0, none⟩ (.slice (some ⟨w5.heap.size, 0, none⟩) 1 1)) (fun b => w.heap.size ≤ b ∧ b < ((w5.alloc (.cells #[.int .i64 (n : Int)] 3)).setCell ⟨w3.heap.size, 0, none⟩ (.slice (some ⟨w5.heap.size, 0, none⟩) 1 1)).heap.size) A1 zs := fun h0 => by
      obtain ⟨b, off, e, hb, hc⟩ := hn15 h0
      refine ⟨b, off, e, ⟨hb.1, by simpa [World.setCell] using hb.2⟩, fun j z hj => ?_⟩
      have h5 := hc j z hj
      refine (World.cell?_of_block (Below.heap_setCell _ ⟨w3.heap.size, 0, none⟩ _ _ (fun e2 => ?_))).trans h5
      simp only at e2
      subst e2
      simp only [World.cell?, show (w5.alloc (.cells #[.int .i64 (n : Int)] 3)).heap[w3.heap.size]? = _ from bB25] at h5
      have : off + j = 0 ∨ 0 < off + j := by omega
      rcases this with h6 | h6
      · rw [h6] at h5; simp at h5
      · rw [show (#[Value.slice A2 n2 k2] : Array Value)[off + j]? = none from by simp; omega] at h5; cases h5
    have kF1 : ((w5.alloc (.cells #[.int .i64 (n : Int)] 3)).setCell ⟨w3.heap.size, 0, none⟩ (.slice (some ⟨w5.heap.size, 0, none⟩) 1 1)).cell? ⟨w1.heap.size, 0, none⟩ = some (.slice A1 n k1) := (bB15.other (by omega) _).cell
    have kF2 := (bB25.set (.slice (some ⟨w5.heap.size, 0, none⟩) 1 1)).cell
    have fB25 := bB25.frozen
    have kB25 := bB25.cell
    have HS := Lib.hid (show ChSeq w zs [(n : Int)] w1.heap.size w3.heap.size A1 n k1 (some ⟨w5.heap.size, 0, none⟩) 1 1 _ from ⟨by omega, by omega, by simp [World.setCell]; omega, by simp [World.setCell]; omega, kF1, kF2, hk1, Nat.le_refl _, hn1F, hnN, hbf⟩)
    rw [World.setCell_alloc_past _ _ _ _ (by omega)] at HS
    rw [hs34] at HS
    clear hr hn14 hn24 hb4 bB14 bB24 hn15 hbf hnN hn1F kF1 kF2 bB25 bB15 hb56
    go_wp2
    go_ret
    exact ⟨w1.heap.size, w3.heap.size, A1, k1, _, 1, 1, [(n : Int)], rfl, rfl, HF.out, HS.out⟩
end Go.Proofs.Ytemafhaeppifoaa
