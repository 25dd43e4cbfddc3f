/-
  Contract of layer 5's Size.
-/
import Derived.Test.YtljacfhkjhhbgaaCobP
import Derived.RangeFuncBox
import Derived.RangeFuncWrites
import Derived.OpenShut
namespace Go.Proofs.Ytljacfhkjhhbgaa
open Go.RowKit Go.Shelf
set_option maxRecDepth 100000
attribute [local go_sem] Oper.semAt_some

/-! ### only one block has turned -/
theorem ownFrom_grown {β : Type} {B : Nat} {w0 : World} {row : Nat} (hB : B = w0.heap.size) : OwnFrom B (fun (_ : β) W => w0.grownBy W (some row)) := by
  subst hB
  intro _ W W' r hs hg hr
  refine ⟨hg.os.trans hs.os, hg.tape.trans hs.tape, hg.output.trans hs.output, Nat.le_trans hs.size hg.size, fun k hk hne => ?_⟩
  refine (hg.block k (Nat.lt_of_lt_of_le hk hs.size) (fun e => ?_)).trans (hs.block k hk hne)
  have := (hr k e.symm).1
  omega
theorem grown_boxed {w0 W : World} {row b : Nat} {t : TypeId} {v : Value} (h : w0.grownBy W (some row)) (hb : Boxed w0 b t v) (hne : b ≠ row) : Boxed W b t v := hb.kept h (fun e => by injection e with e; exact hne e)
theorem grown_below {w0 W : World} {row B : Nat} (h : w0.grownBy W (some row)) (hB : B ≤ w0.heap.size) (hr : B ≤ row) : Below B w0 W := (Below.refl B w0).grown h hB (fun k e => by injection e with e; omega)
theorem grown_set {w0 W : World} {row : Nat} (h : w0.grownBy W (some row)) (v : Value) : w0.grownBy (W.setCell ⟨row, 0, none⟩ v) (some row) :=
  ⟨h.os, h.tape, h.output, by simpa [World.setCell] using h.size, fun k hk hne => (Below.heap_setCell W ⟨row, 0, none⟩ v k (fun e => hne (by simp at e; rw [e]))).trans (h.block k hk hne)⟩

theorem join_size (bs : List (List Int)) (b : List Int) : (Cb.join (bs ++ [b])).length = (Cb.join bs).length + (1 + b.length) := by
  rw [Cb.join_append, List.length_append]
  simp [Cb.join, Cb.one]
  omega
theorem join_most {w : World} {S : Nat → Prop} (pre : List (Blk w S)) : (Cb.join (bbare pre)).length ≤ 255 * pre.length := by
  induction pre with
  | nil => simp [bbare, Cb.join]
  | cons x pre ih =>
    have h : (Cb.join (bbare (x :: pre))).length = (x.1.2.length + 1) + (Cb.join (bbare pre)).length := by simp [bbare, Cb.join, Cb.one]; omega
    have hx := x.2.2.2
    rw [h, List.length_cons]
    omega
theorem blocks_most (bs : List (List Int)) : bs.length ≤ (Cb.join bs).length := by
  induction bs with
  | nil => simp
  | cons b bs ih =>
    have h : (Cb.join (b :: bs)).length = (b.length + 1) + (Cb.join bs).length := by simp [Cb.join, Cb.one]; omega
    rw [h, List.length_cons]
    omega
theorem blocks_many (zs : List Int) : (Cb.blocks zs).length ≤ 2 * zs.length + 1 := by
  have h1 := blocks_most (Cb.blocks zs)
  have h2 := (Cb.enc_len zs).2.1
  have h3 : Cb.join (Cb.blocks zs) = Cb.enc zs := rfl
  rw [h3] at h1
  omega

set_option maxHeartbeats 1000000 in
theorem size_any (a : Option Addr) (n c : Nat) (zs : List Int) (w : World) (hn : zs.length = n) (hc : n ≤ c) (hl : n ≤ 1000000) (hz : Bytes zs) (h1 : Nums .u8 w w.heap.size a zs) :
    Calls Try.prog 11 #[.slice a n c] w fun e w' => e = .returned (.int .i64 ((Cb.enc zs).length : Nat)) ∧ Below w.heap.size w w' := by
  have hP := parts_any a n c (w.alloc (.cells #[.int .i64 0] 3))
  have hN := blocks_many zs
  refine (callsIn_wide (n := 3)).1 ?_
  refine callsIn_of_wp_marks Try.func11 rfl trivial ?_ rfl
  simp only [Try.ntmps11, List.size_toArray, List.length_cons, List.length_nil, Nat.reduceAdd, Nat.reduceSub, Array.replicate_succ, Array.replicate_zero, List.push_toArray, List.append_toArray, List.nil_append, List.cons_append]
  gi_wp2_with fail
  refine ⟨trivial, ?_⟩
  refine (callsIn_wide.2 hP).mono ?_
  rintro e w1 ⟨rfl, hw1⟩
  rw [World.size_alloc]
  have hs2 : w1.heap.size = w.heap.size + 2 := by rw [hw1]; simp
  have bB : Boxed w1 (w.heap.size + 1) 22 (.slice a n c) := by
    have := Boxed.new (w.alloc (.cells #[.int .i64 0] 3)) 22 (.slice a n c)
    rw [World.size_alloc] at this; rw [hw1]; exact this
  have bS : Boxed w1 w.heap.size 3 (.int .i64 ((Cb.join (bbare ([] : List (Blk w1 (fun k => k < w.heap.size ∨ k = w.heap.size + 1))))).length : Nat)) := by
    rw [hw1]; exact (Boxed.new w 3 (.int .i64 0)).alloc _
  have hb1 : Below w.heap.size w w1 := by rw [hw1]; exact ((Below.refl _ w).alloc (Nat.le_refl _) _).alloc (by simp) _
  have hst := parts_stops 2 (by omega) (w.heap.size + 1) n c (fun k => k < w.heap.size ∨ k = w.heap.size + 1) w1 a zs hn hl hz (.inr rfl) (fun k hk => by omega) hc bB.cell ((h1.below hb1).numsS (fun k hk => .inl hk))
  clear hw1 hP h1 bB hz
  gi_wp2_with fail
  refine wpIn_rangeFunc_ownG rfl (by omega) (gf := 22) (lb := #[.pointer (some ⟨w.heap.size + 1, 0, none⟩)]) rfl trivial (enters_of Try.func22 (by kernel_rfl) rfl)
    hst keepS_t (keepS_b (fun k hk => by omega)) (Below.refl _ _) (fun _ => rfl)
    (fun pre W' => Boxed W' w.heap.size 3 (.int .i64 ((Cb.join (bbare pre)).length : Nat)) ∧ w1.grownBy W' (some w.heap.size))
    (fun _ _ _ => False)
    (OwnFrom.and (Own.from (boxed_own _ _ _) _) (ownFrom_grown rfl))
    (fun _ _ _ _ _ h _ _ => h)
    ⟨bS, World.grownBy.refl _ _⟩
    ?a1 ?assign ?body ?done ?stop
  case assign =>
    intro l x W' K hK
    gi_wp2
    exact hK
  case body =>
    rintro l pre x W' ⟨hI, hG⟩ hcnt
    have kS := hI.cell
    have fS := hI.frozen
    have hx := x.2.2.2
    have hm := join_most pre
    have hj := join_size (bbare pre) x.1.2
    have hlt : (Cb.join (bbare pre)).length ≤ 1000000000 := by omega
    have HJ : Hid (((Cb.join (bbare (pre ++ [x]))).length : Int) = ((Cb.join (bbare pre)).length : Int) + (1 + (x.1.2.length : Int))) := by
      show _ = _
      rw [bbare_append, show bbare [x] = [x.1.2] from rfl, hj]
      omega
    have hfin : ∀ v, Hid (KeepsFrom w1.heap.size W' (W'.setCell ⟨w.heap.size, 0, none⟩ v) ∧ KeepS (fun k => k < w.heap.size ∨ k = w.heap.size + 1) W' (W'.setCell ⟨w.heap.size, 0, none⟩ v) ∧
        Boxed (W'.setCell ⟨w.heap.size, 0, none⟩ v) w.heap.size 3 v ∧ w1.grownBy (W'.setCell ⟨w.heap.size, 0, none⟩ v) (some w.heap.size)) := fun v =>
      ⟨(KeepsOthers.setCell _ _ _).from _, (KeepS.refl _ _).set (by omega) _, hI.set _, grown_set hG _⟩
    generalize (Cb.join (bbare pre)).length = J at *
    clear hI hG hm hj hst bS
    gi_wp2
    exact ⟨(hfin _).out.1, (hfin _).out.2.1, by rw [HJ.out]; exact (hfin _).out.2.2.1, (hfin _).out.2.2.2⟩
  case done =>
    rintro D ys W' hD hY ⟨hI, hG⟩ hK
    rw [hY] at hI
    have kS := hI.cell
    have hB := (hb1.trans (grown_below hG (by omega) (by omega))).trans (belowK_b (w := w) (Nat.le_refl _) W' D _ (.deferred none) (by omega) hK rfl rfl)
    clear hst bS hb1 hI
    gi_wp2
    refine ⟨by simp, .inl ⟨_, _, rfl, run_takeDeferred hK, ?_⟩⟩
    exact ⟨_, results_tmp rfl _ _ _, rfl, hB⟩
  case stop =>
    rintro D cd pre W' _ _ h _
    exact h.elim
end Go.Proofs.Ytljacfhkjhhbgaa
