/-
  Contract of layer 5's Encode.
-/
import Derived.Test.YtljacfhkjhhbgaaCobZ
import Derived.Test.YtljacfhkjhhbgaaApN
import Derived.Laws.MakeOwn
namespace Go.Proofs.Ytljacfhkjhhbgaa
open Go.RowKit Go.Shelf
set_option maxRecDepth 100000
attribute [local go_sem] Oper.semAt_some

theorem byteInfo : (Try.prog.info? 5).map (fun i => (i.zero, i.size, i.bytes)) = some (some (.int .u8 0), 1, 1) := by kernel_rfl
theorem ownFrom_keepS {β : Type} {B : Nat} {w0 : World} {S : Nat → Prop} (hS : ∀ k, S k → k < B) (hB : B ≤ w0.heap.size) : OwnFrom B (fun (_ : β) W => KeepS S w0 W) := by
  intro _ W W' r hs hg hr
  refine ⟨Nat.le_trans hs.1 hg.size, fun k hk => (hg.block k (by have := hS k hk; have := hs.1; omega) (fun e => ?_)).trans (hs.2 k hk)⟩
  have h1 := (hr k e.symm).1
  have := hS k hk
  omega

/-- the set of blocks that the iterator reads -/
def Src2 (base Bs : Nat) (k : Nat) : Prop := k < base ∨ k = Bs

set_option maxHeartbeats 2000000 in
theorem encode_any (a : Option Addr) (n c : Nat) (zs : List Int) (w : World) (hn : zs.length = n) (hc : n ≤ c) (hl : n ≤ 1000000) (hz : Bytes zs) (h1 : Nums .u8 w w.heap.size a zs) :
    Calls Try.prog 7 #[.slice a n c] w fun e w' => ∃ v, e = .returned v ∧ MadeK 5 .u8 w w' (Cb.enc zs) v := by
  obtain ⟨i0, hi, hz0, hz1, hz2⟩ := info_parts byteInfo
  have hE := (Cb.enc_len zs).2.1
  have hmk : ∀ W, (Instr.makeSlice 22 (.int .i64 0) (.int .i64 ((Cb.enc zs).length : Nat))).run Try.prog W = .ok (.slice (some ⟨W.heap.size, 0, none⟩) 0 (Cb.enc zs).length) (W.alloc (.cells (madeCells #[.int .u8 0] (Cb.enc zs).length) 5)) := fun W => by
    have h := run_make (P := Try.prog) W 22 5 i0 (.int .u8 0) Try.underlying22 hi hz0 .i64 .i64 0 ((Cb.enc zs).length : Nat) (by omega) (by omega) (by rw [hz2]; omega) (by omega)
    have hzc : (Value.int .u8 0).cells = #[.int .u8 0] := rfl
    rw [hzc] at h
    simpa [hz1] using h
  have hS := size_any a n c zs w hn hc hl hz h1
  have hN := blocks_many zs
  refine (callsIn_wide (n := 3)).1 ?_
  refine callsIn_of_wp_marks Try.func7 rfl trivial ?_ rfl
  simp only [Try.ntmps7, List.size_toArray, List.length_cons, List.length_nil, Nat.reduceAdd, Nat.reduceSub, Array.replicate_succ, Array.replicate_zero, List.push_toArray, List.append_toArray, List.nil_append, List.cons_append]
  gi_wp2_with fail
  refine ⟨trivial, ?_⟩
  refine (callsIn_wide.2 hS).mono ?_
  rintro e w1 ⟨rfl, hb1⟩
  clear hS
  have hs1 := hb1.size
  have hlitB : Below w.heap.size w (w1.alloc (.cells (madeCells #[.int .u8 0] (Cb.enc zs).length) 5)) := hb1.alloc hs1 _
  have hown0 : (w1.alloc (.cells (madeCells #[.int .u8 0] (Cb.enc zs).length) 5)).ownsRow w.heap.size 5 1 (.slice (some ⟨w1.heap.size, 0, none⟩) 0 (Cb.enc zs).length) 0 [] :=
    World.ownsRow_made w1 _ _ hs1 (by unfold maxLen; omega) (by rw [size_madeCells]; simp)
  have hP := parts_any a n c ((w1.alloc (.cells (madeCells #[.int .u8 0] (Cb.enc zs).length) 5)).alloc (.cells #[.slice (some ⟨w1.heap.size, 0, none⟩) 0 (Cb.enc zs).length] 22))
  gi_wp2_with fail
  refine ⟨trivial, ?_⟩
  refine (callsIn_wide.2 hP).mono ?_
  rintro e w3 ⟨rfl, hw3⟩
  rw [World.size_alloc, World.size_alloc]
  have hsz3 : w3.heap.size = w1.heap.size + 3 := by rw [hw3]; simp
  have bO : Boxed w3 (w1.heap.size + 1) 22 (.slice (some ⟨w1.heap.size, 0, none⟩) 0 (Cb.enc zs).length) := by
    rw [hw3]
    have := (Boxed.new (w1.alloc (.cells (madeCells #[.int .u8 0] (Cb.enc zs).length) 5)) 22 (.slice (some ⟨w1.heap.size, 0, none⟩) 0 (Cb.enc zs).length)).alloc (.cells #[.slice a n c] 22)
    rwa [World.size_alloc] at this
  have bB : Boxed w3 (w1.heap.size + 2) 22 (.slice a n c) := by
    rw [hw3]
    have := Boxed.new ((w1.alloc (.cells (madeCells #[.int .u8 0] (Cb.enc zs).length) 5)).alloc (.cells #[.slice (some ⟨w1.heap.size, 0, none⟩) 0 (Cb.enc zs).length] 22)) 22 (.slice a n c)
    rwa [World.size_alloc, World.size_alloc] at this
  have hrow3 : w3.ownsRow w.heap.size 5 1 (.slice (some ⟨w1.heap.size, 0, none⟩) 0 (Cb.enc zs).length) 0 [] := by rw [hw3]; exact (hown0.alloc _).alloc _
  have hb3 : Below w.heap.size w w3 := by rw [hw3]; exact (hlitB.alloc (by simp; omega) _).alloc (by simp; omega) _
  have hSS : ∀ k, Src2 w.heap.size (w1.heap.size + 2) k → k < w3.heap.size := fun k hk => by unfold Src2 at hk; omega
  have hst := parts_stops 2 (by omega) (w1.heap.size + 2) n c (Src2 w.heap.size (w1.heap.size + 2)) w3 a zs hn hl hz (.inr rfl) hSS hc bB.cell ((h1.below hb3).numsS (fun k hk => .inl hk))
  clear hw3 hP h1 hz hmk hlitB hown0
  gi_wp2_with fail
  refine wpIn_rangeFunc_ownG rfl (by omega) (gf := 22) (lb := #[.pointer (some ⟨w1.heap.size + 2, 0, none⟩)]) rfl trivial (enters_of Try.func22 (by kernel_rfl) rfl)
    hst keepS_t (keepS_b hSS) (Below.refl _ _) (fun _ => rfl)
    (fun pre W' => (∃ v, Boxed W' (w1.heap.size + 1) 22 v ∧ W'.ownsRow w.heap.size 5 1 v (Cb.join (bbare pre)).length ((Cb.join (bbare pre)).map (Value.int .u8)) ∧ True) ∧ Boxed W' (w1.heap.size + 2) 22 (.slice a n c) ∧ Below w.heap.size w W' ∧ KeepS (Src2 w.heap.size (w1.heap.size + 2)) w3 W')
    (fun _ _ _ => False)
    (OwnFrom.and (Own.from (holdsRow_own _ _ _ _ _ _ _ (fun _ _ => True)) _) (OwnFrom.and (Own.from (boxed_own _ _ _) _) (OwnFrom.and (ownFrom_below (Nat.le_refl _) (by omega)) (ownFrom_keepS hSS (Nat.le_refl _)))))
    (fun _ _ _ _ _ h _ _ => h)
    ⟨⟨_, bO, hrow3, trivial⟩, bB, hb3, KeepS.refl _ _⟩
    ?a1 ?assign ?body ?done ?stop
  case assign =>
    intro l x W' K hK
    gi_wp2
    exact hK
  case body =>
    rintro l pre x W' ⟨⟨v, hO, hR, _⟩, hB, hbe, hKe⟩ hcnt
    have kO := hO.cell
    have fO := hO.frozen
    have hx := x.2.2.2
    have hm := join_most pre
    have hlt : (Cb.join (bbare pre)).length ≤ 1000000000 := by omega
    have hsW := hbe.size
    have hnx := x.2.1
    have hj := join_size (bbare pre) x.1.2
    have hjs : Cb.join (bbare (pre ++ [x])) = (Cb.join (bbare pre) ++ [(x.1.2.length : Int) + 1]) ++ x.1.2 := by
      rw [bbare_append, Cb.join_append, show bbare [x] = [x.1.2] from rfl]
      simp [Cb.join, Cb.one]
    have HJ := Lib.hid hjs
    have HN1 := Lib.hid (Nums.new .u8 W' 5 [(x.1.2.length : Int) + 1] #[.int .u8 ((x.1.2.length : Int) + 1)] rfl)
    have hSB : ∀ k, Src2 w.heap.size (w1.heap.size + 2) k → k < w.heap.size ∨ k = w1.heap.size + 2 := fun k hk => hk
    have HA := Lib.hid (fun v1 w4 hown hg => box_appended (t := 22) (e := 5) (v' := v1) (w1 := w4) (m := (Cb.join (bbare pre)).length + 1) (ys := (Cb.join (bbare pre)).map (Value.int .u8) ++ [(x.1.2.length : Int) + 1].map (Value.int .u8)) hO hB (by omega) (by decide) hR hsW (by omega) hSB hown hg)
    have HKe := Lib.hid hKe
    have HB := Lib.hid hbe
    have HR := Lib.hid hR
    clear hst bO bB hrow3 hb3 hm hjs hKe hbe hR
    gi_wp2_with (gi_at_builtin; refine wpListIn_append_any rfl (.tmp 11) (.tmp 16) 22 rfl w.heap.size 5 i0 (.int .u8 0) 1 Try.underlying22 hi hz0 hz1 hz2 rfl .u8 _ _ [(x.1.2.length : Int) + 1] v rfl (HR.out.alloc _) (some ⟨W'.heap.size, 0, none⟩) 1 1 _ rfl rfl HN1.out ?c1 ?c2 ?c3 ?_)
    case c1 => unfold maxLen; omega
    case c2 => omega
    case c3 => rw [World.size_alloc]; omega
    intro v1 w4 hown1 hg1
    obtain ⟨g1, cap1, rfl⟩ := ownsRow_succ hown1
    obtain ⟨hO4, hA4⟩ := HA.out _ _ hown1 (grown_of_alloc hg1)
    have kO4 := hO4.cell
    have fO4 := hO4.frozen
    have kO5 := hA4.out.cell
    have fO5 := hA4.out.frozen
    have hN5 := (hnx.keeps (HKe.out.trans hA4.keep)).nums hSS
    have hs5 := hA4.below.size
    have HA5 := Lib.hid (fun v2 w6 hown hg => box_appended (t := 22) (e := 5) (v' := v2) (w1 := w6) (m := (Cb.join (bbare pre)).length + 1 + x.1.2.length) (ys := ((Cb.join (bbare pre)).map (Value.int .u8) ++ [(x.1.2.length : Int) + 1].map (Value.int .u8)) ++ x.1.2.map (Value.int .u8)) hA4.out hA4.src (by omega) (by decide) hA4.row (by omega) (by omega) hSB hown hg)
    have HR5 := Lib.hid hA4.row
    have H4 := Lib.hid hA4
    clear hown1 hg1 HA HN1 hO4 hA4
    gi_wp2_with (gi_at_builtin; refine wpListIn_append_any rfl (.tmp 18) (.tmp 19) 22 rfl w.heap.size 5 i0 (.int .u8 0) 1 Try.underlying22 hi hz0 hz1 hz2 rfl .u8 _ _ x.1.2 _ rfl HR5.out x.1.1 _ _ _ rfl rfl hN5 ?d1 ?d2 ?d3 ?_)
    case d1 => unfold maxLen; omega
    case d2 => omega
    case d3 => omega
    intro v2 w6 hown2 hg2
    have HO := Lib.hid hown2
    rw [show (Cb.join (bbare pre)).length + 1 + x.1.2.length = ((Cb.join (bbare pre)).length + x.1.2.length) + 1 by omega] at hown2
    obtain ⟨g2, cap2, rfl⟩ := ownsRow_succ hown2
    obtain ⟨hO6, hA6⟩ := HA5.out _ _ (by simpa using HO.out) hg2
    have kO6 := hO6.cell
    have fO6 := hO6.frozen
    have HF := Lib.hid hA6
    clear hown2 hg2 HA5 HO hO6 hA6
    gi_wp2
    refine ⟨(H4.out.others.trans HF.out.others).from _, H4.out.keep.trans HF.out.keep, ⟨_, HF.out.out, ?_, trivial⟩, HF.out.src, HB.out.trans (H4.out.below.trans HF.out.below), HKe.out.trans (H4.out.keep.trans HF.out.keep)⟩
    have := HF.out.row
    have e1 : (Cb.join (bbare pre) ++ [(x.1.2.length : Int) + 1] ++ x.1.2).length = (Cb.join (bbare pre)).length + 1 + x.1.2.length := by simp; omega
    have e2 : (Cb.join (bbare pre) ++ [(x.1.2.length : Int) + 1] ++ x.1.2).map (Value.int .u8) = ((Cb.join (bbare pre)).map (Value.int .u8) ++ [(x.1.2.length : Int) + 1].map (Value.int .u8)) ++ x.1.2.map (Value.int .u8) := by simp
    rw [HJ.out, e1, e2]
    exact this
  case done =>
    rintro D ys W' hD hY ⟨⟨v, hO, hR, _⟩, hB, hbe, hKe⟩ hK
    rw [hY] at hR
    have kO := hO.cell
    have hfin := Lib.hid (show MadeK 5 .u8 w (W'.putObj D (.deferred none)) (Cb.enc zs) v from ⟨ownsRow_putObj hR _ hK rfl, hbe.trans (belowK_b (w := w) (Nat.le_refl _) W' D _ (.deferred none) (by omega) hK rfl rfl)⟩)
    clear hst bO bB hrow3 hb3 hR hbe hKe hO
    gi_wp2
    refine ⟨by simp, .inl ⟨_, _, rfl, run_takeDeferred hK, ?_⟩⟩
    refine ⟨_, results_tmp rfl _ _ _, ?_⟩
    exact ⟨v, rfl, hfin.out⟩
  case stop =>
    rintro D cd pre W' _ _ h _
    exact h.elim
end Go.Proofs.Ytljacfhkjhhbgaa
