/-
  Contract of the closure by which a lens reads a word.
-/
import Derived.Test.YtmmffifndheafaaDoorBack
import Derived.Test.YtmmffifndheafaaDoorClos
import Derived.RangeFuncBox
import Derived.IntWalk
import Derived.RangeFuncWrites
namespace Go.Proofs.YtmmffifndheafaaDoor
open Go.RowKit Go.Shelf
set_option maxRecDepth 100000
attribute [local go_sem] Oper.semAt_some

theorem le_snoc_rev (L : List Int) (c : Int) : le (L ++ [c]).reverse = c + 256 * le L.reverse := by simp [le]
theorem bytesOf_bound (pre : List PB) : ∀ c ∈ (bytesOf pre).reverse, 0 ≤ c ∧ c ≤ 255 := by
  intro c hc
  simp only [bytesOf, List.mem_reverse, List.mem_map] at hc
  obtain ⟨x, _, rfl⟩ := hc
  exact x.2.2

set_option maxHeartbeats 4000000 in
/-- what the loop over the bytes that part gave makes: for those of a word, and for none -/
theorem wordc_go (a : Option Addr) (n cap c : Nat) (z : List Int) (m e : Int) (az : Option Addr) (nz cz : Nat) (w : World) (hcl : c < w.heap.size) (hc : w.cell? ⟨c, 0, none⟩ = some (.int .i64 m))
    (HP : ∀ w, Calls Tryd.prog 38 #[.slice a n cap, .int .i64 m] w fun r w' => r = .returned (.tuple #[.slice az nz cz, .int .i64 e]) ∧ w = w')
    (hzn : z.length = nz) (hz4 : nz ≤ 4) (hzb : ∀ x ∈ z, 0 ≤ x ∧ x ≤ 255) (hzm : Nums .u8 w w.heap.size az z) :
    Calls Tryd.prog 37 #[.slice a n cap, .pointer (some ⟨c, 0, none⟩)] w fun r w' => r = .returned (.tuple #[.int .u32 (le z), .int .i64 nz, .int .i64 e]) ∧ Below w.heap.size w w' := by
  refine (callsIn_wide (n := 3)).1 ?_
  refine callsIn_of_wp_marks Tryd.func37 rfl trivial ?_ rfl
  simp only [Tryd.ntmps37, List.size_toArray, List.length_cons, List.length_nil, Nat.reduceAdd, Nat.reduceSub, Array.replicate_succ, Array.replicate_zero, List.push_toArray, List.append_toArray, List.nil_append, List.cons_append]
  have hW0 : Below w.heap.size w (w.alloc (.cells #[.int .u32 0] 22)) := (Below.refl _ w).alloc (Nat.le_refl _) _
  have bC := Boxed.new w 22 (.int .u32 0)
  have hcW : (w.alloc (.cells #[.int .u32 0] 22)).cell? ⟨c, 0, none⟩ = some (.int .i64 m) := (hW0.cell (p := ⟨c, 0, none⟩) hcl).trans hc
  have hsz : (w.alloc (.cells #[.int .u32 0] 22)).heap.size = w.heap.size + 1 := by simp
  have hzW : Nums .u8 (w.alloc (.cells #[.int .u32 0] 22)) w.heap.size az z := hzm.below hW0
  gi_wp2_with fail
  refine ⟨trivial, ?_⟩
  generalize w.alloc (.cells #[.int .u32 0] 22) = W0 at *
  refine (callsIn_wide.2 (HP W0)).mono ?_
  rintro e w1 ⟨rfl, rfl⟩
  gi_wp2_with fail
  refine ⟨trivial, ?_⟩
  refine (callsIn_wide.2 (back_any az nz cz W0)).mono ?_
  rintro e w1 ⟨rfl, rfl⟩
  gi_wp2_with fail
  have hb1 : Below W0.heap.size W0 (W0.alloc (.cells #[.slice az nz cz] 25)) := (Below.refl _ W0).alloc (Nat.le_refl _) _
  have hbox : (W0.alloc (.cells #[.slice az nz cz] 25)).cell? ⟨W0.heap.size, 0, none⟩ = some (.slice az z.length cz) := by rw [hzn]; simp
  have kC := bC.alloc (.cells #[.slice az nz cz] 25)
  have hz1 := hzW.below (hb1.mono (by omega))
  have hs1 : (W0.alloc (.cells #[.slice az nz cz] 25)).heap.size = w.heap.size + 2 := by simp; omega
  have hbw := hW0.trans (hb1.mono hW0.size)
  generalize W0.alloc (.cells #[.slice az nz cz] 25) = w1 at *
  rw [hsz] at hbox
  refine wpIn_rangeFunc_ownG rfl (by omega) (gf := 46) (lb := #[.pointer (some ⟨(w.heap.size + 1), 0, none⟩)]) rfl trivial (enters_of Tryd.func46 (by kernel_rfl) rfl)
    (back_stops _ (by decide) (fun k => k < w.heap.size ∨ k = (w.heap.size + 1)) w1 z (w.heap.size + 1) cz az (by omega) hzb (by omega) (.inr rfl) hbox (hz1.toS (fun b hb => .inl hb))) kept_t (kept_b (by omega)) (Below.refl _ _) (fun _ => rfl)
    (fun pre W => Boxed W w.heap.size 22 (.int .u32 (le (bytesOf pre).reverse)) ∧ Below w.heap.size w W)
    (fun _ _ _ => False)
    (OwnFrom.and (Own.from (boxed_own _ _ _) _) (ownFrom_below (Nat.le_refl _) (by omega)))
    (fun _ _ _ _ _ hs _ _ => hs)
    ⟨kC, hbw⟩
    ?a1 ?assign ?body ?done ?stop
  case assign =>
    intro l x W K hK
    gi_wp2
    exact hK
  case body =>
    rintro l pre x W ⟨hC, hB⟩ hcnt
    obtain ⟨⟨x1, x2⟩, hx1, hx2, hx3⟩ := x
    simp only at hx1 hx2 hx3
    have hcC := hC.cell
    have hfC := hC.frozen
    have hN0 := le_bound (bytesOf_bound pre)
    have hlen : (bytesOf pre).reverse.length ≤ 3 := by rw [List.length_reverse, bytesOf_length]; omega
    have hN1 : le (bytesOf pre).reverse < 16777216 := by
      have h2 : (256 : Int) ^ (bytesOf pre).reverse.length ≤ 16777216 := by
        generalize (bytesOf pre).reverse.length = q at hlen
        match q, hlen with
        | 0, _ => decide
        | 1, _ => decide
        | 2, _ => decide
        | 3, _ => decide
      omega
    have hnext : Hid (le (bytesOf (pre ++ [(⟨(x1, x2), hx1, hx2, hx3⟩ : PB)])).reverse = bits .or .u32 (IntKind.u32.wrap (le (bytesOf pre).reverse * 256)) x2) := by
      show _ = _
      rw [or_shift _ _ hN0.1 hN1 hx2 hx3, bytesOf_append, show bytesOf [(⟨(x1, x2), hx1, hx2, hx3⟩ : PB)] = [x2] from rfl, le_snoc_rev]
    have hfin := Lib.hid (show KeepsFrom w1.heap.size W (W.setCell ⟨w.heap.size, 0, none⟩ (.int .u32 (bits .or .u32 (IntKind.u32.wrap (le (bytesOf pre).reverse * 256)) x2))) ∧ KeepS (fun k => k < w.heap.size ∨ k = (w.heap.size + 1)) W (W.setCell ⟨w.heap.size, 0, none⟩ (.int .u32 (bits .or .u32 (IntKind.u32.wrap (le (bytesOf pre).reverse * 256)) x2))) ∧ Boxed (W.setCell ⟨w.heap.size, 0, none⟩ (.int .u32 (bits .or .u32 (IntKind.u32.wrap (le (bytesOf pre).reverse * 256)) x2))) w.heap.size 22 (.int .u32 (bits .or .u32 (IntKind.u32.wrap (le (bytesOf pre).reverse * 256)) x2)) ∧ Below w.heap.size w (W.setCell ⟨w.heap.size, 0, none⟩ (.int .u32 (bits .or .u32 (IntKind.u32.wrap (le (bytesOf pre).reverse * 256)) x2))) from
      ⟨(KeepsOthers.setCell _ _ _).from _, kept_set (KeepS.refl _ _) (by omega) _ _, hC.set _, hB.setCell (p := ⟨w.heap.size, 0, none⟩) (Nat.le_refl _) _⟩)
    clear hC hB kC hbw hzm hzW hz1 hN0 hN1 hlen hcnt
    generalize le (bytesOf pre).reverse = N at *
    gi_wp2
    exact ⟨hfin.out.1, hfin.out.2.1, by rw [hnext.out]; exact hfin.out.2.2.1, hfin.out.2.2.2⟩
  case done =>
    rintro D ys W hD hY ⟨hC, hB⟩ hK
    rw [hY, List.reverse_reverse] at hC
    have hcC := hC.cell
    have hBK := hB.trans (belowK_b (w := w) (Nat.le_refl _) W D _ (.deferred none) (by omega) hK rfl rfl)
    clear hY hC kC
    gi_wp2
    refine ⟨by simp, .inl ⟨_, _, rfl, run_takeDeferred hK, ?_⟩⟩
    exact ⟨_, results_tmp3 rfl _ _ _, rfl, hBK⟩
  case stop =>
    rintro D c pre W _ _ h _
    exact h.elim

theorem wordc_any (a : Option Addr) (n cap c : Nat) (l : List Int) (m : Nat) (w : World) (hn : l.length = n) (hnc : n ≤ cap) (hm : m ≤ 4) (hz : ∀ x ∈ l, 0 ≤ x ∧ x ≤ 255) (h1 : Nums .u8 w w.heap.size a l) (hcl : c < w.heap.size) (hc : w.cell? ⟨c, 0, none⟩ = some (.int .i64 m)) :
    Calls Tryd.prog 37 #[.slice a n cap, .pointer (some ⟨c, 0, none⟩)] w fun r w' => ClosI .u32 (wordR l m) r ∧ Below w.heap.size w w' := by
  by_cases hmore : n < m
  · have HR : wordR l m = (0, 0, 4) := by unfold wordR; rw [if_pos (by omega)]
    refine (wordc_go a n cap c [] m 4 none 0 0 w hcl hc (fun w => part_more a n cap m w (by omega)) rfl (by decide) (by simp) Nums.nil).mono ?_
    rintro r w' ⟨rfl, hb⟩
    exact ⟨ClosI.bad (by rw [HR]; decide) (by rw [HR]; rfl), hb⟩
  · have HR : wordR l m = (le (l.take m), m, 0) := by unfold wordR; rw [if_neg (by omega)]
    refine (wordc_go a n cap c (l.take m) m 0 a m m w hcl hc (fun w => by have h := part_ok a n cap m w (by omega) (by omega) hnc; rwa [Int.toNat_natCast] at h) (by rw [List.length_take]; omega) hm (fun x hx => hz x (List.mem_of_mem_take hx)) (h1.take m)).mono ?_
    rintro r w' ⟨rfl, hb⟩
    exact ⟨by rw [HR]; exact ClosI.ok rfl rfl rfl, hb⟩
end Go.Proofs.YtmmffifndheafaaDoor
