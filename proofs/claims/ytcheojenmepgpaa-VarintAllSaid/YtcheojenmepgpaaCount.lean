/-
  The contract of varint.Count of layer 1.
-/
import Derived.Test.YtcheojenmepgpaaSeq
import Derived.Test.YtcheojenmepgpaaLeaf
import Derived.RangeFuncBox
import Derived.IntWalk
import Derived.RangeFuncWrites
namespace Go.Proofs.Ytcheojenmepgpaa
open Go.RowKit Go.Shelf
set_option maxRecDepth 100000
attribute [local go_sem] Oper.semAt_some

theorem keeps_set {lo hi : Nat} {W W' : World} {C : Nat} (h : Keeps lo hi W W') (hC : C < lo) (v : Value) : Keeps lo hi W (W'.setCell ⟨C, 0, none⟩ v) :=
  h.trans ⟨by simp [World.setCell], fun k h1 _ => Below.heap_setCell W' ⟨C, 0, none⟩ v k (by simp; omega)⟩
theorem two_set {w W : World} {t : TypeId} {B lo hi C E : Nat} {v u : Value} (v' u' : Value) (hC : Boxed W C t v) (hE : Boxed W E t u) (hne : C ≠ E) (h1 : C < lo) (h2 : E < lo) (h3 : w.heap.size ≤ C) (h4 : w.heap.size ≤ E) (hB : Below w.heap.size w W) :
    KeepsFrom B W ((W.setCell ⟨C, 0, none⟩ v').setCell ⟨E, 0, none⟩ u').drew ∧ Keeps lo hi W ((W.setCell ⟨C, 0, none⟩ v').setCell ⟨E, 0, none⟩ u').drew ∧
    Boxed ((W.setCell ⟨C, 0, none⟩ v').setCell ⟨E, 0, none⟩ u').drew C t v' ∧ Boxed ((W.setCell ⟨C, 0, none⟩ v').setCell ⟨E, 0, none⟩ u').drew E t u' ∧ Below w.heap.size w ((W.setCell ⟨C, 0, none⟩ v').setCell ⟨E, 0, none⟩ u').drew :=
  ⟨(((KeepsOthers.setCell _ _ _).trans (KeepsOthers.setCell _ _ _)).trans (KeepsOthers.drew _)).from _, keeps_set (keeps_set (Keeps.refl lo hi W) h1 v') h2 u',
    (hC.set v').other hne u', (hE.other (Ne.symm hne) v').set u', ((hB.setCell (p := ⟨C, 0, none⟩) h3 _).setCell (p := ⟨E, 0, none⟩) h4 _).drew⟩

set_option maxHeartbeats 4000000 in
theorem count_any (a : Option Addr) (cap n : Nat) (zs : List Int) (w : World) (hn : zs.length = n) (hcap : n ≤ cap) (hl : zs.length ≤ 1000000) (hz : ∀ c ∈ zs, 0 ≤ c ∧ c ≤ 255) (h1 : Nums .u8 w w.heap.size a zs) :
    Calls Try.prog 20 #[.slice a n cap] w fun e w' => e = .returned (.tuple #[.int .i64 (Vi.tl zs 0).length, .int .i64 (Vi.er zs)]) ∧ Below w.heap.size w w' := by
  refine (callsIn_wide (n := 3)).1 ?_
  refine callsIn_of_wp_marks Try.func20 rfl trivial ?_ rfl
  simp only [Try.ntmps20, List.size_toArray, List.length_cons, List.length_nil, Nat.reduceAdd, Nat.reduceSub, Array.replicate_succ, Array.replicate_zero, List.push_toArray, List.append_toArray, List.nil_append, List.cons_append]
  gi_wp2_with fail
  refine ⟨trivial, ?_⟩
  have hW0 : Below w.heap.size w ((w.alloc (.cells #[.int .i64 0] 3)).alloc (.cells #[.int .i64 0] 3)) := ((Below.refl _ w).alloc (Nat.le_refl _) _).alloc (by simp) _
  have bC := (Boxed.new w 3 (.int .i64 0)).alloc (.cells #[.int .i64 0] 3)
  have bE := Boxed.new (w.alloc (.cells #[.int .i64 0] 3)) 3 (.int .i64 0)
  rw [World.size_alloc] at bE
  have hsz : ((w.alloc (.cells #[.int .i64 0] 3)).alloc (.cells #[.int .i64 0] 3)).heap.size = w.heap.size + 2 := by simp
  generalize (w.alloc (.cells #[.int .i64 0] 3)).alloc (.cells #[.int .i64 0] 3) = W0 at *
  refine (callsIn_wide.2 (all_any _ _ _ zs W0 hn hl ((h1.below hW0).mono hW0.size))).mono ?_
  rintro e w1 ⟨Bs, A, c, rfl, hs⟩
  have hb1 := hs.below
  have kC : Boxed w1 w.heap.size 3 (.int .i64 0) := (hb1.block _ (by omega)).trans bC
  have kE : Boxed w1 (w.heap.size + 1) 3 (.int .i64 0) := (hb1.block _ (by omega)).trans bE
  have hbw := hW0.trans (hb1.mono hW0.size)
  have h1s := hb1.size
  clear bC bE
  gi_wp2_with fail
  refine wpIn_rangeFunc_ownG rfl (by omega) (gf := 23) (lb := #[.pointer (some ⟨Bs, 0, none⟩)]) rfl trivial (enters_of Try.func23 (by kernel_rfl) rfl)
    (closure_stops _ (by omega) W0 w1 zs Bs c A hl hz hs) keeps_t (keeps_b (Nat.le_refl _)) (Below.refl _ _) (fun _ => rfl)
    (fun pre W => Boxed W w.heap.size 3 (.int .i64 (pre.length : Nat)) ∧ Boxed W (w.heap.size + 1) 3 (.int .i64 (Vi.after (bare pre) : Nat)) ∧ Below w.heap.size w W)
    (fun _ _ _ => False)
    (OwnFrom.and (Own.from (boxed_own _ _ _) _) (OwnFrom.and (Own.from (boxed_own _ _ _) _) (ownFrom_below (Nat.le_refl _) (by omega))))
    (fun _ _ _ _ _ hs _ _ => hs)
    ⟨kC, kE, hbw⟩
    ?a1 ?assign ?body ?done ?stop
  case assign =>
    intro l x W K hK
    gi_wp2
    exact hK
  case body =>
    rintro l pre x W ⟨hC, hE, hB⟩ hcnt
    have hd : 1 ≤ 3 - 1 - 1 := by omega
    have hmx : Try.prog.follows .mixedOrders = true := by kernel_rfl
    obtain ⟨⟨x1, x2⟩, hx1, hx2⟩ := x
    simp only at hx1 hx2
    have hN := Vi.tl_length zs 0
    have hsz := size_any (x2 : Int)
    rw [Int.toNat_natCast] at hsz
    have h10 := Vi.enc_le10 (n := x2) (by omega)
    have hcC := hC.cell
    have hfC := hC.frozen
    have hcE := hE.cell
    have hfE := hE.frozen
    have HS := Lib.hid hsz
    clear hsz
    have e1 : IntKind.i64.wrap ((pre.length : Int) + 1) = (pre.length : Int) + 1 := IntWalk.i64_in _ (by omega)
    have e2 : IntKind.i64.wrap ((x1 : Int) + ((Vi.enc x2).length : Int)) = (x1 : Int) + ((Vi.enc x2).length : Int) := IntWalk.i64_in _ (by omega)
    have hfin := Lib.hid (two_set (lo := W0.heap.size) (hi := w1.heap.size) (B := w1.heap.size) (.int .i64 ((pre.length : Int) + 1)) (.int .i64 ((x1 : Int) + ((Vi.enc x2).length : Int))) hC hE (by omega) (by omega) (by omega) (Nat.le_refl _) (by omega) hB)
    have HSq := Lib.hid hs
    have q1 : (pre ++ [(⟨(x1, x2), hx1, hx2⟩ : PN)]).length = pre.length + 1 := by simp
    have q2 : Vi.after (bare (pre ++ [(⟨(x1, x2), hx1, hx2⟩ : PN)])) = x1 + (Vi.enc x2).length := by rw [bare_append]; exact Vi.after_snoc _ _
    have Q1 := Lib.hid q1
    have Q2 := Lib.hid q2
    clear q1 q2
    clear hs kC kE hbw h1s hb1 hW0 hz h1 hN h10 hcnt
    gi_wp2
    gi_region_with_o (refine ⟨trivial, ?_⟩; gi_at_call 14; refine (CallsIn.inRound l (callsIn_wide.2 (HS.out _ (by omega) (by omega)))).mono ?_; rintro e w' ⟨rfl, rfl⟩)
    all_goals gi_wp2
    all_goals exact ⟨hfin.out.1, hfin.out.2.1, by rw [Q1.out]; exact hfin.out.2.2.1, by rw [Q2.out]; exact hfin.out.2.2.2.1, hfin.out.2.2.2.2⟩
  case done =>
    rintro D ys W hD hY ⟨hC, hE, hB⟩ hK
    obtain ⟨q, hq, hbad⟩ := Vi.gone_full hz
    have hys : ys.length = (Vi.tl zs 0).length := by rw [← hY, bare_length]
    rw [hY, hq.2.2.2] at hE
    rw [hys] at hC
    have hcC := hC.cell
    have hcE := hE.cell
    have hq1 := hq.1
    have hBK := hB.trans (belowK_b (w := w) (Nat.le_refl _) W D _ (.deferred none) (by omega) hK rfl rfl)
    have hD2 : w.heap.size ≤ D := by omega
    have hNW : Nums .u8 W w.heap.size a zs := h1.below hB
    clear hY hys hC hE hs kC kE
    by_cases hqz : q = zs.length
    · have her := Lib.hid (Vi.gone_end hq hqz).2
      have e1 : ((q : Int) == (n : Int)) = true := by simp; omega
      clear hq hbad
      gi_wp2
      refine ⟨by simp, .inl ⟨_, _, rfl, run_takeDeferred hK, ?_⟩⟩
      exact ⟨_, results_tmp2 rfl _ _ _, by rw [her.out]; rfl, hBK⟩
    · have her := Lib.hid (Vi.gone_err hq hbad (by omega))
      have e1 : ((q : Int) == (n : Int)) = false := by simp; omega
      have hnd := hNW.drop (i := q) (cap := cap) (by omega)
      rw [if_neg (by omega)] at hnd
      have hzd : ∀ c ∈ zs.drop q, 0 ≤ c ∧ c ≤ 255 := fun c hc => hz c (List.mem_of_mem_drop hc)
      have e2 : (q : Int) < (cap : Int) := by omega
      clear hq hz
      gi_wp2_with fail
      refine ⟨trivial, ?_⟩
      refine (callsIn_wide.2 (get_len w.heap.size _ _ _ (zs.drop q) W (by rw [List.length_drop, hn]) (by omega) hzd hnd)).mono ?_
      rintro e w2 ⟨rfl, rfl⟩
      gi_wp2
      refine ⟨by simp, .inl ⟨_, _, rfl, run_takeDeferred hK, ?_⟩⟩
      exact ⟨_, results_tmp2 rfl _ _ _, by rw [her.out]; rfl, hBK⟩
  case stop =>
    rintro D c pre W _ _ h _
    exact h.elim

end Go.Proofs.Ytcheojenmepgpaa
