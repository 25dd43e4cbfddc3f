/-
  A part of the texts of one proof, put together: Lens, RdA, RdB, RdW, Back, Clos, WordC, Meth, Meths, Q23, BdyR, Q24, BdyS, Q13, BdyH, BdyK, BdyO, BdyZ, BdyQ.
-/
import Derived.WalkSpells
import Derived.Lib.SliceRun
import Derived.Deep.OwnRows
import Derived.Deep.RegionWith
import Derived.Test.YtlbfibnfmijahaaRows
import Derived.WalkLawsBesides
import Derived.WalkMore
import Derived.Lib.Hide
import Derived.Deep.LoopGhost
import Derived.RangeFuncNested
import Derived.RangeFuncBound
import Derived.RangeFuncCalls
import Derived.RangeFuncLeaves
import Derived.Shelf.Abstract
import Derived.Shelf.RegionOpen
import Derived.OwnWalkIn
import Derived.TacticsInMore
import Derived.LoopNIn
import Derived.LoopIn
import Derived.RangeFuncBox
import Derived.IntWalk
import Derived.RangeFuncWrites
import Derived.BigRegion
import Derived.ArgAppend
import Derived.Deep.Upon
import Derived.Maps.AppendAt
import Derived.Lib.Strings
import Derived.Lib.Slices
import Derived.Lib.Walk
import Derived.Lib.Bytes
import Derived.Test.YtlbfibnfmijahaaMBkBackProof3
namespace Go.Proofs.Ytlbfibnfmijahaa
open Go.RowKit Go.Deep
set_option maxRecDepth 100000

/-- block b is a lens of the bytes zs, at place p, with error e; its bytes lie in a block from lo on, below b -/
def LensAt (w : World) (lo b : Nat) (zs : List Int) (p e : Nat) : Prop :=
  ∃ A cap, w.heap[b]? = some (.cells #[.slice A zs.length cap, .int .i64 p, .int .i64 e] 108 (0, 0)) ∧ NumsIn .u8 w lo b A zs ∧ zs.length ≤ cap ∧ p ≤ zs.length ∧ lo ≤ b
section
variable {w w' : World} {lo b : Nat} {zs : List Int} {p e p' e' : Nat}
theorem LensAt.lt (h : LensAt w lo b zs p e) : b < w.heap.size := by
  obtain ⟨A, cap, hb, _⟩ := h
  exact (Array.getElem?_eq_some_iff.1 hb).1
theorem LensAt.lo_le (h : LensAt w lo b zs p e) : lo ≤ b := by
  obtain ⟨A, cap, _, _, _, _, h⟩ := h
  exact h
theorem LensAt.place (h : LensAt w lo b zs p e) : p ≤ zs.length := by
  obtain ⟨A, cap, _, _, _, h, _⟩ := h
  exact h
theorem LensAt.keeps (h : LensAt w lo b zs p e) (hk : Keeps lo (b + 1) w w') : LensAt w' lo b zs p e := by
  obtain ⟨A, cap, hb, hn, h1, h2, h3⟩ := h
  exact ⟨A, cap, (hk.2 b h3 (Nat.lt_succ_self b)).trans hb, hn.keeps ⟨hk.1, fun k h4 h5 => hk.2 k h4 (by omega)⟩, h1, h2, h3⟩
theorem LensAt.below (h : LensAt w lo b zs p e) (hb : Below w.heap.size w w') : LensAt w' lo b zs p e := by
  have hl := h.lt
  exact h.keeps ⟨hb.size, fun k _ h2 => hb.block k (by omega)⟩
theorem LensAt.off {S : Nat → Prop} (h : LensAt w lo b zs p e) (hf : Off S w w') (hS : ∀ k, lo ≤ k → k ≤ b → ¬ S k) : LensAt w' lo b zs p e := by
  have hl := h.lt
  exact h.keeps ⟨hf.size, fun k h1 h2 => hf.block k (by omega) (hS k h1 (by omega))⟩
theorem LensAt.open (h : LensAt w lo b zs p e) : ∃ A cap, w.heap[b]? = some (.cells #[.slice A zs.length cap, .int .i64 p, .int .i64 e] 108 (0, 0)) ∧ w.cell? ⟨b, 0, none⟩ = some (.slice A zs.length cap) ∧ w.cell? ⟨b, 1, none⟩ = some (.int .i64 p) ∧ w.cell? ⟨b, 2, none⟩ = some (.int .i64 e) ∧
    w.frozen? ⟨b, 1, none⟩ = false ∧ w.frozen? ⟨b, 2, none⟩ = false ∧ NumsIn .u8 w lo b A zs ∧ zs.length ≤ cap ∧ p ≤ zs.length ∧ lo ≤ b := by
  obtain ⟨A, cap, hb, hn, h1, h2, h3⟩ := h
  exact ⟨A, cap, hb, by simp [World.cell?, hb], by simp [World.cell?, hb], by simp [World.cell?, hb], by simp [World.frozen?, hb], by simp [World.frozen?, hb], hn, h1, h2, h3⟩
/-- its place moves -/
theorem LensAt.move (h : LensAt w lo b zs p e) (hp : p' ≤ zs.length) : LensAt (w.setCell ⟨b, 1, none⟩ (.int .i64 p')) lo b zs p' e := by
  obtain ⟨A, cap, hb, hn, h1, h2, h3⟩ := h
  refine ⟨A, cap, by rw [setCell_at hb]; simp, hn.keeps ⟨by simp [World.setCell], fun k h4 h5 => Below.heap_setCell _ _ _ _ (by simp; omega)⟩, h1, hp, h3⟩
/-- it has an error -/
theorem LensAt.fail (h : LensAt w lo b zs p e) (e' : Nat) : LensAt (w.setCell ⟨b, 2, none⟩ (.int .i64 e')) lo b zs p e' := by
  obtain ⟨A, cap, hb, hn, h1, h2, h3⟩ := h
  refine ⟨A, cap, by rw [setCell_at hb]; simp, hn.keeps ⟨by simp [World.setCell], fun k h4 h5 => Below.heap_setCell _ _ _ _ (by simp; omega)⟩, h1, h2, h3⟩
end

/-- slices.Clone of bytes -/
theorem cloneK_any (a : Option Addr) (n cap : Nat) (zs : List Int) (w : World) (hn : zs.length = n) (hl : n ≤ 1000000000) (h1 : Nums .u8 w w.heap.size a zs) :
    Calls Try.prog 51 #[.slice a n cap] w fun e w' => ∃ v, e = .returned v ∧ MadeK 5 .u8 w w' zs v := by
  subst hn
  obtain ⟨i0, hi, hz0, hz1, hz2⟩ := info_parts byteInfo
  cases a with
  | none =>
    have : zs = [] := by
      apply Classical.byContradiction
      intro hn
      obtain ⟨b, off, e, _⟩ := h1 hn
      cases e
    subst this
    have hq := fun w => Lib.run_eql_slice_nil (P := Try.prog) w 22 5 none 0 cap 0 0 Try.underlying22
    go_enter Try.func51, Try.ntmps51
    go_wp2
    go_ret
    exact ⟨_, rfl, MadeK.nil _ _ (Below.refl _ _)⟩
  | some x =>
    have hq := fun w => Lib.run_eql_slice_nil (P := Try.prog) w 22 5 (some x) zs.length cap 0 0 Try.underlying22
    have hnews : ∀ j u, (zs.map (Value.int .u8))[j]? = some u → (w.alloc (.cells #[] 5)).cell? (x.add j) = some u := by
      intro j u hj
      rw [List.getElem?_map] at hj
      cases hc : zs[j]? with
      | none => rw [hc] at hj; simp at hj
      | some c =>
        rw [hc] at hj
        simp only [Option.map_some, Option.some.injEq] at hj
        subst hj
        obtain ⟨b, off, e, hb, hcell⟩ := h1.open hc
        injection e with e
        subst e
        have := (World.cell?_alloc_lt w (.cells #[] 5) ⟨b, off + j, none⟩ hb).trans hcell
        by_cases h0 : j = 0
        · subst h0; simpa [Addr.add] using this
        · simpa [Addr.add, h0] using this
    have hown : (w.alloc (.cells #[] 5)).ownsRow w.heap.size 5 1 (.slice (some ⟨w.heap.size, 0, none⟩) 0 0) 0 [] :=
      ⟨rfl, .inr ⟨w.heap.size, 0, #[], rfl, Nat.le_refl _, heap_alloc_new w _, Nat.le_refl _, by simp, rfl, rfl⟩⟩
    go_enter Try.func51, Try.ntmps51
    go_wp2_with (at_builtin; refine wpList_append_own _ rfl (.tmp 5) (.tmp 6) 22 rfl w.heap.size 5 i0 (.int .u8 0) 1 1 Try.underlying22 hi hz0 hz1 hz2 rfl (by decide) _ _ _ rfl hown x zs.length cap (zs.map (Value.int .u8)) rfl (by simp) hnews ?_ ?_ ?_ ?_ ?_; (intro u hu; simp at hu; obtain ⟨c, _, rfl⟩ := hu; rfl); (unfold maxLen; omega); omega; (simp); intro v' w1 hown1 hgrow1 _)
    go_ret
    refine ⟨_, rfl, by simpa using hown1, ?_⟩
    exact ((Below.refl w.heap.size w).alloc (Nat.le_refl _) _).grown hgrow1 (by simp) (fun g hk => by have hk : some w.heap.size = some g := hk; injection hk with hk; omega)

theorem lens_new (w w1 : World) (zs : List Int) (A : Option Addr) (c : Nat) (h : MadeK 5 .u8 w w1 zs (.slice A zs.length c)) (hc : zs.length ≤ c) :
    LensAt (w1.alloc (.cells #[.slice A zs.length c, .int .i64 0, .int .i64 0] 108)) w.heap.size w1.heap.size zs 0 0 :=
  ⟨A, c, heap_alloc_new w1 _, h.numsIn.keeps (Keeps.of_below ((Below.refl _ w1).alloc (Nat.le_refl _) _)), hc, Nat.zero_le _, h.2.size⟩
theorem lnew_any (a : Option Addr) (n cap : Nat) (zs : List Int) (w : World) (hn : zs.length = n) (hl : n ≤ 1000000000) (h1 : Nums .u8 w w.heap.size a zs) :
    Calls Try.prog 37 #[.slice a n cap] w fun e w' => ∃ b, e = .returned (.pointer (some ⟨b, 0, none⟩)) ∧ LensAt w' w.heap.size b zs 0 0 ∧ Below w.heap.size w w' := by
  subst hn
  have HC := cloneK_any a _ cap zs w rfl hl h1
  clear h1
  go_enter Try.func37, Try.ntmps37
  go_wp2_with (go_at_call 51; refine HC.mono ?_; rintro e w1 ⟨v, rfl, hm⟩; obtain ⟨A, c, rfl, hc, _⟩ := hm.slice; have HM := Lib.hid hm; clear hm)
  go_ret
  exact ⟨_, rfl, lens_new w w1 zs A c HM.out hc, HM.out.2.alloc HM.out.2.size _⟩

section
variable (lo b : Nat) (zs : List Int) (p e : Nat) (w : World)
theorem lerr_any (h : LensAt w lo b zs p e) : Calls Try.prog 60 #[.pointer (some ⟨b, 0, none⟩)] w fun r w' => r = .returned (.int .i64 e) ∧ w = w' := by
  obtain ⟨A, cap, _, c0, c1, c2, _⟩ := h.open
  clear h
  go_enter Try.func60, Try.ntmps60
  go_wp2
  go_ret
  exact ⟨rfl, rfl⟩
theorem lleft_any (h : LensAt w lo b zs p e) (hl : zs.length ≤ 1000000000) : Calls Try.prog 61 #[.pointer (some ⟨b, 0, none⟩)] w fun r w' => r = .returned (.int .i64 ((zs.length : Int) - p)) ∧ ∃ n, w' = w.drewN n := by
  obtain ⟨A, cap, _, c0, c1, c2, _, _, _, _, hp, _⟩ := h.open
  clear h
  go_enter Try.func61, Try.ntmps61
  go_wp2
  go_quiet (fail)
  go_wp2
  go_ret
  exact ⟨rfl, _, rfl⟩
theorem lend_err (h : LensAt w lo b zs p e) (he : e ≠ 0) : Calls Try.prog 39 #[.pointer (some ⟨b, 0, none⟩)] w fun r w' => r = .returned (.int .i64 e) ∧ ∃ n, w' = w.drewN n := by
  have HC := lerr_any lo b zs p e w h
  have h3 : ¬ (e : Int) = 0 := by omega
  have h4 : ((e : Int) != 0) = true := by simp; omega
  clear h
  go_enter Try.func39, Try.ntmps39
  go_wp2_with (go_at_call 60; refine HC.mono ?_; rintro r w2 ⟨rfl, rfl⟩)
  go_ret
  exact ⟨rfl, 0, rfl⟩
theorem lend_left (h : LensAt w lo b zs p 0) (hl : zs.length ≤ 1000000000) (hp : p < zs.length) : Calls Try.prog 39 #[.pointer (some ⟨b, 0, none⟩)] w fun r w' => r = .returned (.int .i64 3) ∧ ∃ n, w' = w.drewN n := by
  have HC := lerr_any lo b zs p 0 w h
  have HL := lleft_any lo b zs p 0 w h hl
  have h3 : 0 < (zs.length : Int) - (p : Int) := by omega
  clear h
  go_enter Try.func39, Try.ntmps39
  go_wp2_with (first
    | (go_at_call 60; refine HC.mono ?_; rintro r w2 ⟨rfl, rfl⟩)
    | (go_at_call 61; refine HL.mono ?_; rintro r w2 ⟨rfl, n, rfl⟩))
  go_ret
  exact ⟨rfl, n, rfl⟩
theorem lend_ok (h : LensAt w lo b zs p 0) (hl : zs.length ≤ 1000000000) (hp : p = zs.length) : Calls Try.prog 39 #[.pointer (some ⟨b, 0, none⟩)] w fun r w' => r = .returned (.int .i64 0) ∧ ∃ n, w' = w.drewN n := by
  have HC := lerr_any lo b zs p 0 w h
  have HL := lleft_any lo b zs p 0 w h hl
  have h3 : ¬ 0 < (zs.length : Int) - (p : Int) := by omega
  clear h
  go_enter Try.func39, Try.ntmps39
  go_wp2_with (first
    | (go_at_call 60; refine HC.mono ?_; rintro r w2 ⟨rfl, rfl⟩)
    | (go_at_call 61; refine HL.mono ?_; rintro r w2 ⟨rfl, n, rfl⟩))
  go_ret
  exact ⟨rfl, n, rfl⟩
/-- what End tells -/
def endOf (zs : List Int) (p e : Nat) : Nat := if e ≠ 0 then e else if p < zs.length then 3 else 0
theorem lend_any (h : LensAt w lo b zs p e) (hl : zs.length ≤ 1000000000) : Calls Try.prog 39 #[.pointer (some ⟨b, 0, none⟩)] w fun r w' => r = .returned (.int .i64 (endOf zs p e : Nat)) ∧ ∃ n, w' = w.drewN n := by
  have hp := h.place
  by_cases he : e = 0
  · subst he
    by_cases hp1 : p < zs.length
    · rw [show endOf zs p 0 = 3 by simp [endOf, hp1]]; exact lend_left lo b zs p w h hl hp1
    · rw [show endOf zs p 0 = 0 by simp [endOf, hp1]]; exact lend_ok lo b zs p w h hl (by omega)
  · rw [show endOf zs p e = e by simp [endOf, he]]; exact lend_err lo b zs p e w h he
end

/-- the first n bytes -/
theorem part_ok (a : Option Addr) (len cap : Nat) (n : Int) (w : World) (h0 : 0 ≤ n) (h1 : n ≤ len) (hc : len ≤ cap) :
    Calls Try.prog 93 #[.slice a len cap, .int .i64 n] w fun e w' => e = .returned (.tuple #[.slice a n.toNat n.toNat, .int .i64 0]) ∧ w = w' := by
  have h2 : ¬ (len : Int) < n := by omega
  have h3 : ¬ n < 0 := by omega
  have h4 : n ≤ (cap : Int) := by omega
  go_enter Try.func93, Try.ntmps93
  go_wp2
  go_ret2
  exact ⟨by simp, rfl⟩
theorem part_more (a : Option Addr) (len cap : Nat) (n : Int) (w : World) (h1 : (len : Int) < n) :
    Calls Try.prog 93 #[.slice a len cap, .int .i64 n] w fun e w' => e = .returned (.tuple #[.slice none 0 0, .int .i64 4]) ∧ w = w' := by
  have h3 : ¬ n < 0 := by omega
  go_enter Try.func93, Try.ntmps93
  go_wp2
  go_ret2
  exact ⟨rfl, rfl⟩
end Go.Proofs.Ytlbfibnfmijahaa

namespace Go.Proofs.Ytlbfibnfmijahaa
open Go.RowKit
set_option maxRecDepth 100000
section
variable (lo b : Nat) (zs : List Int) (p e : Nat) (w : World)
theorem rdN_err (fv : Value) (h : LensAt w lo b zs p e) (he : e ≠ 0) :
    Calls Try.prog 89 #[.pointer (some ⟨b, 0, none⟩), fv] w fun r w' => r = .returned (.int .u64 0) ∧ w = w' := by
  have HE := lerr_any lo b zs p e w h
  have h3 : ¬ (e : Int) = 0 := by omega
  have h4 : ((e : Int) != 0) = true := by simp; omega
  clear h he
  go_enter Try.func89, Try.ntmps89
  go_wp2_with (go_at_call 60; refine HE.mono ?_; rintro r w2 ⟨rfl, rfl⟩)
  go_ret
  exact ⟨rfl, rfl⟩
theorem rdS_err (fv : Value) (h : LensAt w lo b zs p e) (he : e ≠ 0) :
    Calls Try.prog 85 #[.pointer (some ⟨b, 0, none⟩), fv] w fun r w' => r = .returned (.int .i64 0) ∧ w = w' := by
  have HE := lerr_any lo b zs p e w h
  have h3 : ¬ (e : Int) = 0 := by omega
  have h4 : ((e : Int) != 0) = true := by simp; omega
  clear h he
  go_enter Try.func85, Try.ntmps85
  go_wp2_with (go_at_call 60; refine HE.mono ?_; rintro r w2 ⟨rfl, rfl⟩)
  go_ret
  exact ⟨rfl, rfl⟩
set_option maxHeartbeats 2000000 in
theorem rdN_ok (c0 : Nat) (h : LensAt w lo b zs p 0) (hl : zs.length ≤ 1000000000) (size : Nat) (hs : p + size ≤ zs.length) (K : Value → World → Prop)
    (HC : ∀ n A cap, Nums .u8 (w.drewN n) b A (zs.drop p) → zs.length - p ≤ cap → Calls Try.prog 90 #[.slice A (zs.length - p) cap, .pointer (some ⟨c0, 0, none⟩)] (w.drewN n) fun r w' => ∃ v, r = .returned (.tuple #[v, .int .i64 size, .int .i64 0]) ∧ Below w.heap.size w w' ∧ K v w') :
    Calls Try.prog 89 #[.pointer (some ⟨b, 0, none⟩), .func (.func 90) #[] #[.pointer (some ⟨c0, 0, none⟩)]] w fun r w' => ∃ v w1, r = .returned v ∧ K v w1 ∧ Below w.heap.size w w1 ∧ w' = w1.setCell ⟨b, 1, none⟩ (.int .i64 (p + size)) := by
  have HE := lerr_any lo b zs p 0 w h
  have HW := Lib.hid h
  obtain ⟨A, cap, hb, c0, c1, c2, f1, f2, hn, hlc, hp, hlo⟩ := h.open
  have hnd := hn.nums.drop (i := p) hlc
  have hsz := h.lt
  have HB : Hid (∀ w1, Below w.heap.size w w1 → w1.cell? ⟨b, 1, none⟩ = some (.int .i64 p) ∧ w1.frozen? ⟨b, 1, none⟩ = false) := fun w1 hb1 => by
    obtain ⟨_, _, _, _, c1, c2, f1, f2, _⟩ := (HW.out.below hb1).open
    exact ⟨c1, f1⟩
  have hp1 : (p : Int) ≤ (zs.length : Int) := by omega
  have hp2 : (zs.length : Int) ≤ (cap : Int) := by omega
  obtain ⟨A', hA'⟩ : ∃ A', (if cap = p then A else Option.map (fun x => x.add p) A) = A' := ⟨_, rfl⟩
  rw [hA'] at hnd
  have HC1 := HC 1 A' (cap - p) (hnd.kept fun _ _ => rfl) (by omega)
  clear h hn HC
  go_enter Try.func89, Try.ntmps89
  go_wp2_with (go_at_call 60; refine HE.mono ?_; rintro r w2 ⟨rfl, rfl⟩)
  go_region_with (go_at_call 90; refine HC1.mono ?_; rintro r w3 ⟨v, rfl, hb3, hK⟩; obtain ⟨d1, g1⟩ := HB.out _ hb3)
  all_goals go_wp2
  all_goals go_ret
  all_goals exact ⟨_, _, rfl, hK, hb3, rfl⟩
set_option maxHeartbeats 2000000 in
theorem rdN_bad (c0 : Nat) (h : LensAt w lo b zs p 0) (_hl : zs.length ≤ 1000000000) (err : Nat) (he : err ≠ 0) (K : Value → World → Prop)
    (HC : ∀ n A cap, Nums .u8 (w.drewN n) b A (zs.drop p) → zs.length - p ≤ cap → Calls Try.prog 90 #[.slice A (zs.length - p) cap, .pointer (some ⟨c0, 0, none⟩)] (w.drewN n) fun r w' => ∃ v s, r = .returned (.tuple #[v, .int .i64 s, .int .i64 err]) ∧ Below w.heap.size w w' ∧ K v w') :
    Calls Try.prog 89 #[.pointer (some ⟨b, 0, none⟩), .func (.func 90) #[] #[.pointer (some ⟨c0, 0, none⟩)]] w fun r w' => r = .returned (.int .u64 0) ∧ ∃ v w1, K v w1 ∧ Below w.heap.size w w1 ∧ w' = w1.setCell ⟨b, 2, none⟩ (.int .i64 err) := by
  have HE := lerr_any lo b zs p 0 w h
  have HW := Lib.hid h
  obtain ⟨A, cap, hb, c0, c1, c2, f1, f2, hn, hlc, hp, hlo⟩ := h.open
  have hnd := hn.nums.drop (i := p) hlc
  have hsz := h.lt
  have HB : Hid (∀ w1, Below w.heap.size w w1 → w1.cell? ⟨b, 2, none⟩ = some (.int .i64 (0 : Nat)) ∧ w1.frozen? ⟨b, 2, none⟩ = false) := fun w1 hb1 => by
    obtain ⟨_, _, _, _, c1, c2, f1, f2, _⟩ := (HW.out.below hb1).open
    exact ⟨c2, f2⟩
  have hp1 : (p : Int) ≤ (zs.length : Int) := by omega
  have hp2 : (zs.length : Int) ≤ (cap : Int) := by omega
  obtain ⟨A', hA'⟩ : ∃ A', (if cap = p then A else Option.map (fun x => x.add p) A) = A' := ⟨_, rfl⟩
  rw [hA'] at hnd
  have HC1 := HC 1 A' (cap - p) (hnd.kept fun _ _ => rfl) (by omega)
  have h3 : ¬ (err : Int) = 0 := by omega
  have h4 : ((err : Int) != 0) = true := by simp; omega
  clear h hn HC he
  go_enter Try.func89, Try.ntmps89
  go_wp2_with (go_at_call 60; refine HE.mono ?_; rintro r w2 ⟨rfl, rfl⟩)
  go_region_with (go_at_call 90; refine HC1.mono ?_; rintro r w3 ⟨v, s, rfl, hb3, hK⟩; obtain ⟨d1, g1⟩ := HB.out _ hb3)
  all_goals go_wp2
  all_goals go_ret
  all_goals exact ⟨rfl, _, _, hK, hb3, rfl⟩
set_option maxHeartbeats 2000000 in
theorem rdS_ok (c0 c1 : Nat) (h : LensAt w lo b zs p 0) (hl : zs.length ≤ 1000000000) (size : Nat) (hs : p + size ≤ zs.length) (K : Value → World → Prop)
    (HC : ∀ n A cap, Nums .u8 (w.drewN n) b A (zs.drop p) → zs.length - p ≤ cap → Calls Try.prog 86 #[.slice A (zs.length - p) cap, .pointer (some ⟨c0, 0, none⟩), .pointer (some ⟨c1, 0, none⟩)] (w.drewN n) fun r w' => ∃ v, r = .returned (.tuple #[v, .int .i64 size, .int .i64 0]) ∧ Below w.heap.size w w' ∧ K v w') :
    Calls Try.prog 85 #[.pointer (some ⟨b, 0, none⟩), .func (.func 86) #[] #[.pointer (some ⟨c0, 0, none⟩), .pointer (some ⟨c1, 0, none⟩)]] w fun r w' => ∃ v w1, r = .returned v ∧ K v w1 ∧ Below w.heap.size w w1 ∧ w' = w1.setCell ⟨b, 1, none⟩ (.int .i64 (p + size)) := by
  have HE := lerr_any lo b zs p 0 w h
  have HW := Lib.hid h
  obtain ⟨A, cap, hb, c0, c1, c2, f1, f2, hn, hlc, hp, hlo⟩ := h.open
  have hnd := hn.nums.drop (i := p) hlc
  have hsz := h.lt
  have HB : Hid (∀ w1, Below w.heap.size w w1 → w1.cell? ⟨b, 1, none⟩ = some (.int .i64 p) ∧ w1.frozen? ⟨b, 1, none⟩ = false) := fun w1 hb1 => by
    obtain ⟨_, _, _, _, c1, c2, f1, f2, _⟩ := (HW.out.below hb1).open
    exact ⟨c1, f1⟩
  have hp1 : (p : Int) ≤ (zs.length : Int) := by omega
  have hp2 : (zs.length : Int) ≤ (cap : Int) := by omega
  obtain ⟨A', hA'⟩ : ∃ A', (if cap = p then A else Option.map (fun x => x.add p) A) = A' := ⟨_, rfl⟩
  rw [hA'] at hnd
  have HC1 := HC 1 A' (cap - p) (hnd.kept fun _ _ => rfl) (by omega)
  clear h hn HC
  go_enter Try.func85, Try.ntmps85
  go_wp2_with (go_at_call 60; refine HE.mono ?_; rintro r w2 ⟨rfl, rfl⟩)
  go_region_with (go_at_call 86; refine HC1.mono ?_; rintro r w3 ⟨v, rfl, hb3, hK⟩; obtain ⟨d1, g1⟩ := HB.out _ hb3)
  all_goals go_wp2
  all_goals go_ret
  all_goals exact ⟨_, _, rfl, hK, hb3, rfl⟩
set_option maxHeartbeats 2000000 in
theorem rdS_bad (c0 c1 : Nat) (h : LensAt w lo b zs p 0) (_hl : zs.length ≤ 1000000000) (err : Nat) (he : err ≠ 0) (K : Value → World → Prop)
    (HC : ∀ n A cap, Nums .u8 (w.drewN n) b A (zs.drop p) → zs.length - p ≤ cap → Calls Try.prog 86 #[.slice A (zs.length - p) cap, .pointer (some ⟨c0, 0, none⟩), .pointer (some ⟨c1, 0, none⟩)] (w.drewN n) fun r w' => ∃ v s, r = .returned (.tuple #[v, .int .i64 s, .int .i64 err]) ∧ Below w.heap.size w w' ∧ K v w') :
    Calls Try.prog 85 #[.pointer (some ⟨b, 0, none⟩), .func (.func 86) #[] #[.pointer (some ⟨c0, 0, none⟩), .pointer (some ⟨c1, 0, none⟩)]] w fun r w' => r = .returned (.int .i64 0) ∧ ∃ v w1, K v w1 ∧ Below w.heap.size w w1 ∧ w' = w1.setCell ⟨b, 2, none⟩ (.int .i64 err) := by
  have HE := lerr_any lo b zs p 0 w h
  have HW := Lib.hid h
  obtain ⟨A, cap, hb, c0, c1, c2, f1, f2, hn, hlc, hp, hlo⟩ := h.open
  have hnd := hn.nums.drop (i := p) hlc
  have hsz := h.lt
  have HB : Hid (∀ w1, Below w.heap.size w w1 → w1.cell? ⟨b, 2, none⟩ = some (.int .i64 (0 : Nat)) ∧ w1.frozen? ⟨b, 2, none⟩ = false) := fun w1 hb1 => by
    obtain ⟨_, _, _, _, c1, c2, f1, f2, _⟩ := (HW.out.below hb1).open
    exact ⟨c2, f2⟩
  have hp1 : (p : Int) ≤ (zs.length : Int) := by omega
  have hp2 : (zs.length : Int) ≤ (cap : Int) := by omega
  obtain ⟨A', hA'⟩ : ∃ A', (if cap = p then A else Option.map (fun x => x.add p) A) = A' := ⟨_, rfl⟩
  rw [hA'] at hnd
  have HC1 := HC 1 A' (cap - p) (hnd.kept fun _ _ => rfl) (by omega)
  have h3 : ¬ (err : Int) = 0 := by omega
  have h4 : ((err : Int) != 0) = true := by simp; omega
  clear h hn HC he
  go_enter Try.func85, Try.ntmps85
  go_wp2_with (go_at_call 60; refine HE.mono ?_; rintro r w2 ⟨rfl, rfl⟩)
  go_region_with (go_at_call 86; refine HC1.mono ?_; rintro r w3 ⟨v, s, rfl, hb3, hK⟩; obtain ⟨d1, g1⟩ := HB.out _ hb3)
  all_goals go_wp2
  all_goals go_ret
  all_goals exact ⟨rfl, _, _, hK, hb3, rfl⟩
end
end Go.Proofs.Ytlbfibnfmijahaa

namespace Go.Proofs.Ytlbfibnfmijahaa
open Go.RowKit
set_option maxRecDepth 100000
section
variable (lo b : Nat) (zs : List Int) (p e : Nat) (w : World)
theorem rdR_err (fv : Value) (h : LensAt w lo b zs p e) (he : e ≠ 0) :
    Calls Try.prog 91 #[.pointer (some ⟨b, 0, none⟩), fv] w fun r w' => r = .returned (.slice none 0 0) ∧ w = w' := by
  have HE := lerr_any lo b zs p e w h
  have h3 : ¬ (e : Int) = 0 := by omega
  have h4 : ((e : Int) != 0) = true := by simp; omega
  clear h he
  go_enter Try.func91, Try.ntmps91
  go_wp2_with (go_at_call 60; refine HE.mono ?_; rintro r w2 ⟨rfl, rfl⟩)
  go_ret
  exact ⟨rfl, rfl⟩
set_option maxHeartbeats 2000000 in
theorem rdF_ok (c0 : Nat) (h : LensAt w lo b zs p 0) (hl : zs.length ≤ 1000000000) (size : Nat) (hs : p + size ≤ zs.length) (K : Value → World → Prop)
    (HC : ∀ n A cap, Nums .u8 (w.drewN n) b A (zs.drop p) → zs.length - p ≤ cap → Calls Try.prog 92 #[.slice A (zs.length - p) cap, .pointer (some ⟨c0, 0, none⟩)] (w.drewN n) fun r w' => ∃ v, r = .returned (.tuple #[v, .int .i64 size, .int .i64 0]) ∧ Below w.heap.size w w' ∧ K v w') :
    Calls Try.prog 91 #[.pointer (some ⟨b, 0, none⟩), .func (.func 92) #[] #[.pointer (some ⟨c0, 0, none⟩)]] w fun r w' => ∃ v w1, r = .returned v ∧ K v w1 ∧ Below w.heap.size w w1 ∧ w' = w1.setCell ⟨b, 1, none⟩ (.int .i64 (p + size)) := by
  have HE := lerr_any lo b zs p 0 w h
  have HW := Lib.hid h
  obtain ⟨A, cap, hb, c0, c1, c2, f1, f2, hn, hlc, hp, hlo⟩ := h.open
  have hnd := hn.nums.drop (i := p) hlc
  have hsz := h.lt
  have HB : Hid (∀ w1, Below w.heap.size w w1 → w1.cell? ⟨b, 1, none⟩ = some (.int .i64 p) ∧ w1.frozen? ⟨b, 1, none⟩ = false) := fun w1 hb1 => by
    obtain ⟨_, _, _, _, c1, c2, f1, f2, _⟩ := (HW.out.below hb1).open
    exact ⟨c1, f1⟩
  have hp1 : (p : Int) ≤ (zs.length : Int) := by omega
  have hp2 : (zs.length : Int) ≤ (cap : Int) := by omega
  obtain ⟨A', hA'⟩ : ∃ A', (if cap = p then A else Option.map (fun x => x.add p) A) = A' := ⟨_, rfl⟩
  rw [hA'] at hnd
  have HC1 := HC 1 A' (cap - p) (hnd.kept fun _ _ => rfl) (by omega)
  clear h hn HC
  go_enter Try.func91, Try.ntmps91
  go_wp2_with (go_at_call 60; refine HE.mono ?_; rintro r w2 ⟨rfl, rfl⟩)
  go_region_with (go_at_call 92; refine HC1.mono ?_; rintro r w3 ⟨v, rfl, hb3, hK⟩; obtain ⟨d1, g1⟩ := HB.out _ hb3)
  all_goals go_wp2
  all_goals go_ret
  all_goals exact ⟨_, _, rfl, hK, hb3, rfl⟩
set_option maxHeartbeats 2000000 in
theorem rdF_bad (c0 : Nat) (h : LensAt w lo b zs p 0) (_hl : zs.length ≤ 1000000000) (err : Nat) (he : err ≠ 0) (K : Value → World → Prop)
    (HC : ∀ n A cap, Nums .u8 (w.drewN n) b A (zs.drop p) → zs.length - p ≤ cap → Calls Try.prog 92 #[.slice A (zs.length - p) cap, .pointer (some ⟨c0, 0, none⟩)] (w.drewN n) fun r w' => ∃ v s, r = .returned (.tuple #[v, .int .i64 s, .int .i64 err]) ∧ Below w.heap.size w w' ∧ K v w') :
    Calls Try.prog 91 #[.pointer (some ⟨b, 0, none⟩), .func (.func 92) #[] #[.pointer (some ⟨c0, 0, none⟩)]] w fun r w' => r = .returned (.slice none 0 0) ∧ ∃ v w1, K v w1 ∧ Below w.heap.size w w1 ∧ w' = w1.setCell ⟨b, 2, none⟩ (.int .i64 err) := by
  have HE := lerr_any lo b zs p 0 w h
  have HW := Lib.hid h
  obtain ⟨A, cap, hb, c0, c1, c2, f1, f2, hn, hlc, hp, hlo⟩ := h.open
  have hnd := hn.nums.drop (i := p) hlc
  have hsz := h.lt
  have HB : Hid (∀ w1, Below w.heap.size w w1 → w1.cell? ⟨b, 2, none⟩ = some (.int .i64 (0 : Nat)) ∧ w1.frozen? ⟨b, 2, none⟩ = false) := fun w1 hb1 => by
    obtain ⟨_, _, _, _, c1, c2, f1, f2, _⟩ := (HW.out.below hb1).open
    exact ⟨c2, f2⟩
  have hp1 : (p : Int) ≤ (zs.length : Int) := by omega
  have hp2 : (zs.length : Int) ≤ (cap : Int) := by omega
  obtain ⟨A', hA'⟩ : ∃ A', (if cap = p then A else Option.map (fun x => x.add p) A) = A' := ⟨_, rfl⟩
  rw [hA'] at hnd
  have HC1 := HC 1 A' (cap - p) (hnd.kept fun _ _ => rfl) (by omega)
  have h3 : ¬ (err : Int) = 0 := by omega
  have h4 : ((err : Int) != 0) = true := by simp; omega
  clear h hn HC he
  go_enter Try.func91, Try.ntmps91
  go_wp2_with (go_at_call 60; refine HE.mono ?_; rintro r w2 ⟨rfl, rfl⟩)
  go_region_with (go_at_call 92; refine HC1.mono ?_; rintro r w3 ⟨v, s, rfl, hb3, hK⟩; obtain ⟨d1, g1⟩ := HB.out _ hb3)
  all_goals go_wp2
  all_goals go_ret
  all_goals exact ⟨rfl, _, _, hK, hb3, rfl⟩
end
end Go.Proofs.Ytlbfibnfmijahaa

namespace Go.Proofs.Ytlbfibnfmijahaa
open Go.RowKit
set_option maxRecDepth 100000
section
variable (lo b : Nat) (zs : List Int) (p e : Nat) (w : World)
end
end Go.Proofs.Ytlbfibnfmijahaa

namespace Go.Proofs.Ytlbfibnfmijahaa
open Go.RowKit Go.Shelf
set_option maxRecDepth 100000
attribute [local go_sem] Oper.semAt_some

theorem NumsS.kept {k : IntKind} {S : Nat → Prop} {A B : World} {a : Option Addr} {zs : List Int} (h : NumsS k A S a zs) (hk : KeepS S A B) : NumsS k B S a zs := fun hn => by
  obtain ⟨b, off, e, h1, hc⟩ := h hn
  exact ⟨b, off, e, h1, fun j c hj => (hk.cell (p := ⟨b, off + j, none⟩) h1).trans (hc j c hj)⟩
theorem NumsS.open {k : IntKind} {S : Nat → Prop} {w : World} {a : Option Addr} {zs : List Int} (h : NumsS k w S a zs) {j : Nat} {c : Int} (hj : zs[j]? = some c) : ∃ b off, a = some ⟨b, off, none⟩ ∧ S b ∧ w.cell? ⟨b, off + j, none⟩ = some (.int k c) := by
  obtain ⟨b, off, e, hb, hc⟩ := h (by intro e; subst e; simp at hj)
  exact ⟨b, off, e, hb, hc j c hj⟩
end Go.Proofs.Ytlbfibnfmijahaa

namespace Go.Proofs.Ytlbfibnfmijahaa
open Go.RowKit
set_option maxRecDepth 100000

/-- what a read's closure hands on: where nothing is wrong, the value and its bytes' number -/
def ClosI (k : IntKind) (x : Int × Nat × Nat) (r : Ending) : Prop :=
  ∃ (v s : Int), r = .returned (.tuple #[.int k v, .int .i64 s, .int .i64 x.2.2]) ∧ (x.2.2 = 0 → v = x.1 ∧ s = x.2.1)
theorem ClosI.bad {k : IntKind} {x : Int × Nat × Nat} {v s : Int} {e : Int} (h : x.2.2 ≠ 0) (he : e = x.2.2) : ClosI k x (.returned (.tuple #[.int k v, .int .i64 s, .int .i64 e])) := by
  subst he; exact ⟨v, s, rfl, fun h0 => absurd h0 h⟩
theorem ClosI.ok {k : IntKind} {x : Int × Nat × Nat} {v s : Int} {e : Int} (hv : v = x.1) (hs : s = x.2.1) (he : e = x.2.2) : ClosI k x (.returned (.tuple #[.int k v, .int .i64 s, .int .i64 e])) := by
  subst he; exact ⟨v, s, rfl, fun _ => ⟨hv, hs⟩⟩

section
variable (B : Nat) (a : Option Addr) (n cap c : Nat) (l : List Int) (w : World)
theorem numc_any (most : Int) (hn : l.length = n) (hl : n ≤ 1000000000) (hz : ∀ x ∈ l, 0 ≤ x ∧ x ≤ 255) (h1 : Nums .u8 w B a l) (hc : w.cell? ⟨c, 0, none⟩ = some (.int .u64 most)) :
    Calls Try.prog 90 #[.slice a n cap, .pointer (some ⟨c, 0, none⟩)] w fun r w' => ClosI .u64 (numR l most) r ∧ w = w' := by
  have HG := get_len B a n cap l w hn (by omega) hz h1
  have hle := Vi.get_le l
  clear h1 hz
  by_cases he : (Vi.get l).2.2 = 0
  · have h0 : (((Vi.get l).2.2 : Nat) : Int) = 0 := by omega
    by_cases hm : most < ((Vi.get l).1 : Int)
    · have HR : Hid (numR l most = (0, 0, 5)) := by show _ = _; unfold numR; rw [if_neg (by simp [he]), if_pos hm]
      have h4 : (((Vi.get l).2.2 : Nat) : Int) = 0 := h0
      generalize hr : Vi.get l = r at *
      obtain ⟨r1, r2, r3⟩ := r
      simp only at he hm h0 HG h4 hle
      subst he
      clear hr h0 h4 hle
      go_enter Try.func90, Try.ntmps90
      go_wp2_with (go_at_call 87; refine HG.mono ?_; rintro e w1 ⟨rfl, rfl⟩)
      go_ret3
      exact ⟨ClosI.bad (by rw [HR.out]; decide) (by rw [HR.out]; rfl), rfl⟩
    · have HR : Hid (numR l most = (((Vi.get l).1 : Int), (Vi.get l).2.1, 0)) := by show _ = _; unfold numR; rw [if_neg (by simp [he]), if_neg hm]
      generalize hr : Vi.get l = r at *
      obtain ⟨r1, r2, r3⟩ := r
      simp only at he hm h0 HG hle HR
      subst he
      clear hr h0 hle
      go_enter Try.func90, Try.ntmps90
      go_wp2_with (go_at_call 87; refine HG.mono ?_; rintro e w1 ⟨rfl, rfl⟩)
      go_ret3
      exact ⟨by rw [HR.out]; exact ClosI.ok rfl rfl rfl, rfl⟩
  · have HR : Hid (numR l most = (0, 0, (Vi.get l).2.2)) := by show _ = _; unfold numR; rw [if_pos he]
    have h3 : ¬ (((Vi.get l).2.2 : Nat) : Int) = 0 := by omega
    have h4 : ((((Vi.get l).2.2 : Nat) : Int) == 0) = false := by simp; omega
    have HE := Lib.hid he
    clear he hle
    go_enter Try.func90, Try.ntmps90
    go_wp2_with (go_at_call 87; refine HG.mono ?_; rintro e w1 ⟨rfl, rfl⟩)
    go_ret3
    exact ⟨ClosI.bad (by rw [HR.out]; exact HE.out) (by rw [HR.out]), rfl⟩

theorem sigc_any (c2 : Nat) (least most : Int) (hn : l.length = n) (hl : n ≤ 1000000000) (hz : ∀ x ∈ l, 0 ≤ x ∧ x ≤ 255) (h1 : Nums .u8 w B a l) (hc : w.cell? ⟨c, 0, none⟩ = some (.int .i64 least)) (hc2 : w.cell? ⟨c2, 0, none⟩ = some (.int .i64 most)) :
    Calls Try.prog 86 #[.slice a n cap, .pointer (some ⟨c, 0, none⟩), .pointer (some ⟨c2, 0, none⟩)] w fun r w' => ClosI .i64 (sigR l least most) r ∧ w = w' := by
  have HG := get_len B a n cap l w hn (by omega) hz h1
  have hle := Vi.get_le l
  have HZ := zag_any ((Vi.get l).1 : Int) w (by omega) (by omega)
  clear h1 hz
  by_cases he : (Vi.get l).2.2 = 0
  · by_cases hm1 : zagZ ((Vi.get l).1 : Int) < least
    · have HR : Hid (sigR l least most = (0, 0, 5)) := by show _ = _; unfold sigR; rw [if_neg (by simp [he]), if_pos (.inl hm1)]
      generalize hr : Vi.get l = r at *
      obtain ⟨r1, r2, r3⟩ := r
      simp only at he hm1 HG HZ hle
      subst he
      clear hr hle
      generalize zagZ (r1 : Int) = z at *
      go_enter Try.func86, Try.ntmps86
      go_wp2_with (first
        | (go_at_call 87; refine HG.mono ?_; rintro e w1 ⟨rfl, rfl⟩)
        | (go_at_call 88; refine HZ.mono ?_; rintro e w1 ⟨rfl, rfl⟩))
      go_ret3
      exact ⟨ClosI.bad (by rw [HR.out]; decide) (by rw [HR.out]; rfl), rfl⟩
    · by_cases hm2 : most < zagZ ((Vi.get l).1 : Int)
      · have HR : Hid (sigR l least most = (0, 0, 5)) := by show _ = _; unfold sigR; rw [if_neg (by simp [he]), if_pos (.inr hm2)]
        generalize hr : Vi.get l = r at *
        obtain ⟨r1, r2, r3⟩ := r
        simp only at he hm1 hm2 HG HZ hle
        subst he
        clear hr hle
        generalize zagZ (r1 : Int) = z at *
        go_enter Try.func86, Try.ntmps86
        go_wp2_with (first
          | (go_at_call 87; refine HG.mono ?_; rintro e w1 ⟨rfl, rfl⟩)
          | (go_at_call 88; refine HZ.mono ?_; rintro e w1 ⟨rfl, rfl⟩))
        go_ret3
        exact ⟨ClosI.bad (by rw [HR.out]; decide) (by rw [HR.out]; rfl), rfl⟩
      · have HR : Hid (sigR l least most = (zagZ ((Vi.get l).1 : Int), (Vi.get l).2.1, 0)) := by show _ = _; unfold sigR; rw [if_neg (by simp [he]), if_neg (by rintro (h | h) <;> omega)]
        generalize hr : Vi.get l = r at *
        obtain ⟨r1, r2, r3⟩ := r
        simp only at he hm1 hm2 HG HZ hle HR
        subst he
        clear hr hle
        generalize zagZ (r1 : Int) = z at *
        go_enter Try.func86, Try.ntmps86
        go_wp2_with (first
          | (go_at_call 87; refine HG.mono ?_; rintro e w1 ⟨rfl, rfl⟩)
          | (go_at_call 88; refine HZ.mono ?_; rintro e w1 ⟨rfl, rfl⟩))
        go_ret3
        exact ⟨by rw [HR.out]; exact ClosI.ok rfl rfl rfl, rfl⟩
  · have HR : Hid (sigR l least most = (0, 0, (Vi.get l).2.2)) := by show _ = _; unfold sigR; rw [if_pos he]
    have h3 : ¬ (((Vi.get l).2.2 : Nat) : Int) = 0 := by omega
    have h4 : ((((Vi.get l).2.2 : Nat) : Int) == 0) = false := by simp; omega
    have HE := Lib.hid he
    clear he hle
    go_enter Try.func86, Try.ntmps86
    go_wp2_with (first
      | (go_at_call 87; refine HG.mono ?_; rintro e w1 ⟨rfl, rfl⟩)
      | (go_at_call 88; refine HZ.mono ?_; rintro e w1 ⟨rfl, rfl⟩))
    go_ret3
    exact ⟨ClosI.bad (by rw [HR.out]; exact HE.out) (by rw [HR.out]), rfl⟩

/-- what a closure that makes bytes hands on -/
def ClosB (x : List Int × Nat × Nat) (w : World) (r : Ending) (w' : World) : Prop :=
  ∃ (v : Value) (s : Int), r = .returned (.tuple #[v, .int .i64 s, .int .i64 x.2.2]) ∧ MadeK 5 .u8 w w' x.1 v ∧ (x.2.2 = 0 → s = x.2.1)
theorem ClosB.mk {x : List Int × Nat × Nat} {w w' : World} {v : Value} {s e : Int} (hm : MadeK 5 .u8 w w' x.1 v) (he : e = x.2.2) (hs : x.2.2 = 0 → s = x.2.1) : ClosB x w (.returned (.tuple #[v, .int .i64 s, .int .i64 e])) w' := by
  subst he; exact ⟨v, s, rfl, hm, hs⟩
theorem fldc_any (m : Int) (hn : l.length = n) (hnc : n ≤ cap) (hl : n ≤ 1000000000) (hz : ∀ x ∈ l, 0 ≤ x ∧ x ≤ 255) (hm0 : -9223372036854775808 ≤ m) (hm1 : m ≤ 9223372036854775807) (h1 : Nums .u8 w w.heap.size a l) (hc : w.cell? ⟨c, 0, none⟩ = some (.int .i64 m)) :
    Calls Try.prog 92 #[.slice a n cap, .pointer (some ⟨c, 0, none⟩)] w fun r w' => ClosB (fldR l m) w r w' := by
  have HG := get_len _ a n cap l w hn (by omega) hz h1
  have hle := Vi.get_le l
  have HC0 := cloneK_any none 0 0 [] w rfl (by decide) Nums.nil
  by_cases he : (Vi.get l).2.2 = 0
  · obtain ⟨M, hq⟩ : ∃ M : Int, (if m < 0 then (0 : Int) else m) = M := ⟨_, rfl⟩
    have hM : max m 0 = M := by rw [← hq]; split <;> omega
    have hM0 : 0 ≤ M := by omega
    have hM1 : M ≤ 9223372036854775807 := by omega
    by_cases hmany : M < ((Vi.get l).1 : Int)
    · have HR : Hid (fldR l m = ([], 0, 6)) := by show _ = _; unfold fldR; rw [if_neg (by simp [he]), if_pos (by rw [hM]; exact hmany)]
      generalize hr : Vi.get l = r at *
      obtain ⟨r1, r2, r3⟩ := r
      simp only at he hmany HG hle
      subst he
      clear hr h1 hz HC0
      clear hM
      go_enter Try.func92, Try.ntmps92
      go_wp2_with (go_at_call 87; refine HG.mono ?_; rintro e w1 ⟨rfl, rfl⟩)
      go_ret3
      exact ClosB.mk (by rw [HR.out]; exact MadeK.nil _ _ (Below.refl _ _)) (by rw [HR.out]; rfl) (by rw [HR.out]; simp)
    · have hd := h1.drop (i := (Vi.get l).2.1) (cap := cap) (by omega)
      obtain ⟨A', hA'⟩ : ∃ A', (if cap = (Vi.get l).2.1 then a else Option.map (fun x => x.add (Vi.get l).2.1) a) = A' := ⟨_, rfl⟩
      rw [hA'] at hd
      have hdl : (l.drop (Vi.get l).2.1).length = n - (Vi.get l).2.1 := by rw [List.length_drop, hn]
      by_cases hmore : n - (Vi.get l).2.1 < (Vi.get l).1
      · have HR : Hid (fldR l m = ([], 0, 4)) := by show _ = _; unfold fldR; rw [if_neg (by simp [he]), if_neg (by rw [hM]; exact hmany), if_pos (by rw [hn]; exact hmore)]
        have HP := part_more A' (n - (Vi.get l).2.1) (cap - (Vi.get l).2.1) ((Vi.get l).1 : Int) w (by omega)
        generalize hr : Vi.get l = r at *
        obtain ⟨r1, r2, r3⟩ := r
        simp only at he hmany HG hle hd hA' hdl hmore HP
        subst he
        have h2n : r2 ≤ n := by omega
        clear hr h1 hz hd hdl
        clear hM
        go_enter Try.func92, Try.ntmps92
        go_wp2_with (first
          | (go_at_call 87; refine HG.mono ?_; rintro e w1 ⟨rfl, rfl⟩)
          | (go_at_call 93; refine HP.mono ?_; rintro e w1 ⟨rfl, rfl⟩)
          | (go_at_call 51; refine HC0.mono ?_; rintro e w1 ⟨v, rfl, hm⟩; have HM := Lib.hid hm; clear hm))
        go_ret3
        exact ClosB.mk (by rw [HR.out]; exact HM.out) (by rw [HR.out]; rfl) (by rw [HR.out]; simp)
      · have HR : Hid (fldR l m = ((l.drop (Vi.get l).2.1).take (Vi.get l).1, (Vi.get l).2.1 + (Vi.get l).1, 0)) := by
          show _ = _; unfold fldR; rw [if_neg (by simp [he]), if_neg (by rw [hM]; exact hmany), if_neg (by rw [hn]; exact hmore)]
        have HP := part_ok A' (n - (Vi.get l).2.1) (cap - (Vi.get l).2.1) ((Vi.get l).1 : Int) w (by omega) (by omega) (by omega)
        rw [Int.toNat_natCast] at HP
        have HC := cloneK_any A' (Vi.get l).1 (Vi.get l).1 ((l.drop (Vi.get l).2.1).take (Vi.get l).1) w (by rw [List.length_take]; omega) (by omega) (hd.take _)
        generalize hr : Vi.get l = r at *
        obtain ⟨r1, r2, r3⟩ := r
        simp only at he hmany HG hle hd hA' hdl hmore HP HC HR
        subst he
        have h2n : r2 ≤ n := by omega
        have h3n : r1 ≤ n := by omega
        clear hr h1 hz hd hdl HC0
        clear hM
        go_enter Try.func92, Try.ntmps92
        go_wp2_with (first
          | (go_at_call 87; refine HG.mono ?_; rintro e w1 ⟨rfl, rfl⟩)
          | (go_at_call 93; refine HP.mono ?_; rintro e w1 ⟨rfl, rfl⟩)
          | (go_at_call 51; refine HC.mono ?_; rintro e w1 ⟨v, rfl, hm⟩; have HM := Lib.hid hm; clear hm))
        go_ret3
        exact ClosB.mk (by rw [HR.out]; exact HM.out) (by rw [HR.out]; rfl) (by rw [HR.out]; intro _; simp)
  · have HR : Hid (fldR l m = ([], 0, (Vi.get l).2.2)) := by show _ = _; unfold fldR; rw [if_pos he]
    have h3 : ¬ (((Vi.get l).2.2 : Nat) : Int) = 0 := by omega
    have h4 : ((((Vi.get l).2.2 : Nat) : Int) != 0) = true := by simp; omega
    have HE := Lib.hid he
    clear he hle h1 HC0
    go_enter Try.func92, Try.ntmps92
    go_wp2_with (go_at_call 87; refine HG.mono ?_; rintro e w1 ⟨rfl, rfl⟩)
    go_ret3
    exact ClosB.mk (by rw [HR.out]; exact MadeK.nil _ _ (Below.refl _ _)) (by rw [HR.out]) (fun h => by rw [HR.out] at h ⊢; exact absurd h HE.out)
end
end Go.Proofs.Ytlbfibnfmijahaa

namespace Go.Proofs.Ytlbfibnfmijahaa
open Go.RowKit Go.Shelf
set_option maxRecDepth 100000
attribute [local go_sem] Oper.semAt_some

end Go.Proofs.Ytlbfibnfmijahaa

namespace Go.Proofs.Ytlbfibnfmijahaa
open Go.RowKit
set_option maxRecDepth 100000

/-- place and error behind a read -/
def placeOf (p e : Nat) (size : Nat) : Nat := if e = 0 then p + size else p
def errOf (e err : Nat) : Nat := if e = 0 then err else e
def ansI (e : Nat) (x : Int) : Int := if e = 0 then x else 0
def ansB (e : Nat) (L : List Int) : List Int := if e = 0 then L else []
/-- what a read that answers a number leaves -/
def ReadI (k : IntKind) (lo b : Nat) (zs : List Int) (p e : Nat) (x : Int × Nat × Nat) (w : World) (r : Ending) (w' : World) : Prop :=
  r = .returned (.int k (ansI e x.1)) ∧ LensAt w' lo b zs (placeOf p e x.2.1) (errOf e x.2.2) ∧ Off (fun j => j = b) w w'
/-- what a read that answers bytes leaves -/
def ReadB (lo b : Nat) (zs : List Int) (p e : Nat) (x : List Int × Nat × Nat) (w : World) (r : Ending) (w' : World) : Prop :=
  (∃ A c, r = .returned (.slice A (ansB e x.1).length c) ∧ (ansB e x.1).length ≤ c ∧ NumsIn .u8 w' w.heap.size w'.heap.size A (ansB e x.1)) ∧ LensAt w' lo b zs (placeOf p e x.2.1) (errOf e x.2.2) ∧ Off (fun j => j = b) w w'

section
variable {k : IntKind} {lo b : Nat} {zs : List Int} {p e : Nat} {x : Int × Nat × Nat} {y : List Int × Nat × Nat} {w w0 w' : World} {r : Ending}
theorem ReadI.later (h : ReadI k lo b zs p e x w r w') (hb : Below w0.heap.size w0 w) : ReadI k lo b zs p e x w0 r w' :=
  ⟨h.1, h.2.1, (Off.of_below hb).trans h.2.2 fun _ _ h => h⟩
theorem ReadB.later (h : ReadB lo b zs p e y w r w') (hb : Below w0.heap.size w0 w) : ReadB lo b zs p e y w0 r w' := by
  obtain ⟨⟨A, c, h1, h2, h3⟩, h4, h5⟩ := h
  exact ⟨⟨A, c, h1, h2, h3.lower hb.size⟩, h4, (Off.of_below hb).trans h5 fun _ _ h => h⟩
theorem ReadI.err (h : LensAt w lo b zs p e) (he : e ≠ 0) : ReadI k lo b zs p e x w (.returned (.int k 0)) w :=
  ⟨by simp [ansI, he], by simpa [placeOf, errOf, he] using h, Off.refl _ _⟩
theorem ReadB.err (h : LensAt w lo b zs p e) (he : e ≠ 0) : ReadB lo b zs p e y w (.returned (.slice none 0 0)) w :=
  ⟨⟨none, 0, by simp [ansB, he], by simp [ansB, he], fun hn => absurd (by simp [ansB, he]) hn⟩, by simpa [placeOf, errOf, he] using h, Off.refl _ _⟩
theorem ReadI.ok {w1 : World} (h : LensAt w lo b zs p 0) (h0 : x.2.2 = 0) (hs : p + x.2.1 ≤ zs.length) (hb : Below w.heap.size w w1) : ReadI k lo b zs p 0 x w (.returned (.int k x.1)) (w1.setCell ⟨b, 1, none⟩ (.int .i64 (p + x.2.1))) := by
  refine ⟨by simp [ansI], ?_, (Off.of_below (S := fun j => j = b) hb).setCell (p := ⟨b, 1, none⟩) rfl _⟩
  have := (h.below hb).move hs
  rw [Int.natCast_add] at this
  simpa [placeOf, errOf, h0] using this
theorem ReadI.bad {w1 : World} (h : LensAt w lo b zs p 0) (h0 : x.1 = 0) (h1 : x.2.1 = 0) (hb : Below w.heap.size w w1) : ReadI k lo b zs p 0 x w (.returned (.int k 0)) (w1.setCell ⟨b, 2, none⟩ (.int .i64 x.2.2)) := by
  refine ⟨by simp [ansI, h0], ?_, (Off.of_below (S := fun j => j = b) hb).setCell (p := ⟨b, 2, none⟩) rfl _⟩
  have := (h.below hb).fail x.2.2
  simpa [placeOf, errOf, h1] using this
theorem NumsIn.set {w1 : World} {A : Option Addr} {L : List Int} {s : Nat} (h : NumsIn .u8 w1 s w1.heap.size A L) (hb : b < s) (o : Nat) (v : Value) : NumsIn .u8 (w1.setCell ⟨b, o, none⟩ v) s (w1.setCell ⟨b, o, none⟩ v).heap.size A L := by
  have h2 := h.keeps (B := w1.setCell ⟨b, o, none⟩ v) ⟨by simp [World.setCell], fun k h4 h5 => Below.heap_setCell _ _ _ _ (by simp; omega)⟩
  exact h2.mono (by simp [World.setCell])
theorem ReadB.ok {w1 : World} {v : Value} (h : LensAt w lo b zs p 0) (h0 : y.2.2 = 0) (hs : p + y.2.1 ≤ zs.length) (hm : MadeK 5 .u8 w w1 y.1 v) : ReadB lo b zs p 0 y w (.returned v) (w1.setCell ⟨b, 1, none⟩ (.int .i64 (p + y.2.1))) := by
  refine ⟨?_, ?_, (Off.of_below (S := fun j => j = b) hm.2).setCell (p := ⟨b, 1, none⟩) rfl _⟩
  · obtain ⟨A, c, rfl, hc, _⟩ := hm.slice
    exact ⟨A, c, by simp [ansB], by simpa [ansB] using hc, by simpa [ansB] using hm.numsIn.set h.lt 1 _⟩
  · have := (h.below hm.2).move hs
    rw [Int.natCast_add] at this
    simpa [placeOf, errOf, h0] using this
theorem ReadB.bad {w1 : World} (h : LensAt w lo b zs p 0) (h0 : y.1 = []) (h1 : y.2.1 = 0) (hb : Below w.heap.size w w1) : ReadB lo b zs p 0 y w (.returned (.slice none 0 0)) (w1.setCell ⟨b, 2, none⟩ (.int .i64 y.2.2)) := by
  refine ⟨⟨none, 0, by simp [ansB, h0], by simp [ansB, h0], fun hn => absurd (by simp [ansB, h0]) hn⟩, ?_, (Off.of_below (S := fun j => j = b) hb).setCell (p := ⟨b, 2, none⟩) rfl _⟩
  have := (h.below hb).fail y.2.2
  simpa [placeOf, errOf, h1] using this
end
theorem numR_err {l : List Int} {m : Int} (h : (numR l m).2.2 ≠ 0) : (numR l m).1 = 0 ∧ (numR l m).2.1 = 0 := by
  revert h; unfold numR; split; (intro _; exact ⟨rfl, rfl⟩); split; (intro _; exact ⟨rfl, rfl⟩); intro h; exact absurd rfl h
theorem sigR_err {l : List Int} {m1 m : Int} (h : (sigR l m1 m).2.2 ≠ 0) : (sigR l m1 m).1 = 0 ∧ (sigR l m1 m).2.1 = 0 := by
  revert h; unfold sigR; split; (intro _; exact ⟨rfl, rfl⟩); split; (intro _; exact ⟨rfl, rfl⟩); intro h; exact absurd rfl h
theorem fldR_err {l : List Int} {m : Int} (h : (fldR l m).2.2 ≠ 0) : (fldR l m).1 = [] ∧ (fldR l m).2.1 = 0 := by
  revert h; unfold fldR; split; (intro _; exact ⟨rfl, rfl⟩); split; (intro _; exact ⟨rfl, rfl⟩); split; (intro _; exact ⟨rfl, rfl⟩); intro h; exact absurd rfl h
theorem drop_fit {zs : List Int} {p s : Nat} (h : s ≤ (zs.drop p).length) (hp : p ≤ zs.length) : p + s ≤ zs.length := by rw [List.length_drop] at h; omega
theorem drop_bytes {zs : List Int} (hz : ∀ x ∈ zs, 0 ≤ x ∧ x ≤ 255) (p : Nat) : ∀ x ∈ zs.drop p, 0 ≤ x ∧ x ≤ 255 := fun x hx => hz x (List.mem_of_mem_drop hx)

section
variable (lo b : Nat) (zs : List Int) (p e : Nat) (w : World)
theorem rdN_any (c : Nat) (most : Int) (h : LensAt w lo b zs p e) (hl : zs.length ≤ 1000000000) (hz : ∀ x ∈ zs, 0 ≤ x ∧ x ≤ 255) (hc : w.cell? ⟨c, 0, none⟩ = some (.int .u64 most)) :
    Calls Try.prog 89 #[.pointer (some ⟨b, 0, none⟩), .func (.func 90) #[] #[.pointer (some ⟨c, 0, none⟩)]] w fun r w' => ReadI .u64 lo b zs p e (numR (zs.drop p) most) w r w' := by
  by_cases he : e = 0
  · subst he
    have HC : ∀ n A cap, Nums .u8 (w.drewN n) b A (zs.drop p) → zs.length - p ≤ cap → Calls Try.prog 90 #[.slice A (zs.length - p) cap, .pointer (some ⟨c, 0, none⟩)] (w.drewN n) fun r w' => ClosI .u64 (numR (zs.drop p) most) r ∧ w.drewN n = w' := fun n A cap hn _ =>
      numc_any b A (zs.length - p) cap c (zs.drop p) (w.drewN n) most (by simp) (by omega) (drop_bytes hz p) hn hc
    by_cases h0 : (numR (zs.drop p) most).2.2 = 0
    · refine (rdN_ok lo b zs p w c h hl (numR (zs.drop p) most).2.1 (drop_fit (numR_le most) h.place) (fun v _ => v = .int .u64 (numR (zs.drop p) most).1) (fun n A cap hn hc2 => (HC n A cap hn hc2).mono ?_)).mono ?_
      · rintro r w' ⟨⟨v, s, rfl, hv⟩, rfl⟩
        obtain ⟨rfl, rfl⟩ := hv h0
        exact ⟨_, by rw [h0]; rfl, below_drewN (Below.refl _ _) n, rfl⟩
      · rintro r w' ⟨v, w1, rfl, rfl, hb, rfl⟩
        exact ReadI.ok h h0 (drop_fit (numR_le most) h.place) hb
    · refine (rdN_bad lo b zs p w c h hl (numR (zs.drop p) most).2.2 h0 (fun _ _ => True) (fun n A cap hn hc2 => (HC n A cap hn hc2).mono ?_)).mono ?_
      · rintro r w' ⟨⟨v, s, rfl, _⟩, rfl⟩
        exact ⟨_, _, rfl, below_drewN (Below.refl _ _) n, trivial⟩
      · rintro r w' ⟨rfl, v, w1, _, hb, rfl⟩
        exact ReadI.bad h (numR_err h0).1 (numR_err h0).2 hb
  · refine (rdN_err lo b zs p e w _ h he).mono ?_
    rintro r w' ⟨rfl, rfl⟩
    exact ReadI.err h he
theorem rdS_any (c c2 : Nat) (least most : Int) (h : LensAt w lo b zs p e) (hl : zs.length ≤ 1000000000) (hz : ∀ x ∈ zs, 0 ≤ x ∧ x ≤ 255) (hc : w.cell? ⟨c, 0, none⟩ = some (.int .i64 least)) (hd : w.cell? ⟨c2, 0, none⟩ = some (.int .i64 most)) :
    Calls Try.prog 85 #[.pointer (some ⟨b, 0, none⟩), .func (.func 86) #[] #[.pointer (some ⟨c, 0, none⟩), .pointer (some ⟨c2, 0, none⟩)]] w fun r w' => ReadI .i64 lo b zs p e (sigR (zs.drop p) least most) w r w' := by
  by_cases he : e = 0
  · subst he
    have HC : ∀ n A cap, Nums .u8 (w.drewN n) b A (zs.drop p) → zs.length - p ≤ cap → Calls Try.prog 86 #[.slice A (zs.length - p) cap, .pointer (some ⟨c, 0, none⟩), .pointer (some ⟨c2, 0, none⟩)] (w.drewN n) fun r w' => ClosI .i64 (sigR (zs.drop p) least most) r ∧ w.drewN n = w' := fun n A cap hn _ =>
      sigc_any b A (zs.length - p) cap c (zs.drop p) (w.drewN n) c2 least most (by simp) (by omega) (drop_bytes hz p) hn hc hd
    by_cases h0 : (sigR (zs.drop p) least most).2.2 = 0
    · refine (rdS_ok lo b zs p w c c2 h hl (sigR (zs.drop p) least most).2.1 (drop_fit (sigR_le least most) h.place) (fun v _ => v = .int .i64 (sigR (zs.drop p) least most).1) (fun n A cap hn hc2 => (HC n A cap hn hc2).mono ?_)).mono ?_
      · rintro r w' ⟨⟨v, s, rfl, hv⟩, rfl⟩
        obtain ⟨rfl, rfl⟩ := hv h0
        exact ⟨_, by rw [h0]; rfl, below_drewN (Below.refl _ _) n, rfl⟩
      · rintro r w' ⟨v, w1, rfl, rfl, hb, rfl⟩
        exact ReadI.ok h h0 (drop_fit (sigR_le least most) h.place) hb
    · refine (rdS_bad lo b zs p w c c2 h hl (sigR (zs.drop p) least most).2.2 h0 (fun _ _ => True) (fun n A cap hn hc2 => (HC n A cap hn hc2).mono ?_)).mono ?_
      · rintro r w' ⟨⟨v, s, rfl, _⟩, rfl⟩
        exact ⟨_, _, rfl, below_drewN (Below.refl _ _) n, trivial⟩
      · rintro r w' ⟨rfl, v, w1, _, hb, rfl⟩
        exact ReadI.bad h (sigR_err h0).1 (sigR_err h0).2 hb
  · refine (rdS_err lo b zs p e w _ h he).mono ?_
    rintro r w' ⟨rfl, rfl⟩
    exact ReadI.err h he
theorem rdF_any (c : Nat) (m : Int) (hm0 : -9223372036854775808 ≤ m) (hm1 : m ≤ 9223372036854775807) (h : LensAt w lo b zs p e) (hl : zs.length ≤ 1000000000) (hz : ∀ x ∈ zs, 0 ≤ x ∧ x ≤ 255) (hc : w.cell? ⟨c, 0, none⟩ = some (.int .i64 m)) :
    Calls Try.prog 91 #[.pointer (some ⟨b, 0, none⟩), .func (.func 92) #[] #[.pointer (some ⟨c, 0, none⟩)]] w fun r w' => ReadB lo b zs p e (fldR (zs.drop p) m) w r w' := by
  by_cases he : e = 0
  · subst he
    have HC : ∀ n A cap, Nums .u8 (w.drewN n) b A (zs.drop p) → zs.length - p ≤ cap → Calls Try.prog 92 #[.slice A (zs.length - p) cap, .pointer (some ⟨c, 0, none⟩)] (w.drewN n) fun r w' => ClosB (fldR (zs.drop p) m) (w.drewN n) r w' := fun n A cap hn hcp =>
      fldc_any A (zs.length - p) cap c (zs.drop p) (w.drewN n) m (by simp) hcp (by omega) (drop_bytes hz p) hm0 hm1 (hn.mono (Nat.le_of_lt h.lt)) hc
    by_cases h0 : (fldR (zs.drop p) m).2.2 = 0
    · refine (rdF_ok lo b zs p w c h hl (fldR (zs.drop p) m).2.1 (drop_fit (fldR_le m) h.place) (fun v w1 => MadeK 5 .u8 w w1 (fldR (zs.drop p) m).1 v) (fun n A cap hn hc2 => (HC n A cap hn hc2).mono ?_)).mono ?_
      · rintro r w' ⟨v, s, rfl, hmk, hv⟩
        obtain rfl := hv h0
        have hm2 := hmk.less (below_drewN (Below.refl w.heap.size w) n)
        exact ⟨_, by rw [h0]; rfl, hm2.2, hm2⟩
      · rintro r w' ⟨v, w1, rfl, hmk, hb, rfl⟩
        exact ReadB.ok h h0 (drop_fit (fldR_le m) h.place) hmk
    · refine (rdF_bad lo b zs p w c h hl (fldR (zs.drop p) m).2.2 h0 (fun _ _ => True) (fun n A cap hn hc2 => (HC n A cap hn hc2).mono ?_)).mono ?_
      · rintro r w' ⟨v, s, rfl, hmk, _⟩
        exact ⟨_, _, rfl, (hmk.less (below_drewN (Below.refl w.heap.size w) n)).2, trivial⟩
      · rintro r w' ⟨rfl, v, w1, _, hb, rfl⟩
        exact ReadB.bad h (fldR_err h0).1 (fldR_err h0).2 hb
  · refine (rdR_err lo b zs p e w _ h he).mono ?_
    rintro r w' ⟨rfl, rfl⟩
    exact ReadB.err h he
end
end Go.Proofs.Ytlbfibnfmijahaa

namespace Go.Proofs.Ytlbfibnfmijahaa
open Go.RowKit
set_option maxRecDepth 100000
section
variable (lo b : Nat) (zs : List Int) (p e : Nat) (w : World)
theorem lnum_any (most : Int) (h : LensAt w lo b zs p e) (hl : zs.length ≤ 1000000000) (hz : ∀ x ∈ zs, 0 ≤ x ∧ x ≤ 255) :
    Calls Try.prog 72 #[.pointer (some ⟨b, 0, none⟩), .int .u64 most] w fun r w' => ReadI .u64 lo b zs p e (numR (zs.drop p) most) w r w' := by
  have hb : Below w.heap.size w (w.alloc (.cells #[.int .u64 most] 101)) := (Below.refl _ w).alloc (Nat.le_refl _) _
  have HC := (rdN_any lo b zs p e (w.alloc (.cells #[.int .u64 most] 101)) w.heap.size most (h.below hb) hl hz (by simp)).mono fun r w' hr => hr.later hb
  clear h hb hz
  go_enter Try.func72, Try.ntmps72
  go_wp2_with (go_at_call 89; refine HC.mono ?_; rintro r w2 ⟨rfl, hr1, hr2⟩)
  go_ret
  exact ⟨rfl, hr1, hr2⟩
theorem lsig_any (least most : Int) (h : LensAt w lo b zs p e) (hl : zs.length ≤ 1000000000) (hz : ∀ x ∈ zs, 0 ≤ x ∧ x ≤ 255) :
    Calls Try.prog 70 #[.pointer (some ⟨b, 0, none⟩), .int .i64 least, .int .i64 most] w fun r w' => ReadI .i64 lo b zs p e (sigR (zs.drop p) least most) w r w' := by
  have hb : Below w.heap.size w ((w.alloc (.cells #[.int .i64 least] 2)).alloc (.cells #[.int .i64 most] 2)) := ((Below.refl _ w).alloc (Nat.le_refl _) _).alloc (by simp) _
  have HC := (rdS_any lo b zs p e ((w.alloc (.cells #[.int .i64 least] 2)).alloc (.cells #[.int .i64 most] 2)) w.heap.size (w.heap.size + 1) least most (h.below hb) hl hz (by simp) (by simp)).mono fun r w' hr => hr.later hb
  clear h hb hz
  go_enter Try.func70, Try.ntmps70
  go_wp2_with (go_at_call 85; refine HC.mono ?_; rintro r w2 ⟨rfl, hr1, hr2⟩)
  go_ret
  exact ⟨rfl, hr1, hr2⟩
theorem lfld_any (m : Int) (hm0 : -9223372036854775808 ≤ m) (hm1 : m ≤ 9223372036854775807) (h : LensAt w lo b zs p e) (hl : zs.length ≤ 1000000000) (hz : ∀ x ∈ zs, 0 ≤ x ∧ x ≤ 255) :
    Calls Try.prog 78 #[.pointer (some ⟨b, 0, none⟩), .int .i64 m] w fun r w' => ReadB lo b zs p e (fldR (zs.drop p) m) w r w' := by
  have hb : Below w.heap.size w (w.alloc (.cells #[.int .i64 m] 3)) := (Below.refl _ w).alloc (Nat.le_refl _) _
  have HC := (rdF_any lo b zs p e (w.alloc (.cells #[.int .i64 m] 3)) w.heap.size m hm0 hm1 (h.below hb) hl hz (by simp)).mono fun r w' hr => hr.later hb
  clear h hb hz
  go_enter Try.func78, Try.ntmps78
  go_wp2_with (go_at_call 91; refine HC.mono ?_; rintro r w2 ⟨⟨A, c, rfl, hr0, hr3⟩, hr1, hr2⟩)
  go_ret
  exact ⟨⟨A, c, rfl, hr0, hr3⟩, hr1, hr2⟩
end
end Go.Proofs.Ytlbfibnfmijahaa

namespace Go.Proofs.Ytlbfibnfmijahaa
section
variable {P : Program} {ops : Array Oper} {md : Region.Mode} {I : World → Prop} {n : Nat} {tgt : Array Bool}
def wpAny8 (P : Program) (md : Region.Mode) (ops : Array Oper) (tgt : Array Bool) (I : World → Prop) (Q : (World → Prop) → Act → Prop) : Nat → Array Bool → (World → Prop) → Act → Prop
  | 0, listed, C, a => listed = tgt ∧ Q C a
  | fuel + 1, listed, C, a =>
    Region.ready md ops listed ≠ [] ∧
    ∀ i ∈ Region.ready md ops listed, ∀ o, ops[i]? = some o → Step4 P ops I o a C (wpAny8 P md ops tgt I Q fuel (listed.setIfInBounds i true))
theorem wpAny_of_8 {m : Nat} {Q : (World → Prop) → Act → Prop} {Q' : Exit → Act → World → Prop} (hQ : ∀ (C : World → Prop) a w, C w → Q C a → wpAny P md ops Q' m tgt a w) : ∀ (fuel : Nat) (listed : Array Bool) (C : World → Prop) (a : Act) (w : World), C w → (∀ w, C w → I w) →
    wpAny8 P md ops tgt I Q fuel listed C a → wpAny P md ops Q' (fuel + m) listed a w
  | 0, _, C, a, w, hw, _, h => by
    rw [Nat.zero_add, h.1]
    exact hQ C a w hw h.2
  | fuel + 1, listed, C, a, w, hw, hI, h => by
    rw [show fuel + 1 + m = (fuel + m) + 1 by omega]
    refine ⟨fun h0 => absurd h0 h.1, fun i hi => ?_⟩
    obtain ⟨_, o, ho, _⟩ := mem_ready.1 hi
    exact (h.2 i hi o ho).wpOp ho hw hI fun C' a' w' hw' hI' hn => wpAny_of_8 hQ fuel _ C' a' w' hw' hI' hn
def orderB8 (md : Region.Mode) (ops : Array Oper) (n : Nat) (tgt : Array Bool) : List Nat → Array Bool → Bool
  | [], listed => listed == tgt
  | k :: r, listed => (Region.ready md ops listed).contains k && free4 md ops listed k && ((List.range ops.size).all fun j => decide (j < n) || (blocked md ops k).getD j false) && orderB8 md ops n tgt r (listed.setIfInBounds k true)
def tgtB (n m : Nat) : Array Bool := (List.replicate n true ++ List.replicate m false).toArray
def order8 (md : Region.Mode) (ops : Array Oper) (n : Nat) (ks : List Nat) : Bool := Region.noSelect ops && ks.length == n && decide (n ≤ ops.size) && orderB8 md ops n (tgtB n (ops.size - n)) ks (Array.replicate ops.size false)
theorem wpAny8_first {Q : (World → Prop) → Act → Prop} {i : Nat} {oi : Oper} (htg : ∀ j, j < n → tgt.getD j false = true) (hi : ops[i]? = some oi) (hsel : ∀ (j : Nat) (o : Oper) cs b, ops[j]? = some o → o.op ≠ .select cs b) :
    ∀ (fuel : Nat) (listed : Array Bool) (C : World → Prop) (a : Act) (U : Array Bool), (∀ j, j < ops.size → U.getD j false = false → j < n) → Free4 md ops listed i oi U → i ∈ Region.ready md ops listed →
      Step4 P ops I oi a C (wpAny8 P md ops tgt I Q fuel (listed.setIfInBounds i true)) → wpAny8 P md ops tgt I Q (fuel + 1) listed C a := by
  intro fuel
  induction fuel with
  | zero =>
    intro listed C a U hsk hfree hr H
    refine ⟨fun h => (by rw [h] at hr; cases hr), fun j hj o ho => ?_⟩
    by_cases hji : j = i
    · subst hji
      have : o = oi := Option.some.inj (ho.symm.trans hi)
      subst this
      exact H
    · exfalso
      obtain ⟨hjun, oj', hoj', hall⟩ := mem_ready.1 hj
      have hju := hfree.ready hoj' hji hall
      obtain ⟨_, hkind⟩ := hfree.free j oj' hoj' hju hjun
      have hjn := hsk j (Array.getElem?_eq_some_iff.1 hoj').1 hju
      have nil : ∀ {C' : World → Prop} {a' : Act}, wpAny8 P md ops tgt I Q 0 (listed.setIfInBounds i true) C' a' → False := fun h => by
        have h1 := htg j hjn
        rw [← h.1, getD_set_ne false (Ne.symm hji)] at h1
        rw [Array.getD_eq_getD_getElem?] at h1 hjun
        cases hx : listed[j]? with
        | none => rw [hx] at h1; simp at h1
        | some y => rw [hx] at h1 hjun; simp at h1 hjun; rw [h1] at hjun; cases hjun
      rcases H with ⟨_, _, _, hn⟩ | ⟨_, _, _, hn⟩ | ⟨hk, _⟩ | ⟨hk, _⟩
      · exact nil hn
      · exact nil hn
      · rcases hkind with h | h <;> rw [hk] at h <;> simp at h
      · rcases hkind with h | h <;> rw [hk] at h <;> simp at h
  | succ fuel ih =>
    intro listed C a U hsk hfree hr H
    refine ⟨fun h => (by rw [h] at hr; cases hr), fun j hj oj hoj => ?_⟩
    by_cases hji : j = i
    · subst hji
      have : oj = oi := Option.some.inj (hoj.symm.trans hi)
      subst this
      exact H
    · obtain ⟨hjun, oj', hoj', hall⟩ := mem_ready.1 hj
      have : oj' = oj := Option.some.inj (hoj'.symm.trans hoj)
      subst this
      have hju := hfree.ready hoj' hji hall
      obtain ⟨hap, hkind⟩ := hfree.free j oj' hoj hju hjun
      obtain ⟨p1, p2, p3⟩ := Oper.apart_spec hap
      have hsi : ∀ cs b, oi.op ≠ .select cs b := fun cs b => hsel i oi cs b hi
      have hsj : ∀ cs b, oj'.op ≠ .select cs b := fun cs b => hsel j oj' cs b hoj
      have hfree' := hfree.set hju
      have hr' := ready_mono hr (Ne.symm hji)
      have next : ∀ v, (kind3 oi = 0 ∧ YieldsIn P ops (fun _ => True) oi v a ∨ kind3 oi = 1 ∧ YieldsIn P ops I oi v a) → wpAny8 P md ops tgt I Q (fuel + 1) (listed.setIfInBounds i true) C (a.put oi.dst v) → Step4 P ops I oj' a C (wpAny8 P md ops tgt I Q (fuel + 1) (listed.setIfInBounds j true)) := by
        intro v hy hn
        refine Step4.put (v := v) hap hsj (fun C' u h3 => ih _ C' _ U hsk hfree' hr' ?_) (hn.2 j (ready_mono hj hji) oj' hoj)
        have h4 : wpAny8 P md ops tgt I Q fuel ((listed.setIfInBounds j true).setIfInBounds i true) C' ((a.put oj'.dst u).put oi.dst v) := by
          rw [Array.setIfInBounds_comm _ _ hji]
          rw [Act.put_comm a v u p2] at h3
          exact h3
        have hs1 := execOp_put oi hsi a oj'.dst u p3
        have hs2 := wanted_put oi a oj'.dst u p3
        rcases hy with ⟨hk, hy⟩ | ⟨hk, hy⟩
        · exact .inl ⟨hk, v, hy.of_same hs1 hs2, h4⟩
        · exact .inr (.inl ⟨hk, v, hy.of_same hs1 hs2, h4⟩)
      rcases H with ⟨hk, v, hy, hn⟩ | ⟨hk, v, hy, hn⟩ | ⟨hk, _⟩ | ⟨hk, _⟩
      · exact next v (.inl ⟨hk, hy⟩) hn
      · exact next v (.inr ⟨hk, hy⟩) hn
      · rcases hkind with h | h <;> rw [hk] at h <;> simp at h
      · rcases hkind with h | h <;> rw [hk] at h <;> simp at h
theorem wpAny8_order {Q : (World → Prop) → Act → Prop} (htg : ∀ j, j < n → tgt.getD j false = true) (hs : Region.noSelect ops = true) : ∀ (ks : List Nat) (listed : Array Bool) (C : World → Prop) (a : Act),
    orderB8 md ops n tgt ks listed = true → wpO4 P ops I Q ks C a → wpAny8 P md ops tgt I Q ks.length listed C a
  | [], _, _, _, hB, h => ⟨by simpa [orderB8] using hB, h⟩
  | k :: r, listed, C, a, hB, h => by
    obtain ⟨o, ho, h⟩ := h
    simp only [orderB8, Bool.and_eq_true] at hB
    obtain ⟨⟨⟨hr, hf⟩, hsk⟩, hB'⟩ := hB
    refine wpAny8_first htg ho (Region.noSelect_spec hs) r.length listed C a _ (fun j hj hu => ?_) (free4_spec ho hf) (by simpa using hr) (h.mono fun C' a' hn => wpAny8_order htg hs r _ C' a' hB' hn)
    rw [List.all_eq_true] at hsk
    have := hsk j (List.mem_range.2 hj)
    rw [hu] at this
    simpa using this
theorem tgtB_get {n m j : Nat} (h : j < n) : (tgtB n m).getD j false = true := by
  unfold tgtB
  rw [Array.getD_eq_getD_getElem?]
  simp [List.getElem?_append_left, h]
theorem wp_region_order8 {id : Nat} {Q : Exit → Act → World → Prop} {a : Act} {w : World} {l : List Oper} (n : Nat) (ks : List Nat) (I : World → Prop) {C : World → Prop} (hm : P.follows .mixedOrders = true) (hB : order8 .any l.toArray n ks = true)
    (hq : Region.seqB .any l.toArray (l.length - n) n (tgtB n (l.length - n)) = true) (hC : C w.drew) (hI : ∀ w, C w → I w)
    (h : wpO4 P l.toArray I (fun C a' => ∀ w', C w' → wpList P l.toArray Q (l.drop n) a' w') ks C a) : (Code.region id l.toArray true).wp P Q a w := by
  simp only [order8, Bool.and_eq_true, beq_iff_eq, decide_eq_true_eq] at hB
  obtain ⟨⟨⟨hs, hl⟩, hn⟩, hB⟩ := hB
  have hn' : n ≤ l.length := by simpa using hn
  refine wp_region_any hm ?_
  have key := wpAny_of_8 (md := .any) (Q' := Q) (m := l.length - n) (tgt := tgtB n (l.length - n)) (I := I) (Q := fun C a' => ∀ w', C w' → wpList P l.toArray Q (l.drop n) a' w') (fun C a w' hw' h => ?_) ks.length (Array.replicate l.toArray.size false) C a w.drew hC hI (wpAny8_order (fun j hj => tgtB_get hj) hs ks _ C a (by simpa using hB) h)
  · rw [hl, show n + (l.length - n) = l.toArray.size by simp; omega] at key
    exact key
  · have := wpAny_of_seq (md := .any) (Q' := Q) (l.drop n) n (tgtB n (l.length - n)) a w' (fun j => by simp [List.getElem?_drop]) (by rw [List.length_drop]; exact hq) (h w' hw')
    rwa [List.length_drop] at this
end
end Go.Proofs.Ytlbfibnfmijahaa

namespace Go.Proofs.Ytlbfibnfmijahaa
open Go.RowKit Go.Shelf
set_option maxRecDepth 100000
attribute [local go_sem] Oper.semAt_some

theorem row_ne {W : World} {a b : Nat} {c1 c2 : Array Value} {t1 t2 : TypeId} {m1 m2 : Nat × Nat} (h1 : W.heap[a]? = some (.cells c1 t1 m1)) (h2 : W.heap[b]? = some (.cells c2 t2 m2)) (ht : t1 ≠ t2) : a ≠ b := fun e => by
  subst e
  rw [h1] at h2
  injection h2 with h2
  injection h2 with _ h2
  exact ht h2
structure RdAt (lo : Nat) (W : World) (mb lb : Nat) (zs : List Int) (N : Mg) (P C : Value) (p e : Nat) : Prop where
  m : W.heap[mb]? = some (.cells (mC N P C) 33 (0, 0))
  l : LensAt W lo lb zs p e
  a : lb < mb
  p : ∃ a c, P = .slice a N.p.length c ∧ N.p.length ≤ c ∧ NuX W mb lb a (fl2 N.p)
  c : ∃ a c, C = .slice a N.c.length c ∧ N.c.length ≤ c ∧ NuX W mb lb a N.c
  pz : N.p = [] → P = .slice none 0 0
  cz : N.c = [] → C = .slice none 0 0
/-- what reading a field answers and leaves -/
def RdO (lo mb lb : Nat) (zs : List Int) (p : Nat) (x : Nat × Nat × Mg) (w : World) (r : Ending) (w' : World) : Prop :=
  r = .returned (.int .i64 (x.1 : Int)) ∧ Off (fun q => q = mb ∨ q = lb) w w' ∧ (x.1 = 0 → ∃ P C, RdAt lo w' mb lb zs x.2.2 P C (p + x.2.1) 0)
section
variable {lo mb lb : Nat} {w W W' : World} {zs : List Int} {N N' : Mg} {P C P' C' : Value} {p e p' e' : Nat}
theorem RdAt.later (h : RdAt lo W mb lb zs N P C p e) (hb : Below W.heap.size W W') : RdAt lo W' mb lb zs N P C p e := by
  obtain ⟨⟨a, c, h1, h2, h3⟩, ⟨a', c', h4, h5, h6⟩⟩ := And.intro h.p h.c
  exact ⟨(hb.block _ (Array.getElem?_eq_some_iff.1 h.m).1).trans h.m, h.l.below hb, h.a, ⟨a, c, h1, h2, h3.keep (Off.of_below hb)⟩, ⟨a', c', h4, h5, h6.keep (Off.of_below hb)⟩, h.pz, h.cz⟩
/-- the lens is turned -/
theorem RdAt.turn (h : RdAt lo W mb lb zs N P C p e) (hl : LensAt W' lo lb zs p' e') (ho : Off (fun q => q = lb) W W') : RdAt lo W' mb lb zs N P C p' e' := by
  obtain ⟨⟨a, c, h1, h2, h3⟩, ⟨a', c', h4, h5, h6⟩⟩ := And.intro h.p h.c
  have ha := h.a
  have ho2 : Off (fun q => q = mb ∨ q = lb) W W' := ho.mono (fun j _ e => .inr e)
  exact ⟨(ho.block _ (Array.getElem?_eq_some_iff.1 h.m).1 (by omega)).trans h.m, hl, ha, ⟨a, c, h1, h2, h3.keep ho2⟩, ⟨a', c', h4, h5, h6.keep ho2⟩, h.pz, h.cz⟩
theorem NuX.set {a : Option Addr} {l : List Int} (h : NuX W mb lb a l) (j : Nat) (u : Value) : NuX (W.setCell ⟨mb, j, none⟩ u) mb lb a l :=
  h.keep (Off.setCell (S := fun q => q = mb ∨ q = lb) (p := ⟨mb, j, none⟩) (Off.refl _ W) (.inl rfl) u)
/-- a cell of the message is turned -/
theorem RdAt.set (h : RdAt lo W mb lb zs N P C p e) (j : Nat) (u : Value) (hc : (mC N P C).setIfInBounds j u = mC N' P' C')
    (hp : ∃ a c, P' = .slice a N'.p.length c ∧ N'.p.length ≤ c ∧ NuX W mb lb a (fl2 N'.p)) (hcc : ∃ a c, C' = .slice a N'.c.length c ∧ N'.c.length ≤ c ∧ NuX W mb lb a N'.c) (hpz : N'.p = [] → P' = .slice none 0 0) (hcz : N'.c = [] → C' = .slice none 0 0) :
    RdAt lo (W.setCell ⟨mb, j, none⟩ u) mb lb zs N' P' C' p e := by
  obtain ⟨⟨a, c, h1, h2, h3⟩, ⟨a', c', h4, h5, h6⟩⟩ := And.intro hp hcc
  have ha := h.a
  refine ⟨by rw [setCell_at h.m, hc], h.l.off (S := fun q => q = mb) (Off.setCell (S := fun q => q = mb) (p := ⟨mb, j, none⟩) (Off.refl _ W) rfl u) (fun k _ h2 => by omega), ha, ⟨a, c, h1, h2, h3.set j u⟩, ⟨a', c', h4, h5, h6.set j u⟩, hpz, hcz⟩
theorem RdAt.num (h : RdAt lo W mb lb zs N P C p e) {jj : Nat} (hj : jj < 6) (v : Int) : RdAt lo (W.setCell ⟨mb, 1 + jj, none⟩ (.int .i64 v)) mb lb zs (N.put jj v) P C p e := by
  refine h.set (1 + jj) (.int .i64 v) (mC_put hj N P C v) ?_ ?_ ?_ ?_
  · rw [Mg.put_p]; exact h.p
  · rw [Mg.put_c]; exact h.c
  · rw [Mg.put_p]; exact h.pz
  · rw [Mg.put_c]; exact h.cz
theorem RdAt.tx (h : RdAt lo W mb lb zs N P C p e) (s : ByteArray) : RdAt lo (W.setCell ⟨mb, 9, none⟩ (.string s)) mb lb zs { N with tx := s } P C p e :=
  h.set 9 (.string s) rfl h.p h.c h.pz h.cz
theorem RdAt.tg (h : RdAt lo W mb lb zs N P C p e) (s : ByteArray) : RdAt lo (W.setCell ⟨mb, 10, none⟩ (.string s)) mb lb zs { N with tg := s } P C p e :=
  h.set 10 (.string s) rfl h.p h.c h.pz h.cz
end
/-- the lens's error; if it has none, another one where something is amiss -/
def oth (e : Nat) (am : Bool) (E : Int) : Int := if e ≠ 0 then (e : Int) else if am then E else 0
theorem otherwise_any {lo lb : Nat} {zs : List Int} {p e : Nat} {w : World} (h : LensAt w lo lb zs p e) (am : Bool) (E : Int) : Calls Try.prog 76 #[.pointer (some ⟨lb, 0, none⟩), .bool am, .int .i64 E] w fun r w' => r = .returned (.int .i64 (oth e am E)) ∧ w = w' := by
  have K := Lib.hid (lerr_any _ _ _ _ _ _ h)
  clear h
  by_cases he : e = 0
  · subst he
    cases am
    · have hr : oth 0 false E = 0 := by simp [oth]
      rw [hr]
      go_enter Try.func76, Try.ntmps76
      go_wp2_with fail
      refine K.out.mono ?_
      rintro r w2 ⟨rfl, rfl⟩
      go_wp2
      go_ret
      exact ⟨rfl, rfl⟩
    · have hr : oth 0 true E = E := by simp [oth]
      rw [hr]
      go_enter Try.func76, Try.ntmps76
      go_wp2_with fail
      refine K.out.mono ?_
      rintro r w2 ⟨rfl, rfl⟩
      go_wp2
      go_ret
      exact ⟨rfl, rfl⟩
  · have hr : oth e am E = (e : Int) := by simp [oth, he]
    rw [hr]
    have e1 : ((e : Int) != 0) = true := by simpa using he
    go_enter Try.func76, Try.ntmps76
    go_wp2_with fail
    refine K.out.mono ?_
    rintro r w2 ⟨rfl, rfl⟩
    go_wp2
    go_ret
    exact ⟨rfl, rfl⟩
end Go.Proofs.Ytlbfibnfmijahaa

namespace Go.Proofs.Ytlbfibnfmijahaa
section
variable {P : Program} {ops : Array Oper} {md : Region.Mode} {I : World → Prop} {n : Nat} {tgt : Array Bool}

theorem nil_no_enter {o : Oper} {x : Operand} (ho : o.op = .nilCheck x) (ρ : Operand → Value) (w w' : World) (f : FuncId) (args : Array Value) : (execOp ρ o).run P w ≠ .ok (.enter f args) w' := by
  unfold execOp
  simp only [ho]
  intro h
  split at h
  · simp [runtimePanic] at h
  · simp [runtimePanic] at h
  · simp [runtimePanic] at h
  · split at h
    · simp [runtimePanic] at h
    · rw [Sem.run_bind] at h
      generalize Sem.run P program w = r1 at h
      cases r1 with
      | halt y w1 => simp [Result.andThen] at h
      | ok a w1 =>
        simp only [Result.andThen] at h
        rw [Sem.run_bind] at h
        generalize Sem.run P (nilAhead _ _ _ _) w1 = r2 at h
        cases r2 with
        | halt y w2 => simp [Result.andThen] at h
        | ok b w2 =>
          simp only [Result.andThen] at h
          split at h
          · rw [Sem.run_bind] at h
            generalize Sem.run P (unsupported _) w2 = r3 at h
            cases r3 <;> simp [Result.andThen] at h
          · simp at h
    · simp at h
  · simp at h

def kind9 (o : Oper) : Nat := match o.op with
  | .build _ _ => 1
  | .nilCheck _ => 1
  | _ => kind3 o
theorem kind9_one {o : Oper} (h : kind9 o = 1) : (∃ t x, o.op = .load t x) ∨ (∃ t x, o.op = .build t x) ∨ ∃ x, o.op = .nilCheck x := by
  unfold kind9 at h
  split at h
  · exact .inr (.inl ⟨_, _, by assumption⟩)
  · exact .inr (.inr ⟨_, by assumption⟩)
  · exact .inl (kind3_load h)
theorem kind9_else {o : Oper} {n : Nat} (h : kind9 o = n) (hn : n ≠ 1) : kind3 o = n := by
  unfold kind9 at h
  split at h
  · exact absurd h.symm hn
  · exact absurd h.symm hn
  · exact h
theorem one9_no_enter {o : Oper} (h : kind9 o = 1) (ρ : Operand → Value) (w w' : World) (f : FuncId) (args : Array Value) : (execOp ρ o).run P w ≠ .ok (.enter f args) w' := by
  rcases kind9_one h with ⟨t, x, ho⟩ | ⟨t, x, ho⟩ | ⟨x, ho⟩
  · exact load_no_enter ho ρ w w' f args
  · unfold execOp
    simp only [ho]
    exact run_value _ _ _ _ _
  · exact nil_no_enter ho ρ w w' f args
theorem yields_one9 {o : Oper} {v : Value} {a : Act} {C D : World → Prop} (hk : kind9 o = 1) (h : YieldsIn P ops C o v a) (hD : ∀ w, D w → C w) : YieldsIn P ops D o v a := by
  rcases h with ⟨hw, h⟩ | h
  · refine .inl ⟨hw, fun w hwD => ?_⟩
    have h1 := h w (hD w hwD)
    have h2 := one9_no_enter (P := P) hk a.eval w
    unfold Oper.quietAt at h1 ⊢
    generalize (execOp a.eval o).run P w = r at h1 h2
    cases r with
    | ok n w' =>
      cases n with
      | enter f args => exact absurd rfl (h2 w' f args)
      | _ => exact h1
    | halt x w' => exact h1
  · exact .inr h
/-- one operation, in a class of worlds -/
def Step9 (P : Program) (ops : Array Oper) (I : World → Prop) (o : Oper) (a : Act) (C : World → Prop) (K : (World → Prop) → Act → Prop) : Prop :=
  (kind9 o = 0 ∧ ∃ v, YieldsIn P ops (fun _ => True) o v a ∧ K C (a.put o.dst v)) ∨
  (kind9 o = 1 ∧ ∃ v, YieldsIn P ops I o v a ∧ K C (a.put o.dst v)) ∨
  (kind9 o = 2 ∧ ∃ v C', (∀ w, C' w → I w) ∧ StepsIn P ops C C' o v a ∧ K C' (a.put o.dst v)) ∨
  (kind9 o = 3 ∧ ((Region.wanted o (yielded ops a.tmps) = false ∧ K C (a.put o.dst undef)) ∨ (Region.wanted o (yielded ops a.tmps) = true ∧ ∃ (V : Value → Prop) (C' : Value → World → Prop), (∀ v w, C' v w → I w) ∧ (∀ w, C w → famUpon P V C' ((execOp a.eval o).run P w)) ∧ ∀ v, V v → K (C' v) (a.put o.dst v))))

def wpAny9 (P : Program) (md : Region.Mode) (ops : Array Oper) (tgt : Array Bool) (I : World → Prop) (Q : (World → Prop) → Act → Prop) : Nat → Array Bool → (World → Prop) → Act → Prop
  | 0, listed, C, a => listed = tgt ∧ Q C a
  | fuel + 1, listed, C, a =>
    Region.ready md ops listed ≠ [] ∧
    ∀ i ∈ Region.ready md ops listed, ∀ o, ops[i]? = some o → Step9 P ops I o a C (wpAny9 P md ops tgt I Q fuel (listed.setIfInBounds i true))
theorem Step9.wpOp {C : World → Prop} {i : Nat} {o : Oper} {a : Act} {K : (World → Prop) → Act → Prop} {K' : Act → World → Prop} {Q' : Exit → Act → World → Prop} {w : World} (hi : ops[i]? = some o) (h : Step9 P ops I o a C K) (hC : C w) (hCI : ∀ w, C w → I w) (hK : ∀ (C' : World → Prop) a' w', C' w' → (∀ w, C' w → I w) → K C' a' → K' a' w') : wpOp P ops Q' i K' a w := by
  rcases h with ⟨hk, v, hy, hn⟩ | ⟨hk, v, hy, hn⟩ | ⟨hk, v, C', hI, hy, hn⟩ | ⟨hk, h⟩
  · exact OpR.wpOp (C := C) (C' := C) hi (.inl ⟨kind3_pure (kind9_else hk (by decide)), rfl, hy⟩) hC fun w' hw' => hK C _ w' hw' hCI hn
  · have hk1 : kindOf o = 1 := by
      rcases kind9_one hk with ⟨t, x, ho⟩ | ⟨t, x, ho⟩ | ⟨x, ho⟩ <;> simp [kindOf, pureOp, ho]
    exact OpR.wpOp (C := C) (C' := C) hi (.inr (.inl ⟨hk1, rfl, yields_one9 hk hy hCI⟩)) hC fun w' hw' => hK C _ w' hw' hCI hn
  · have hk2 : kindOf o = 2 := by
      have hk := kind9_else hk (by decide)
      unfold kind3 at hk
      unfold kindOf
      split at hk
      · simp at hk
      · rename_i hp
        rw [if_neg hp]
        split at hk
        · simp at hk
        · rename_i heq; simp [heq]
        · simp at hk
    exact OpR.wpOp (C := C) (C' := C') hi (.inr (.inr ⟨hk2, hy⟩)) hC fun w' hw' => hK C' _ w' hw' hI hn
  · unfold Go.wpOp
    simp only [hi]
    rcases h with ⟨hw, hn⟩ | ⟨hw, V, C', hI, hv, hn⟩
    · simp only [hw, Bool.false_eq_true, if_false]
      exact hK C _ w hC hCI hn
    · simp only [hw, if_true]
      left
      have h1 := hv w hC
      unfold Oper.wp
      generalize (execOp a.eval o).run P w = r at h1
      cases r with
      | ok n w' =>
        cases n <;> simp only [famUpon] at h1 <;> simp only [Oper.upon]
        case value u => exact hK (C' u) _ w' h1.2 (hI u) (hn u h1.1)
        case enter f args =>
          refine h1.mono fun e w'' ⟨v, he, hV, hc⟩ => ?_
          subst he
          exact hK (C' v) _ w'' hc (hI v) (hn v hV)
      | halt x w' => simp only [famUpon] at h1
theorem wpAny_of_9 {m : Nat} {Q : (World → Prop) → Act → Prop} {Q' : Exit → Act → World → Prop} (hQ : ∀ (C : World → Prop) a w, C w → Q C a → wpAny P md ops Q' m tgt a w) : ∀ (fuel : Nat) (listed : Array Bool) (C : World → Prop) (a : Act) (w : World), C w → (∀ w, C w → I w) →
    wpAny9 P md ops tgt I Q fuel listed C a → wpAny P md ops Q' (fuel + m) listed a w
  | 0, _, C, a, w, hw, _, h => by
    rw [Nat.zero_add, h.1]
    exact hQ C a w hw h.2
  | fuel + 1, listed, C, a, w, hw, hI, h => by
    rw [show fuel + 1 + m = (fuel + m) + 1 by omega]
    refine ⟨fun h0 => absurd h0 h.1, fun i hi => ?_⟩
    obtain ⟨_, o, ho, _⟩ := mem_ready.1 hi
    exact (h.2 i hi o ho).wpOp ho hw hI fun C' a' w' hw' hI' hn => wpAny_of_9 hQ fuel _ C' a' w' hw' hI' hn
/-- an operation apart: its step is the same whether another's value is in its slot or not -/
theorem Step9.put {oi oj : Oper} {v : Value} {a : Act} {C : World → Prop} {K1 K2 : (World → Prop) → Act → Prop} (hap : oi.apart ops oj = true) (hsj : ∀ cs b, oj.op ≠ .select cs b)
    (hK : ∀ (C' : World → Prop) u, K1 C' ((a.put oi.dst v).put oj.dst u) → K2 C' (a.put oj.dst u)) (h : Step9 P ops I oj (a.put oi.dst v) C K1) : Step9 P ops I oj a C K2 := by
  obtain ⟨p1, p2, p3⟩ := Oper.apart_spec hap
  have he := execOp_put oj hsj a oi.dst v p1
  have hw := wanted_put oj a oi.dst v p1
  rcases h with ⟨hk, u, hy, hn⟩ | ⟨hk, u, hy, hn⟩ | ⟨hk, u, C', hI, hy, hn⟩ | ⟨hk, h⟩
  · exact .inl ⟨hk, u, hy.of_same he.symm hw.symm, hK C u hn⟩
  · exact .inr (.inl ⟨hk, u, hy.of_same he.symm hw.symm, hK C u hn⟩)
  · refine .inr (.inr (.inl ⟨hk, u, C', hI, ?_, hK C' u hn⟩))
    unfold StepsIn at hy ⊢
    rwa [he, hw] at hy
  · refine .inr (.inr (.inr ⟨hk, ?_⟩))
    rcases h with ⟨hwf, hn⟩ | ⟨hwt, V, C', hsub, hv, hn⟩
    · exact .inl ⟨by rw [← hw]; exact hwf, hK C undef hn⟩
    · exact .inr ⟨by rw [← hw]; exact hwt, V, C', hsub, by rwa [he] at hv, fun u hu => hK (C' u) u (hn u hu)⟩
/-! as XQ3's, but a load is free of stores too: they stay in I -/
def free9 (md : Region.Mode) (ops : Array Oper) (listed : Array Bool) (k : Nat) : Bool :=
  let U := blocked md ops k
  U.getD k false && U.size == ops.size &&
  match ops[k]? with
  | none => false
  | some ok => (List.range ops.size).all fun j =>
    match ops[j]? with
    | some oj =>
      if U.getD j false then !listed.getD j false && (j == k || oj.after.any (fun e => Region.binds md e && U.getD e.on false))
      else listed.getD j true || (ok.apart ops oj && (kind9 ok == 0 || kind9 ok == 1))
    | none => true
structure Free9 (md : Region.Mode) (ops : Array Oper) (listed : Array Bool) (i : Nat) (oi : Oper) (U : Array Bool) : Prop where
  size : U.size = ops.size
  own : U.getD i false = true
  wait : ∀ j oj, ops[j]? = some oj → U.getD j false = true → j ≠ i → ∃ e ∈ oj.after, Region.binds md e = true ∧ U.getD e.on false = true
  un : ∀ j, U.getD j false = true → listed.getD j false = false
  free : ∀ j oj, ops[j]? = some oj → U.getD j false = false → listed.getD j true = false → oi.apart ops oj = true ∧ (kind9 oi = 0 ∨ kind9 oi = 1)
theorem free9_spec {i : Nat} {oi : Oper} {listed : Array Bool} (hi : ops[i]? = some oi) (h : free9 md ops listed i = true) : Free9 md ops listed i oi (blocked md ops i) := by
  simp only [free9, hi, List.all_eq_true, List.mem_range, Bool.and_eq_true, beq_iff_eq] at h
  obtain ⟨⟨hown, hsz⟩, h⟩ := h
  have at_ : ∀ j oj, ops[j]? = some oj → (if (blocked md ops i).getD j false = true then (!listed.getD j false && (j == i || oj.after.any (fun e => Region.binds md e && (blocked md ops i).getD e.on false))) = true
      else (listed.getD j true || (oi.apart ops oj && (kind9 oi == 0 || kind9 oi == 1))) = true) := fun j oj hj => by
    have h1 := h j (Array.getElem?_eq_some_iff.1 hj).1
    simp only [hj] at h1
    split at h1 <;> rename_i hu
    · rw [if_pos hu]; exact h1
    · rw [if_neg hu]; exact h1
  refine ⟨hsz, hown, fun j oj hj hu hne => ?_, fun j hu => ?_, fun j oj hj hu hun => ?_⟩
  · have h1 := at_ j oj hj
    rw [if_pos hu] at h1
    simp only [Bool.and_eq_true, Bool.or_eq_true, beq_iff_eq, hne, false_or] at h1
    obtain ⟨e, he, hb⟩ := Array.any_eq_true'.1 h1.2
    simp only [Bool.and_eq_true] at hb
    exact ⟨e, he, hb.1, hb.2⟩
  · have hlt : j < ops.size := by
      rw [← hsz]
      rcases Nat.lt_or_ge j (blocked md ops i).size with h' | h'
      · exact h'
      · simp [Array.getElem?_eq_none h'] at hu
    have h1 := at_ j _ (Array.getElem?_eq_getElem hlt)
    rw [if_pos hu] at h1
    simp only [Bool.and_eq_true, Bool.not_eq_true'] at h1
    exact h1.1
  · have h1 := at_ j oj hj
    rw [if_neg (by rw [hu]; exact Bool.false_ne_true)] at h1
    simp only [hun, Bool.or_eq_true, Bool.false_eq_true, false_or, Bool.and_eq_true, beq_iff_eq] at h1
    exact h1
theorem Free9.ready {i j : Nat} {oi oj : Oper} {listed U : Array Bool} (h : Free9 md ops listed i oi U) (hj : ops[j]? = some oj) (hji : j ≠ i) (hall : ∀ e ∈ oj.after, Region.binds md e = true → listed.getD e.on false = true) : U.getD j false = false := by
  cases hu : U.getD j false with
  | false => rfl
  | true =>
    obtain ⟨e, he, hb, hue⟩ := h.wait j oj hj hu hji
    have h1 := hall e he hb
    rw [h.un e.on hue] at h1
    cases h1
theorem Free9.set {i j : Nat} {oi : Oper} {listed U : Array Bool} (h : Free9 md ops listed i oi U) (hu : U.getD j false = false) : Free9 md ops (listed.setIfInBounds j true) i oi U := by
  refine ⟨h.size, h.own, h.wait, fun k hk => ?_, fun k ok hk hku hun => h.free k ok hk hku ?_⟩
  · have hne : j ≠ k := fun e => by subst e; rw [hu] at hk; cases hk
    rw [getD_set_ne false hne]; exact h.un k hk
  · by_cases hjk : j = k
    · subst hjk
      rcases Nat.lt_or_ge j listed.size with h' | h'
      · simp [h'] at hun
      · simp [Array.getElem?_eq_none (show (listed.setIfInBounds j true).size ≤ j by simpa using h')] at hun
    · rw [getD_set_ne true hjk] at hun; exact hun
/-- may the operations be walked in this order? -/
def orderB9 (md : Region.Mode) (ops : Array Oper) (n : Nat) (tgt : Array Bool) : List Nat → Array Bool → Bool
  | [], listed => listed == tgt
  | k :: r, listed => (Region.ready md ops listed).contains k && free9 md ops listed k && ((List.range ops.size).all fun j => decide (j < n) || (blocked md ops k).getD j false) && orderB9 md ops n tgt r (listed.setIfInBounds k true)
def order9 (md : Region.Mode) (ops : Array Oper) (n : Nat) (ks : List Nat) : Bool := Region.noSelect ops && ks.length == n && decide (n ≤ ops.size) && orderB9 md ops n (tgtB n (ops.size - n)) ks (Array.replicate ops.size false)
theorem wpAny9_first {Q : (World → Prop) → Act → Prop} {i : Nat} {oi : Oper} (htg : ∀ j, j < n → tgt.getD j false = true) (hi : ops[i]? = some oi) (hsel : ∀ (j : Nat) (o : Oper) cs b, ops[j]? = some o → o.op ≠ .select cs b) :
    ∀ (fuel : Nat) (listed : Array Bool) (C : World → Prop) (a : Act) (U : Array Bool), (∀ j, j < ops.size → U.getD j false = false → j < n) → Free9 md ops listed i oi U → i ∈ Region.ready md ops listed →
      Step9 P ops I oi a C (wpAny9 P md ops tgt I Q fuel (listed.setIfInBounds i true)) → wpAny9 P md ops tgt I Q (fuel + 1) listed C a := by
  intro fuel
  induction fuel with
  | zero =>
    intro listed C a U hsk hfree hr H
    refine ⟨fun h => (by rw [h] at hr; cases hr), fun j hj o ho => ?_⟩
    by_cases hji : j = i
    · subst hji
      have : o = oi := Option.some.inj (ho.symm.trans hi)
      subst this
      exact H
    · exfalso
      obtain ⟨hjun, oj', hoj', hall⟩ := mem_ready.1 hj
      have hju := hfree.ready hoj' hji hall
      obtain ⟨_, hkind⟩ := hfree.free j oj' hoj' hju hjun
      have hjn := hsk j (Array.getElem?_eq_some_iff.1 hoj').1 hju
      have nil : ∀ {C' : World → Prop} {a' : Act}, wpAny9 P md ops tgt I Q 0 (listed.setIfInBounds i true) C' a' → False := fun h => by
        have h1 := htg j hjn
        rw [← h.1, getD_set_ne false (Ne.symm hji)] at h1
        rw [Array.getD_eq_getD_getElem?] at h1 hjun
        cases hx : listed[j]? with
        | none => rw [hx] at h1; simp at h1
        | some y => rw [hx] at h1 hjun; simp at h1 hjun; rw [h1] at hjun; cases hjun
      rcases H with ⟨_, _, _, hn⟩ | ⟨_, _, _, hn⟩ | ⟨hk, _⟩ | ⟨hk, _⟩
      · exact nil hn
      · exact nil hn
      · rcases hkind with h | h <;> rw [hk] at h <;> simp at h
      · rcases hkind with h | h <;> rw [hk] at h <;> simp at h
  | succ fuel ih =>
    intro listed C a U hsk hfree hr H
    refine ⟨fun h => (by rw [h] at hr; cases hr), fun j hj oj hoj => ?_⟩
    by_cases hji : j = i
    · subst hji
      have : oj = oi := Option.some.inj (hoj.symm.trans hi)
      subst this
      exact H
    · obtain ⟨hjun, oj', hoj', hall⟩ := mem_ready.1 hj
      have : oj' = oj := Option.some.inj (hoj'.symm.trans hoj)
      subst this
      have hju := hfree.ready hoj' hji hall
      obtain ⟨hap, hkind⟩ := hfree.free j oj' hoj hju hjun
      obtain ⟨p1, p2, p3⟩ := Oper.apart_spec hap
      have hsi : ∀ cs b, oi.op ≠ .select cs b := fun cs b => hsel i oi cs b hi
      have hsj : ∀ cs b, oj'.op ≠ .select cs b := fun cs b => hsel j oj' cs b hoj
      have hfree' := hfree.set hju
      have hr' := ready_mono hr (Ne.symm hji)
      have next : ∀ v, (kind9 oi = 0 ∧ YieldsIn P ops (fun _ => True) oi v a ∨ kind9 oi = 1 ∧ YieldsIn P ops I oi v a) → wpAny9 P md ops tgt I Q (fuel + 1) (listed.setIfInBounds i true) C (a.put oi.dst v) → Step9 P ops I oj' a C (wpAny9 P md ops tgt I Q (fuel + 1) (listed.setIfInBounds j true)) := by
        intro v hy hn
        refine Step9.put (v := v) hap hsj (fun C' u h3 => ih _ C' _ U hsk hfree' hr' ?_) (hn.2 j (ready_mono hj hji) oj' hoj)
        have h4 : wpAny9 P md ops tgt I Q fuel ((listed.setIfInBounds j true).setIfInBounds i true) C' ((a.put oj'.dst u).put oi.dst v) := by
          rw [Array.setIfInBounds_comm _ _ hji]
          rw [Act.put_comm a v u p2] at h3
          exact h3
        have hs1 := execOp_put oi hsi a oj'.dst u p3
        have hs2 := wanted_put oi a oj'.dst u p3
        rcases hy with ⟨hk, hy⟩ | ⟨hk, hy⟩
        · exact .inl ⟨hk, v, hy.of_same hs1 hs2, h4⟩
        · exact .inr (.inl ⟨hk, v, hy.of_same hs1 hs2, h4⟩)
      rcases H with ⟨hk, v, hy, hn⟩ | ⟨hk, v, hy, hn⟩ | ⟨hk, _⟩ | ⟨hk, _⟩
      · exact next v (.inl ⟨hk, hy⟩) hn
      · exact next v (.inr ⟨hk, hy⟩) hn
      · rcases hkind with h | h <;> rw [hk] at h <;> simp at h
      · rcases hkind with h | h <;> rw [hk] at h <;> simp at h
/-- the walk in that order -/
def wpO9 (P : Program) (ops : Array Oper) (I : World → Prop) (Q : (World → Prop) → Act → Prop) : List Nat → (World → Prop) → Act → Prop
  | [], C, a => Q C a
  | k :: r, C, a => ∃ o, ops[k]? = some o ∧ Step9 P ops I o a C (wpO9 P ops I Q r)
theorem Step9.mono {o : Oper} {a : Act} {C : World → Prop} {K K' : (World → Prop) → Act → Prop} (h : Step9 P ops I o a C K) (hK : ∀ C a, K C a → K' C a) : Step9 P ops I o a C K' := by
  rcases h with ⟨hk, v, hy, hn⟩ | ⟨hk, v, hy, hn⟩ | ⟨hk, v, C', hI, hy, hn⟩ | ⟨hk, h⟩
  · exact .inl ⟨hk, v, hy, hK _ _ hn⟩
  · exact .inr (.inl ⟨hk, v, hy, hK _ _ hn⟩)
  · exact .inr (.inr (.inl ⟨hk, v, C', hI, hy, hK _ _ hn⟩))
  · refine .inr (.inr (.inr ⟨hk, ?_⟩))
    rcases h with ⟨hw, hn⟩ | ⟨hw, V, C', hs, hv, hn⟩
    · exact .inl ⟨hw, hK _ _ hn⟩
    · exact .inr ⟨hw, V, C', hs, hv, fun v hV => hK _ _ (hn v hV)⟩
theorem wpAny9_order {Q : (World → Prop) → Act → Prop} (htg : ∀ j, j < n → tgt.getD j false = true) (hs : Region.noSelect ops = true) : ∀ (ks : List Nat) (listed : Array Bool) (C : World → Prop) (a : Act),
    orderB9 md ops n tgt ks listed = true → wpO9 P ops I Q ks C a → wpAny9 P md ops tgt I Q ks.length listed C a
  | [], _, _, _, hB, h => ⟨by simpa [orderB9] using hB, h⟩
  | k :: r, listed, C, a, hB, h => by
    obtain ⟨o, ho, h⟩ := h
    simp only [orderB9, Bool.and_eq_true] at hB
    obtain ⟨⟨⟨hr, hf⟩, hsk⟩, hB'⟩ := hB
    refine wpAny9_first htg ho (Region.noSelect_spec hs) r.length listed C a _ (fun j hj hu => ?_) (free9_spec ho hf) (by simpa using hr) (h.mono fun C' a' hn => wpAny9_order htg hs r _ C' a' hB' hn)
    rw [List.all_eq_true] at hsk
    have := hsk j (List.mem_range.2 hj)
    rw [hu] at this
    simpa using this
theorem wp_region_order9 {id : Nat} {Q : Exit → Act → World → Prop} {a : Act} {w : World} {l : List Oper} (n : Nat) (ks : List Nat) (I : World → Prop) {C : World → Prop} (hm : P.follows .mixedOrders = true) (hB : order9 .any l.toArray n ks = true)
    (hq : Region.seqB .any l.toArray (l.length - n) n (tgtB n (l.length - n)) = true) (hC : C w.drew) (hI : ∀ w, C w → I w)
    (h : wpO9 P l.toArray I (fun C a' => ∀ w', C w' → wpList P l.toArray Q (l.drop n) a' w') ks C a) : (Code.region id l.toArray true).wp P Q a w := by
  simp only [order9, Bool.and_eq_true, beq_iff_eq, decide_eq_true_eq] at hB
  obtain ⟨⟨⟨hs, hl⟩, hn⟩, hB⟩ := hB
  have hn' : n ≤ l.length := by simpa using hn
  refine wp_region_any hm ?_
  have key := wpAny_of_9 (md := .any) (Q' := Q) (m := l.length - n) (tgt := tgtB n (l.length - n)) (I := I) (Q := fun C a' => ∀ w', C w' → wpList P l.toArray Q (l.drop n) a' w') (fun C a w' hw' h => ?_) ks.length (Array.replicate l.toArray.size false) C a w.drew hC hI (wpAny9_order (fun j hj => tgtB_get hj) hs ks _ C a (by simpa using hB) h)
  · rw [hl, show n + (l.length - n) = l.toArray.size by simp; omega] at key
    exact key
  · have := wpAny_of_seq (md := .any) (Q' := Q) (l.drop n) n (tgtB n (l.length - n)) a w' (fun j => by simp [List.getElem?_drop]) (by rw [List.length_drop]; exact hq) (h w' hw')
    rwa [List.length_drop] at this
end
/-! one operation of the walk -/
section
variable {P : Program} {I : World → Prop} {l : List Oper} {Q : (World → Prop) → Act → Prop} {o : Oper} {k : Nat} {r : List Nat} {C : World → Prop} {a : Act}
theorem wpO9_pure (ho : l[k]? = some o) (hk : kind9 o = 0) (h : wpQuiet P l.toArray (fun _ => True) (fun a' => wpO9 P l.toArray I Q r C a') [o] a) : wpO9 P l.toArray I Q (k :: r) C a :=
  ⟨o, at_list ho, .inl ⟨hk, yields_of_quiet h⟩⟩
theorem wpO9_load {t : TypeId} {x : Operand} {ad : Addr} (v : Value) (ho : l[k]? = some o) (hop : o.op = .load t x) (hw : Region.wanted o (yielded l.toArray a.tmps) = true) (hx : a.eval x = .pointer (some ad))
    (hrun : ∀ w, I w → (Instr.loadAt t (.pointer (some ad))).run P w = .ok v w) (h : wpO9 P l.toArray I Q r C (a.put o.dst v)) : wpO9 P l.toArray I Q (k :: r) C a := by
  refine ⟨o, at_list ho, .inr (.inl ⟨by simp [kind9, kind3, pureOp, hop], v, .inl ⟨hw, fun w hC => ?_⟩, h⟩)⟩
  unfold Oper.quietAt execOp
  simp only [hop, hx]
  rw [Sem.run_bind, hrun w hC]
  exact ⟨rfl, rfl⟩
theorem wpO9_build {t : TypeId} {xs : Array (Nat × Operand)} (v : Value) (ho : l[k]? = some o) (hop : o.op = .build t xs) (hw : Region.wanted o (yielded l.toArray a.tmps) = true)
    (hrun : ∀ w, I w → (execOp a.eval o).run P w = .ok (.value v) w) (h : wpO9 P l.toArray I Q r C (a.put o.dst v)) : wpO9 P l.toArray I Q (k :: r) C a := by
  refine ⟨o, at_list ho, .inr (.inl ⟨by simp [kind9, hop], v, .inl ⟨hw, fun w hC => ?_⟩, h⟩)⟩
  unfold Oper.quietAt
  rw [hrun w hC]
  exact ⟨rfl, rfl⟩
theorem wpO9_call (V : Value → Prop) (C' : Value → World → Prop) {f : FuncId} {args : Array Value} (ho : l[k]? = some o) (hk : kind9 o = 3) (hw : Region.wanted o (yielded l.toArray a.tmps) = true) (hsub : ∀ v w, C' v w → I w)
    (hrun : ∀ w, (execOp a.eval o).run P w = .ok (.enter f args) w) (hc : ∀ w, C w → Calls P f args w fun e w'' => ∃ v, e = .returned v ∧ V v ∧ C' v w'') (h : ∀ v, V v → wpO9 P l.toArray I Q r (C' v) (a.put o.dst v)) : wpO9 P l.toArray I Q (k :: r) C a :=
  ⟨o, at_list ho, .inr (.inr (.inr ⟨hk, .inr ⟨hw, V, C', hsub, fun w hC => by rw [hrun w]; exact hc w hC, h⟩⟩))⟩
theorem wpO9_store (C' : World → Prop) {t : TypeId} {x y : Operand} (ho : l[k]? = some o) (hop : o.op = .store t x y) (hd : o.dst = none) (hg : o.guard = none) (ad : Addr) (v : Value) (hx : a.eval x = .pointer (some ad)) (hy : a.eval y = v) (hsub : ∀ w, C' w → I w)
    (hrun : ∀ w, C w → ∃ w', (Instr.storeAt t (.pointer (some ad)) v).run P w = .ok () w' ∧ C' w') (h : wpO9 P l.toArray I Q r C' a) : wpO9 P l.toArray I Q (k :: r) C a := by
  refine ⟨o, at_list ho, .inr (.inr (.inl ⟨by simp [kind9, kind3, pureOp, hop], undef, C', hsub, .inl ⟨by simp [Region.wanted, hg], fun w hw => ?_⟩, ?_⟩))⟩
  · obtain ⟨w', hr, hc⟩ := hrun w hw
    unfold execOp
    simp only [hop, hx, hy]
    rw [Sem.run_bind, hr]
    exact ⟨rfl, hc⟩
  · rw [hd]; exact h
theorem wpO9_do (V : Value → Prop) (C' : Value → World → Prop) (ho : l[k]? = some o) (hk : kind9 o = 3) (hw : Region.wanted o (yielded l.toArray a.tmps) = true) (hsub : ∀ v w, C' v w → I w)
    (hrun : ∀ w, C w → ∃ u w', (execOp a.eval o).run P w = .ok (.value u) w' ∧ V u ∧ C' u w') (h : ∀ v, V v → wpO9 P l.toArray I Q r (C' v) (a.put o.dst v)) : wpO9 P l.toArray I Q (k :: r) C a :=
  ⟨o, at_list ho, .inr (.inr (.inr ⟨hk, .inr ⟨hw, V, C', hsub, fun w hC => by
    obtain ⟨u, w', h1, h2, h3⟩ := hrun w hC
    rw [h1]
    exact ⟨h2, h3⟩, h⟩⟩))⟩
theorem wpO9_nil {x : Operand} {ad : Addr} (ho : l[k]? = some o) (hop : o.op = .nilCheck x) (hw : Region.wanted o (yielded l.toArray a.tmps) = true) (hx : a.eval x = .pointer (some ad))
    (h : wpO9 P l.toArray I Q r C (a.put o.dst (.pointer (some ad)))) : wpO9 P l.toArray I Q (k :: r) C a := by
  refine ⟨o, at_list ho, .inr (.inl ⟨by simp [kind9, hop], .pointer (some ad), .inl ⟨hw, fun w hC => ?_⟩, h⟩)⟩
  unfold Oper.quietAt execOp
  simp only [hop, hx]
  exact ⟨rfl, rfl⟩
end
end Go.Proofs.Ytlbfibnfmijahaa

namespace Go.Proofs.Ytlbfibnfmijahaa
open Go.RowKit Go.Shelf
set_option maxRecDepth 100000
attribute [local go_sem] Oper.semAt_some

theorem numR_ways (l : List Int) (mo : Int) (h0 : 0 ≤ mo) : ∃ (X : Int) (u er : Nat), numR l mo = (X, u, er) ∧ 0 ≤ X ∧ X ≤ mo ∧ u ≤ l.length ∧
    (((Vi.get l).2.2 ≠ 0 ∧ er = (Vi.get l).2.2) ∨ ((Vi.get l).2.2 = 0 ∧ mo < ((Vi.get l).1 : Int) ∧ er = 5) ∨ ((Vi.get l).2.2 = 0 ∧ ((Vi.get l).1 : Int) ≤ mo ∧ er = 0 ∧ X = ((Vi.get l).1 : Int) ∧ u = (Vi.get l).2.1)) := by
  have hle := Vi.get_le l
  unfold numR
  by_cases h1 : (Vi.get l).2.2 ≠ 0
  · rw [if_pos h1]
    exact ⟨0, 0, _, rfl, by omega, by omega, by omega, .inl ⟨h1, rfl⟩⟩
  · rw [if_neg h1]
    have h1' : (Vi.get l).2.2 = 0 := by simpa using h1
    by_cases h2 : mo < ((Vi.get l).1 : Int)
    · rw [if_pos h2]
      exact ⟨0, 0, _, rfl, by omega, by omega, by omega, .inr (.inl ⟨h1', h2, rfl⟩)⟩
    · rw [if_neg h2]
      exact ⟨_, _, _, rfl, by omega, by omega, hle.2.2.1, .inr (.inr ⟨h1', by omega, rfl, rfl, rfl⟩)⟩
set_option maxHeartbeats 4000000 in
theorem plainr_any (lo mb lb bf bm : Nat) (zs : List Int) (N : Mg) (P C : Value) (p : Nat) (f : Fd) (w : World) (h : RdAt lo w mb lb zs N P C p 0) (hf : FdX f) (hso : f.so = 1) (hmo : 0 ≤ f.mo) (hl : zs.length ≤ 1000000) (hz : Bys zs)
    (hbf : w.heap[bf]? = some (.cells f.cs 75 (0, 0))) (hbm : w.heap[bm]? = some (.cells #[.pointer (some ⟨mb, 0, none⟩)] 87 (0, 0))) :
    Calls Try.prog 81 #[.pointer (some ⟨lb, 0, none⟩), .pointer (some ⟨bf, 0, none⟩), .pointer (some ⟨bm, 0, none⟩)] w fun r w' => RdO lo mb lb zs p (rdF N f (zs.drop p)) w r w' := by
  obtain ⟨jj, hj6, hjj⟩ := hf.pl (by omega)
  have hz6 : (jj : Int) < 6 := by omega
  obtain ⟨X, u, er, hX, x0, x1, hu, hw⟩ := numR_ways (zs.drop p) f.mo hmo
  have K := lnum_any lo lb zs p 0 w f.mo h.l (by omega) hz
  rw [hX] at K
  unfold ReadI at K
  simp only [ansI, placeOf, errOf, if_true] at K
  have hle := hf.le
  obtain ⟨R, hR⟩ : ∃ R, rdF N f (zs.drop p) = R := ⟨_, rfl⟩
  rw [hR]
  unfold rdF at hR
  rw [if_pos hso] at hR
  have hlm := h.a
  obtain ⟨-, -, -, hbl, -⟩ := And.intro trivial (And.intro trivial (And.intro trivial (And.intro h.l.open trivial)))
  obtain ⟨_, _, hbl, -⟩ := hbl
  have n1 := row_ne hbf h.m (by decide)
  have n2 := row_ne hbf hbl (by decide)
  have n3 := row_ne hbm h.m (by decide)
  have n4 := row_ne hbm hbl (by decide)
  obtain ⟨d0, d1, d2, d3, d4, d5, d6⟩ := fd_block hbf
  have hm2 : f.mo ≤ 1000000 := by omega
  have K := Lib.hid K
  have HH := Lib.hid h
  have HBF := Lib.hid hbf
  have HBM := Lib.hid hbm
  have HR := Lib.hid hR
  have HW := Lib.hid hw
  have HLE := Lib.hid hle
  clear hR hw hle hX h hbl d0 d1 d2 d3 d5 d6
  go_enter Try.func81, Try.ntmps81
  go_wp2_with fail
  refine K.out.mono ?_
  rintro r w1 ⟨rfl, hl1, ho1⟩
  have h1 := HH.out.turn hl1 ho1
  have hbf1 := (ho1.block _ (Array.getElem?_eq_some_iff.1 HBF.out).1 n2).trans HBF.out
  have hbm1 := (ho1.block _ (Array.getElem?_eq_some_iff.1 HBM.out).1 n4).trans HBM.out
  obtain ⟨d0, d1, d2, d3, d4, d5, d6⟩ := fd_block hbf1
  rw [hjj] at d2
  have k0 := row_cell hbm1 0 _ rfl
  have c7 := mg_at h1.m hj6
  have z7 := frozen_of_row w1 mb (1 + jj) _ _ h1.m
  have HN := Lib.hid (h1.num hj6 X)
  have HOF : Hid (Off (fun q => q = mb ∨ q = lb) w (w1.setCell ⟨mb, 1 + jj, none⟩ (.int .i64 X)).drew) := Lib.hid (((ho1.mono (S' := fun q => q = mb ∨ q = lb) (fun _ _ e => .inr e)).setCell (p := ⟨mb, 1 + jj, none⟩) (.inl rfl) _).trans (Off.of_below (S := fun _ => False) (Below.refl _ _).drew) (fun _ _ h => h.elim))
  have d3' := (fd_block (w := w1.setCell ⟨mb, 1 + jj, none⟩ (.int .i64 X)) ((Below.heap_setCell w1 ⟨mb, 1 + jj, none⟩ (.int .i64 X) bf n1).trans hbf1)).2.2.2.1
  clear K hl1 ho1 h1 hbf1 hbm1 d0 d1 d4 d5 d6
  go_wp2_with fail
  go_region
  go_wp2_with fail
  have HN2 := Lib.hid (HN.out.later (Below.refl _ _).drew)
  refine (otherwise_any HN2.out.l (decide (X < f.le)) 5).mono ?_
  rintro r w2 ⟨rfl, rfl⟩
  go_wp2
  go_ret
  have hR := HR.out
  rcases HW.out with ⟨g1, rfl⟩ | ⟨g1, g2, rfl⟩ | ⟨g1, g2, rfl, g3, rfl⟩
  · rw [if_pos g1] at hR
    subst hR
    exact ⟨by simp [oth, g1], HOF.out, fun h => absurd h g1⟩
  · rw [if_neg (by simpa using g1), if_pos (.inl g2)] at hR
    subst hR
    exact ⟨by simp [oth], HOF.out, fun h => by simp at h⟩
  · by_cases hlt : X < f.le
    · rw [if_neg (by simpa using g1), if_pos (.inr (by omega))] at hR
      subst hR
      exact ⟨by simp [oth, hlt], HOF.out, fun h => by simp at h⟩
    · rw [if_neg (by simpa using g1), if_neg (by omega), hjj, Int.toNat_natCast, ← g3] at hR
      subst hR
      exact ⟨by simp [oth, hlt], HOF.out, fun _ => ⟨P, C, HN2.out⟩⟩
theorem sigR_ways (l : List Int) : ∃ (X : Int) (u er : Nat), sigR l (-1000000) 1000000 = (X, u, er) ∧ -1000000 ≤ X ∧ X ≤ 1000000 ∧ u ≤ l.length ∧
    (((Vi.get l).2.2 ≠ 0 ∧ er = (Vi.get l).2.2) ∨ ((Vi.get l).2.2 = 0 ∧ (zagZ ((Vi.get l).1 : Int) < -1000000 ∨ 1000000 < zagZ ((Vi.get l).1 : Int)) ∧ er = 5) ∨ ((Vi.get l).2.2 = 0 ∧ ¬ (zagZ ((Vi.get l).1 : Int) < -1000000 ∨ 1000000 < zagZ ((Vi.get l).1 : Int)) ∧ er = 0 ∧ X = zagZ ((Vi.get l).1 : Int) ∧ u = (Vi.get l).2.1)) := by
  have hle := Vi.get_le l
  unfold sigR
  by_cases h1 : (Vi.get l).2.2 ≠ 0
  · rw [if_pos h1]
    exact ⟨0, 0, _, rfl, by omega, by omega, by omega, .inl ⟨h1, rfl⟩⟩
  · rw [if_neg h1]
    have h1' : (Vi.get l).2.2 = 0 := by simpa using h1
    by_cases h2 : zagZ ((Vi.get l).1 : Int) < -1000000 ∨ 1000000 < zagZ ((Vi.get l).1 : Int)
    · rw [if_pos h2]
      exact ⟨0, 0, _, rfl, by omega, by omega, by omega, .inr (.inl ⟨h1', h2, rfl⟩)⟩
    · rw [if_neg h2]
      exact ⟨_, _, _, rfl, by omega, by omega, hle.2.2.1, .inr (.inr ⟨h1', h2, rfl, rfl, rfl⟩)⟩
set_option maxHeartbeats 4000000 in
theorem signedr_any (lo mb lb bf bm : Nat) (zs : List Int) (N : Mg) (P C : Value) (p : Nat) (f : Fd) (w : World) (h : RdAt lo w mb lb zs N P C p 0) (hf : FdX f) (hso : f.so = 2) (hl : zs.length ≤ 1000000) (hz : Bys zs)
    (hbf : w.heap[bf]? = some (.cells f.cs 75 (0, 0))) (hbm : w.heap[bm]? = some (.cells #[.pointer (some ⟨mb, 0, none⟩)] 87 (0, 0))) :
    Calls Try.prog 69 #[.pointer (some ⟨lb, 0, none⟩), .pointer (some ⟨bf, 0, none⟩), .pointer (some ⟨bm, 0, none⟩)] w fun r w' => RdO lo mb lb zs p (rdF N f (zs.drop p)) w r w' := by
  obtain ⟨jj, hj6, hjj⟩ := hf.pl (by omega)
  have hz6 : (jj : Int) < 6 := by omega
  obtain ⟨hfl, hfm⟩ := hf.two hso
  obtain ⟨X, u, er, hX, x0, x1, hu, hw⟩ := sigR_ways (zs.drop p)
  have KS : Hid (∀ W, LensAt W lo lb zs p 0 → Calls Try.prog 70 #[.pointer (some ⟨lb, 0, none⟩), .int .i64 (-1000000), .int .i64 1000000] W fun r w' => r = .returned (.int .i64 X) ∧ LensAt w' lo lb zs (p + u) er ∧ Off (fun q => q = lb) W w') := Lib.hid fun W hW => by
    have K := lsig_any lo lb zs p 0 W (-1000000) 1000000 hW (by omega) hz
    rw [hX] at K
    unfold ReadI at K
    simpa only [ansI, placeOf, errOf, if_true] using K
  obtain ⟨R, hR⟩ : ∃ R, rdF N f (zs.drop p) = R := ⟨_, rfl⟩
  rw [hR]
  unfold rdF at hR
  rw [if_neg (show ¬ f.so = 1 by omega), if_pos hso] at hR
  have hlm := h.a
  obtain ⟨_, _, hbl, -⟩ := h.l.open
  have n1 := row_ne hbf h.m (by decide)
  have n2 := row_ne hbf hbl (by decide)
  have n3 := row_ne hbm h.m (by decide)
  have n4 := row_ne hbm hbl (by decide)
  have hlb := h.l.lt
  have HH := Lib.hid h
  have HR := Lib.hid hR
  have HW := Lib.hid hw
  have hI : ∀ W, Off (fun q => q = lb) w W → W.heap[bf]? = some (.cells f.cs 75 (0, 0)) ∧ W.heap[bm]? = some (.cells #[.pointer (some ⟨mb, 0, none⟩)] 87 (0, 0)) := fun W hW => ⟨(hW.block _ (Array.getElem?_eq_some_iff.1 hbf).1 n2).trans hbf, (hW.block _ (Array.getElem?_eq_some_iff.1 hbm).1 n4).trans hbm⟩
  have lM : ∀ W, Off (fun q => q = lb) w W → (Instr.loadAt 87 (.pointer (some ⟨bm, 0, none⟩))).run Try.prog W = .ok (.pointer (some ⟨mb, 0, none⟩)) W := fun W hW => by
    have k := row_cell (hI W hW).2 0 _ rfl
    simp [Instr.loadAt, go_sem, k]
  have lF : ∀ W, Off (fun q => q = lb) w W → (Instr.loadAt 3 (.pointer (some ⟨bf, 2, none⟩))).run Try.prog W = .ok (.int .i64 (jj : Int)) W := fun W hW => by
    have k := (fd_block (hI W hW).1).2.2.1
    rw [hjj] at k
    simp [Instr.loadAt, go_sem, k]
  have lL : ∀ W, Off (fun q => q = lb) w W → (Instr.loadAt 3 (.pointer (some ⟨bf, 3, none⟩))).run Try.prog W = .ok (.int .i64 (-1000000)) W := fun W hW => by
    have k := (fd_block (hI W hW).1).2.2.2.1
    rw [hfl] at k
    simp [Instr.loadAt, go_sem, k]
  have lH : ∀ W, Off (fun q => q = lb) w W → (Instr.loadAt 3 (.pointer (some ⟨bf, 4, none⟩))).run Try.prog W = .ok (.int .i64 1000000) W := fun W hW => by
    have k := (fd_block (hI W hW).1).2.2.2.2.1
    rw [hfm] at k
    simp [Instr.loadAt, go_sem, k]
  clear hR hw hX h hbl hbf hbm hf hfl hfm hz
  go_enter Try.func69, Try.ntmps69
  go_wp2_with fail
  refine wp_region_order9 12 (0 :: 1 :: 2 :: 3 :: 4 :: 5 :: 6 :: 7 :: 9 :: 10 :: 8 :: 11 :: []) (fun W => Off (fun q => q = lb) w W) (C := fun W => Below w.heap.size w W) (by kernel_rfl) (by kernel_rfl) (by kernel_rfl) (Below.refl _ _).drew (fun W hW => Off.of_below hW) ?_
  refine wpO9_load (ad := ⟨bm, 0, none⟩) (.pointer (some ⟨mb, 0, none⟩)) rfl rfl rfl (by rfl) lM ?_
  simp only [Act.put, List.setIfInBounds_toArray, List.set_cons_succ, List.set_cons_zero]
  repeat (refine wpO9_pure rfl rfl ?_; go_big_quiet_step (fail); refine wpQuiet_nil ?_)
  refine wpO9_load (ad := ⟨bf, 2, none⟩) (.int .i64 (jj : Int)) rfl rfl rfl (by rfl) lF ?_
  simp only [Act.put, List.setIfInBounds_toArray, List.set_cons_succ, List.set_cons_zero]
  repeat (refine wpO9_pure rfl rfl ?_; go_big_quiet_step (fail); refine wpQuiet_nil ?_)
  refine wpO9_load (ad := ⟨bf, 3, none⟩) (.int .i64 (-1000000)) rfl rfl rfl (by rfl) lL ?_
  simp only [Act.put, List.setIfInBounds_toArray, List.set_cons_succ, List.set_cons_zero]
  repeat (refine wpO9_pure rfl rfl ?_; go_big_quiet_step (fail); refine wpQuiet_nil ?_)
  refine wpO9_load (ad := ⟨bf, 4, none⟩) (.int .i64 1000000) rfl rfl rfl (by rfl) lH ?_
  simp only [Act.put, List.setIfInBounds_toArray, List.set_cons_succ, List.set_cons_zero]
  refine wpO9_nil (ad := ⟨mb, 0, none⟩) rfl rfl rfl (by rfl) ?_
  simp only [Act.put, List.setIfInBounds_toArray, List.set_cons_succ, List.set_cons_zero]
  repeat (refine wpO9_pure rfl rfl ?_; go_big_quiet_step (fail); refine wpQuiet_nil ?_)
  refine wpO9_call (fun v => v = .int .i64 X) (fun _ W => LensAt W lo lb zs (p + u) er ∧ Off (fun q => q = lb) w W) (f := 70) (args := #[.pointer (some ⟨lb, 0, none⟩), .int .i64 (-1000000), .int .i64 1000000]) rfl rfl rfl (fun _ W hW => hW.2) (fun x => by first | rfl | (simp [go_sem]; done)) (fun W hW => (KS.out W (HH.out.later hW).l).mono (fun e w' h => ⟨_, h.1, rfl, h.2.1, (Off.of_below (S := fun q => q = lb) hW).trans h.2.2 (fun _ _ h => h)⟩)) ?_
  rintro v rfl
  simp only [Act.put, List.setIfInBounds_toArray, List.set_cons_succ, List.set_cons_zero]
  repeat (refine wpO9_pure rfl rfl ?_; go_big_quiet_step (fail); refine wpQuiet_nil ?_)
  rintro w1 ⟨hl1, ho1⟩
  simp only [List.drop_succ_cons, List.drop_zero]
  have h1 := HH.out.turn hl1 ho1
  have c7 := mg_at h1.m hj6
  have z7 := frozen_of_row w1 mb (1 + jj) _ _ h1.m
  have HN := Lib.hid (h1.num hj6 X)
  have HOF : Hid (Off (fun q => q = mb ∨ q = lb) w (w1.setCell ⟨mb, 1 + jj, none⟩ (.int .i64 X))) := Lib.hid ((ho1.mono (S' := fun q => q = mb ∨ q = lb) (fun _ _ e => .inr e)).setCell (p := ⟨mb, 1 + jj, none⟩) (.inl rfl) _)
  clear hl1 ho1 h1 hI lM lF lL lH KS
  go_wp2_with fail
  refine (lerr_any _ _ _ _ _ _ HN.out.l).mono ?_
  rintro r w2 ⟨rfl, rfl⟩
  go_wp2
  go_ret
  have hR := HR.out
  rcases HW.out with ⟨g1, rfl⟩ | ⟨g1, g2, rfl⟩ | ⟨g1, g2, rfl, g3, rfl⟩
  · rw [if_pos g1] at hR
    subst hR
    exact ⟨rfl, HOF.out, fun h => absurd h g1⟩
  · rw [if_neg (by simpa using g1), if_pos g2] at hR
    subst hR
    exact ⟨rfl, HOF.out, fun h => by simp at h⟩
  · rw [if_neg (by simpa using g1), if_neg g2, hjj, Int.toNat_natCast, ← g3] at hR
    subst hR
    exact ⟨rfl, HOF.out, fun _ => ⟨P, C, HN.out⟩⟩
end Go.Proofs.Ytlbfibnfmijahaa

namespace Go.Proofs.Ytlbfibnfmijahaa
open Go.RowKit
section
variable {P : Program} {l : List Oper} {vs : List Value} {fs : List Tmp} {FS : Tmp → Value → World → Prop} {I : World → Prop} {a0 : Act}
section
variable {ops : Array Oper} {m : Tmp} {St : (Tmp → Value) → World → Value → World → Prop} {Sf : World → Prop} {E : Act → Prop}
end
/-! ### its steps -/
section
variable {m : Tmp} {St : (Tmp → Value) → World → Value → World → Prop} {Sf : World → Prop} {E : Act → Prop} {o : Oper} {rest : List Oper} {a : Act}
end
end
end Go.Proofs.Ytlbfibnfmijahaa

namespace Go.Proofs.Ytlbfibnfmijahaa
open Go.RowKit Go.Shelf
set_option maxRecDepth 100000
attribute [local go_sem] Oper.semAt_some

section
variable {w W W' : World} {b4 b8 b11 : Nat} {M : Mg} {P C : Value} {x y : Int}
end
theorem rdP_step (m : Nat) (a : Int × Int) (l : List Int) : rdP (m + 1) a l = if (rdX a.1 l).1 ≠ 0 then ((rdX a.1 l).1, 0, [])
    else if (rdX a.2 (l.drop (rdX a.1 l).2.1)).1 ≠ 0 then ((rdX a.2 (l.drop (rdX a.1 l).2.1)).1, 0, [])
    else ((rdP m ((rdX a.1 l).2.2, (rdX a.2 (l.drop (rdX a.1 l).2.1)).2.2) ((l.drop (rdX a.1 l).2.1).drop (rdX a.2 (l.drop (rdX a.1 l).2.1)).2.1)).1, (rdX a.1 l).2.1 + (rdX a.2 (l.drop (rdX a.1 l).2.1)).2.1 + (rdP m ((rdX a.1 l).2.2, (rdX a.2 (l.drop (rdX a.1 l).2.1)).2.2) ((l.drop (rdX a.1 l).2.1).drop (rdX a.2 (l.drop (rdX a.1 l).2.1)).2.1)).2.1, ((rdX a.1 l).2.2, (rdX a.2 (l.drop (rdX a.1 l).2.1)).2.2) :: (rdP m ((rdX a.1 l).2.2, (rdX a.2 (l.drop (rdX a.1 l).2.1)).2.2) ((l.drop (rdX a.1 l).2.1).drop (rdX a.2 (l.drop (rdX a.1 l).2.1)).2.1)).2.2) := rfl
/-- so many of a point's two numbers have been read -/
def PIn (x y : Int) (l : List Int) (k c : Nat) (x' y' : Int) : Prop :=
  (k = 0 → c = 0 ∧ x' = x ∧ y' = y) ∧ (k = 1 → rdX x l = (0, c, x') ∧ y' = y) ∧ (k = 2 → ∃ c1 c2, c = c1 + c2 ∧ rdX x l = (0, c1, x') ∧ rdX y (l.drop c1) = (0, c2, y'))
theorem PIn.err {x y x' y' : Int} {l : List Int} {k c : Nat} (h : PIn x y l k c x' y') (hk : k < 2) {e p : Nat} {v : Int} (hr : rdX (if k = 0 then x' else y') (l.drop c) = (e, p, v)) (he : e ≠ 0) (m : Nat) : rdP (m + 1) (x, y) l = (e, 0, []) := by
  obtain ⟨h0, h1, -⟩ := h
  rw [rdP_step]
  rcases (show k = 0 ∨ k = 1 by omega) with rfl | rfl
  · obtain ⟨rfl, rfl, rfl⟩ := h0 rfl
    rw [if_pos rfl, List.drop_zero] at hr
    rw [hr, if_pos he]
  · obtain ⟨h5, h6⟩ := h1 rfl
    subst h6
    rw [if_neg (by decide)] at hr
    rw [h5, if_neg (by simp)]
    simp only
    rw [hr, if_pos he]
theorem PIn.next {x y x' y' : Int} {l : List Int} {k c : Nat} (h : PIn x y l k c x' y') (hk : k < 2) {p : Nat} {v : Int} (hr : rdX (if k = 0 then x' else y') (l.drop c) = (0, p, v)) : PIn x y l (k + 1) (c + p) (if k = 0 then v else x') (if k = 0 then y' else v) := by
  obtain ⟨h0, h1, -⟩ := h
  rcases (show k = 0 ∨ k = 1 by omega) with rfl | rfl
  · obtain ⟨rfl, rfl, rfl⟩ := h0 rfl
    rw [if_pos rfl, List.drop_zero] at hr
    exact ⟨fun h => absurd h (by decide), fun _ => ⟨by rw [hr]; simp, rfl⟩, fun h => absurd h (by decide)⟩
  · obtain ⟨h5, h6⟩ := h1 rfl
    subst h6
    rw [if_neg (by decide)] at hr
    exact ⟨fun h => absurd h (by decide), fun h => absurd h (by decide), fun _ => ⟨c, p, rfl, h5, hr⟩⟩
theorem PIn.two {x y x' y' : Int} {l : List Int} {c : Nat} (h : PIn x y l 2 c x' y') (m : Nat) : rdP (m + 1) (x, y) l = ((rdP m (x', y') (l.drop c)).1, c + (rdP m (x', y') (l.drop c)).2.1, (x', y') :: (rdP m (x', y') (l.drop c)).2.2) := by
  obtain ⟨c1, c2, rfl, h1, h2⟩ := h.2.2 rfl
  rw [rdP_step]
  simp only
  rw [h1, if_neg (by simp)]
  simp only
  rw [h2, if_neg (by simp)]
  simp only
  rw [List.drop_drop]
theorem exec_appendH {P : Program} {w w' : World} {o : Oper} {b : Act} {v1 v2 v' : Value} (s x : Operand) (t : TypeId) (hop : o.op = Op.call { callee := Callee.builtin Builtin.append, args := #[s, x], argTypes := #[t, t] })
    (hs : b.eval s = v1) (hx : b.eval x = v2) (hrun : (Builtin.append_ #[t, t] o.type #[v1, v2]).run P w = .ok v' w') : (execOp b.eval o).run P w = .ok (.value v') w' := by
  simp [execOp, hop, resolve, invoke, builtin, hs, hx, hrun, Result.andThen]
/-- what the slots of a path's statement hold -/
def FPp (B : Nat) (zs : List Int) (np : Nat) (x y : Int) (q : Tmp) (v : Value) (W : World) : Prop :=
  if q = 66 then ∃ g, v = .slice (some ⟨g, 0, none⟩) 0 0 ∧ W.ownsRow B 114 2 v 0 []
  else if q = 69 then W.ownsRow B 114 2 v np (zs.map (Value.int .i64))
  else if q = 71 then ∃ g, v = .slice (some ⟨g, 0, none⟩) 1 1 ∧ W.heap[g]? = some (.cells #[.int .i64 x, .int .i64 y] 114 (0, 0))
  else True
theorem FPp.later {B : Nat} {zs : List Int} {np : Nat} {x y : Int} {q : Tmp} {v : Value} {W W' : World} (h : FPp B zs np x y q v W) (hb : Below W.heap.size W W') : FPp B zs np x y q v W' := by
  unfold FPp at h ⊢
  split
  · rename_i e
    rw [if_pos e] at h
    obtain ⟨g, e1, h1⟩ := h
    exact ⟨g, e1, own_below7 h1 hb⟩
  · rename_i e
    rw [if_neg e] at h
    split
    · rename_i e
      rw [if_pos e] at h
      exact own_below7 h hb
    · rename_i e
      rw [if_neg e] at h
      split
      · rename_i e
        rw [if_pos e] at h
        obtain ⟨g, e1, h1⟩ := h
        exact ⟨g, e1, (hb.block _ (Array.getElem?_eq_some_iff.1 h1).1).trans h1⟩
      · trivial

end Go.Proofs.Ytlbfibnfmijahaa

namespace Go.Proofs.Ytlbfibnfmijahaa
open Go.RowKit Go.Shelf
set_option maxRecDepth 100000
attribute [local go_sem] Oper.semAt_some

/-- while cells are read: the message's box, the lens, the cells' own row, the last cell's box -/
structure CSt (w : World) (lo mb lb ab bm : Nat) (zs : List Int) (N : Mg) (P : Value) (L : List Int) (a : Int) (p e : Nat) (C : Value) (W : World) : Prop where
  m : W.heap[mb]? = some (.cells (mC { N with c := L } P C) 33 (0, 0))
  l : LensAt W lo lb zs p e
  o : W.ownsRow w.heap.size 3 1 C L.length (L.map (Value.int .i64))
  at' : W.heap[ab]? = some (.cells #[.int .i64 a] 3 (0, 0))
  pm : W.heap[bm]? = some (.cells #[.pointer (some ⟨mb, 0, none⟩)] 87 (0, 0))
  off : Off (fun q => q = mb ∨ q = lb ∨ q = ab) w W
  lt : lb < mb ∧ mb < ab ∧ mb < bm ∧ ab < w.heap.size ∧ bm < w.heap.size
section
variable {w W W' : World} {lo mb lb ab bm : Nat} {zs : List Int} {N : Mg} {P C : Value} {L : List Int} {a : Int} {p e p' e' : Nat}
theorem CSt.later (h : CSt w lo mb lb ab bm zs N P L a p e C W) (hb : Below W.heap.size W W') : CSt w lo mb lb ab bm zs N P L a p e C W' :=
  ⟨(hb.block _ (Array.getElem?_eq_some_iff.1 h.m).1).trans h.m, h.l.below hb, own_below7 h.o hb, (hb.block _ (Array.getElem?_eq_some_iff.1 h.at').1).trans h.at', (hb.block _ (Array.getElem?_eq_some_iff.1 h.pm).1).trans h.pm, h.off.trans (Off.of_below (S := fun _ => False) hb) (fun _ _ e => e.elim), h.lt⟩
/-- the lens is turned -/
theorem CSt.turn (h : CSt w lo mb lb ab bm zs N P L a p e C W) (hl : LensAt W' lo lb zs p' e') (ho : Off (fun q => q = lb) W W') : CSt w lo mb lb ab bm zs N P L a p' e' C W' := by
  obtain ⟨h1, h2, h3, h4, h5⟩ := h.lt
  exact ⟨(ho.block _ (Array.getElem?_eq_some_iff.1 h.m).1 (by omega)).trans h.m, hl, own_offM h.o ho (fun g hg e => by have := (h.o.lt g hg).1; omega), (ho.block _ (Array.getElem?_eq_some_iff.1 h.at').1 (by omega)).trans h.at', (ho.block _ (Array.getElem?_eq_some_iff.1 h.pm).1 (by omega)).trans h.pm, h.off.trans ho (fun _ _ e => .inr (.inl e)), h.lt⟩
/-- the last cell is told -/
theorem CSt.set (h : CSt w lo mb lb ab bm zs N P L a p e C W) (y : Int) : CSt w lo mb lb ab bm zs N P L y p e C (W.setCell ⟨ab, 0, none⟩ (.int .i64 y)) := by
  obtain ⟨h1, h2, h3, h4, h5⟩ := h.lt
  have ho : Off (fun q => q = ab) W (W.setCell ⟨ab, 0, none⟩ (.int .i64 y)) := Off.setCell (S := fun q => q = ab) (p := ⟨ab, 0, none⟩) (Off.refl _ W) rfl _
  have hne := row_ne h.pm h.at' (by decide)
  exact ⟨(ho.block _ (Array.getElem?_eq_some_iff.1 h.m).1 (by omega)).trans h.m, h.l.off ho (fun k _ hk => by omega), own_offM h.o ho (fun g hg e => by have := (h.o.lt g hg).1; omega), by rw [setCell_at h.at']; rfl, (ho.block _ (Array.getElem?_eq_some_iff.1 h.pm).1 hne).trans h.pm, h.off.trans ho (fun _ _ e => .inr (.inr e)), h.lt⟩
/-- the cells have grown -/
theorem CSt.grow (h : CSt w lo mb lb ab bm zs N P L a p e C W) {v : Value} {y : Int} (hown : W'.ownsRow w.heap.size 3 1 v (L.length + 1) ((L ++ [y]).map (Value.int .i64))) (hg : W.grownBy W' C.ownBlock) :
    W'.heap[mb]? = some (.cells (mC { N with c := L } P C) 33 (0, 0)) ∧ W'.heap[ab]? = some (.cells #[.int .i64 a] 3 (0, 0)) ∧ CSt w lo mb lb ab bm zs N P (L ++ [y]) a p e v (W'.setCell ⟨mb, 8, none⟩ v) := by
  obtain ⟨h1, h2, h3, h4, h5⟩ := h.lt
  have ho : Off (fun q => C.ownBlock = some q) W W' := ⟨hg.os, hg.tape, hg.output, hg.size, fun k hk hn => hg.block k hk (fun e => hn e.symm)⟩
  have hno : ∀ q, q < w.heap.size → ¬ C.ownBlock = some q := fun q hq e => by have := (h.o.lt q e).1; omega
  have m1 := (ho.block _ (Array.getElem?_eq_some_iff.1 h.m).1 (hno _ (by omega))).trans h.m
  have a1 := (ho.block _ (Array.getElem?_eq_some_iff.1 h.at').1 (hno _ (by omega))).trans h.at'
  have b1 := (ho.block _ (Array.getElem?_eq_some_iff.1 h.pm).1 (hno _ (by omega))).trans h.pm
  have hof : Off (fun q => q = mb) W' (W'.setCell ⟨mb, 8, none⟩ v) := Off.setCell (S := fun q => q = mb) (p := ⟨mb, 8, none⟩) (Off.refl _ W') rfl _
  refine ⟨m1, a1, by rw [setCell_at m1]; rfl, (h.l.off ho (fun k _ hk => hno k (by omega))).off hof (fun k _ hk => by omega), own_offM (by simpa using hown) hof (fun g hg e => by have := (hown.lt g hg).1; omega), (hof.block _ (Array.getElem?_eq_some_iff.1 a1).1 (by omega)).trans a1, (hof.block _ (Array.getElem?_eq_some_iff.1 b1).1 (by omega)).trans b1, (h.off.trans ho (fun j hj e => absurd e (hno j hj))).trans hof (fun _ _ e => .inl e), h.lt⟩
end
set_option maxHeartbeats 8000000 in
theorem cellr_any (w : World) (lo mb lb ab bm : Nat) (zs : List Int) (N : Mg) (P : Value) (L : List Int) (a : Int) (p : Nat) (C : Value) (W : World) (h : CSt w lo mb lb ab bm zs N P L a p 0 C W) (ha0 : -1 ≤ a) (ha1 : a ≤ 65535) (hL : L.length ≤ 40) (hl : zs.length ≤ 1000000) (hz : Bys zs) :
    Calls Try.prog 75 #[.pointer (some ⟨lb, 0, none⟩), .pointer (some ⟨ab, 0, none⟩), .pointer (some ⟨bm, 0, none⟩)] W fun r W' =>
      r = .returned (.int .i64 ((rdG a (zs.drop p)).1 : Int)) ∧ Off (fun q => q = mb ∨ q = lb ∨ q = ab) w W' ∧ ((rdG a (zs.drop p)).1 = 0 → ∃ C', CSt w lo mb lb ab bm zs N P (L ++ [(rdG a (zs.drop p)).2.2]) (rdG a (zs.drop p)).2.2 (p + (rdG a (zs.drop p)).2.1) 0 C' W') := by
  obtain ⟨ii, hii, hzi, hzi1, hzi2⟩ := info_parts i64Info
  obtain ⟨X, u, er, hX, x0, x1, hu, hw⟩ := numR_ways (zs.drop p) 65535 (by omega)
  have KS : Hid (∀ V, LensAt V lo lb zs p 0 → Calls Try.prog 72 #[.pointer (some ⟨lb, 0, none⟩), .int .u64 65535] V fun r w' => r = .returned (.int .u64 X) ∧ LensAt w' lo lb zs (p + u) er ∧ Off (fun q => q = lb) V w') := Lib.hid fun V hV => by
    have K := lnum_any lo lb zs p 0 V 65535 hV (by omega) hz
    rw [hX] at K
    unfold ReadI at K
    simpa only [ansI, placeOf, errOf, if_true] using K
  obtain ⟨R, hR⟩ : ∃ R, rdG a (zs.drop p) = R := ⟨_, rfl⟩
  rw [hR]
  unfold rdG at hR
  obtain ⟨h1, h2, h3, h4, h5⟩ := h.lt
  have n1 := row_ne h.at' h.pm (by decide)
  have HH := Lib.hid h
  have HR := Lib.hid hR
  have HW := Lib.hid hw
  have hAt := h.at'
  have hlat := (Array.getElem?_eq_some_iff.1 hAt).1
  have lA : ∀ V, Off (fun q => q = lb) W V → (Instr.loadAt 3 (.pointer (some ⟨ab, 0, none⟩))).run Try.prog V = .ok (.int .i64 a) V := fun V hV => by
    have k := row_cell ((hV.block _ hlat (by omega)).trans hAt) 0 _ rfl
    simp [Instr.loadAt, go_sem, k]
  clear hR hw hX h hz hAt
  go_enter Try.func75, Try.ntmps75
  go_wp2_with fail
  refine wp_region_order8 6 (0 :: 1 :: 2 :: 3 :: 4 :: 5 :: []) (fun V => Off (fun q => q = lb) W V) (C := fun V => Below W.heap.size W V) (by kernel_rfl) (by kernel_rfl) (by kernel_rfl) (Below.refl _ _).drew (fun V hV => Off.of_below hV) ?_
  refine wpO4_load (ad := ⟨ab, 0, none⟩) (.int .i64 a) rfl rfl rfl (by rfl) lA ?_
  simp only [Act.put, List.setIfInBounds_toArray, List.set_cons_succ, List.set_cons_zero]
  repeat (refine wpO4_pure rfl rfl ?_; go_big_quiet_step (fail); refine wpQuiet_nil ?_)
  refine wpO4_call (fun v => v = .int .u64 X) (fun _ V => LensAt V lo lb zs (p + u) er ∧ Off (fun q => q = lb) W V) (f := 72) (args := #[.pointer (some ⟨lb, 0, none⟩), .int .u64 65535]) rfl rfl rfl (fun _ V hV => hV.2) (fun x => by first | rfl | (simp [go_sem]; done)) (fun V hV => (KS.out V (HH.out.later hV).l).mono (fun e w' h => ⟨_, h.1, rfl, h.2.1, (Off.of_below (S := fun q => q = lb) hV).trans h.2.2 (fun _ _ h => h)⟩)) ?_
  rintro v rfl
  simp only [Act.put, List.setIfInBounds_toArray, List.set_cons_succ, List.set_cons_zero]
  repeat (refine wpO4_pure rfl rfl ?_; go_big_quiet_step (fail); refine wpQuiet_nil ?_)
  rintro W1 ⟨hl1, ho1⟩
  simp only [List.drop_succ_cons, List.drop_zero]
  have g1 := HH.out.turn hl1 ho1
  have c0 := row_cell g1.at' 0 _ rfl
  have z0 := frozen_of_row W1 ab 0 _ _ g1.at'
  have g2 := g1.set (a + (X + 1))
  obtain ⟨y, hy⟩ : ∃ y, a + (X + 1) = y := ⟨_, rfl⟩
  rw [hy] at g2
  obtain ⟨W2, hW2⟩ : ∃ W2, W1.setCell ⟨ab, 0, none⟩ (.int .i64 y) = W2 := ⟨_, rfl⟩
  rw [hW2] at g2
  have HG2 := Lib.hid g2
  have HW2 := Lib.hid hW2
  have HY := Lib.hid hy
  clear g1 g2 hl1 ho1 lA KS hW2 hy
  go_wp2_with fail
  rw [HY.out, HW2.out]
  have hsw := HG2.out.off.size
  have lM : ∀ V, Below w.heap.size W2 V → (Instr.loadAt 87 (.pointer (some ⟨bm, 0, none⟩))).run Try.prog V = .ok (.pointer (some ⟨mb, 0, none⟩)) V := fun V hV => by
    have k := row_cell ((hV.block bm (by omega)).trans HG2.out.pm) 0 _ rfl
    simp [Instr.loadAt, go_sem, k]
  obtain ⟨ca, cc, hCv, hcc, hcn⟩ := nums_of_own HG2.out.o (by decide)
  have lC : ∀ V, Below w.heap.size W2 V → (Instr.loadAt 31 (.pointer (some ⟨mb, 8, none⟩))).run Try.prog V = .ok C V := fun V hV => by
    have k := row_cell ((hV.block mb (by omega)).trans HG2.out.m) 8 C rfl
    rw [hCv] at k ⊢
    simp [Instr.loadAt, go_sem, k]
  have lY : ∀ V, Below w.heap.size W2 V → (Instr.loadAt 3 (.pointer (some ⟨ab, 0, none⟩))).run Try.prog V = .ok (.int .i64 y) V := fun V hV => by
    have k := row_cell ((hV.block ab (by omega)).trans HG2.out.at') 0 _ rfl
    simp [Instr.loadAt, go_sem, k]
  refine wp_region_order9 8 (0 :: 1 :: 2 :: 3 :: 4 :: 5 :: 6 :: 7 :: []) (fun V => Below w.heap.size W2 V) (C := fun V => Below W2.heap.size W2 V) (by kernel_rfl) (by kernel_rfl) (by kernel_rfl) (Below.refl _ _).drew (fun V hV => hV.mono hsw) ?_
  refine wpO9_load (ad := ⟨bm, 0, none⟩) (.pointer (some ⟨mb, 0, none⟩)) rfl rfl rfl (by rfl) lM ?_
  simp only [Act.put, List.setIfInBounds_toArray, List.set_cons_succ, List.set_cons_zero]
  refine wpO9_load (ad := ⟨bm, 0, none⟩) (.pointer (some ⟨mb, 0, none⟩)) rfl rfl rfl (by rfl) lM ?_
  simp only [Act.put, List.setIfInBounds_toArray, List.set_cons_succ, List.set_cons_zero]
  refine wpO9_nil (ad := ⟨mb, 0, none⟩) rfl rfl rfl (by rfl) ?_
  simp only [Act.put, List.setIfInBounds_toArray, List.set_cons_succ, List.set_cons_zero]
  repeat (refine wpO9_pure rfl rfl ?_; go_big_quiet_step (fail); refine wpQuiet_nil ?_)
  refine wpO9_load (ad := ⟨mb, 8, none⟩) C rfl rfl rfl (by rfl) lC ?_
  simp only [Act.put, List.setIfInBounds_toArray, List.set_cons_succ, List.set_cons_zero]
  refine wpO9_load (ad := ⟨ab, 0, none⟩) (.int .i64 y) rfl rfl rfl (by rfl) lY ?_
  simp only [Act.put, List.setIfInBounds_toArray, List.set_cons_succ, List.set_cons_zero]
  refine wpO9_do (fun x => ∃ g, x = .slice (some ⟨g, 0, none⟩) 1 1) (fun x V => Below W2.heap.size W2 V ∧ ∀ g, x = .slice (some ⟨g, 0, none⟩) 1 1 → V.cell? ⟨g, 0, none⟩ = some (.int .i64 y)) rfl rfl rfl (fun _ V hV => hV.1.mono hsw) (fun V hV => ⟨.slice (some ⟨V.heap.size, 0, none⟩) 1 1, V.alloc (.cells #[.int .i64 y] 3), by simp [go_sem], ⟨_, rfl⟩, hV.alloc hV.size _, fun g hg => by
    injection hg with hg
    injection hg with hg
    injection hg with hg
    subst hg
    exact row_cell (World.alloc_heap_new V (.cells #[.int .i64 y] 3)) 0 _ rfl⟩) ?_
  rintro x ⟨g, rfl⟩
  simp only [Act.put, List.setIfInBounds_toArray, List.set_cons_succ, List.set_cons_zero]
  refine wpO9_do (fun v => ∃ A c, v = .slice A (L.length + 1) c) (fun v V => ∃ V3, Below W2.heap.size W2 V3 ∧ V.ownsRow w.heap.size 3 1 v (L.length + 1) ((L ++ [y]).map (Value.int .i64)) ∧ V3.grownBy V C.ownBlock) rfl rfl rfl (fun v V hV => ?_) (fun V hV => ?_) ?_
  · obtain ⟨V3, hb, -, hg⟩ := hV
    exact (hb.mono hsw).grown hg (Nat.le_trans hsw hb.size) (fun k hk => (HG2.out.o.lt k hk).1)
  · obtain ⟨hb, hc⟩ := hV
    have hc := hc g rfl
    obtain ⟨v', w', hrun, h6, h7, -⟩ := run_append_own (P := Try.prog) V w.heap.size 31 31 3 ii (.int .i64 0) 1 8 Try.underlying31 hii hzi hzi1 hzi2 rfl (by decide) C L.length (L.map (Value.int .i64)) (own_below7 HG2.out.o hb) ⟨g, 0, none⟩ 1 1 [.int .i64 y] rfl (fun j u hj => by
      rcases j with _ | j
      · simp at hj
        subst hj
        exact hc
      · simp at hj) (fun u hu => by simp at hu; subst hu; rfl) (by unfold maxLen; omega) (by omega) (Nat.le_trans hsw hb.size)
    have h8 : w'.ownsRow w.heap.size 3 1 v' (L.length + 1) ((L ++ [y]).map (Value.int .i64)) := by simpa using h6
    obtain ⟨a7, c7, e7, -, -⟩ := nums_of_own h8 (by decide)
    exact ⟨v', w', exec_appendH (.tmp 15) (.tmp 17) 31 rfl rfl rfl hrun, ⟨a7, c7, e7⟩, V, hb, h8, h7⟩
  rintro v7 ⟨a7, c7, rfl⟩
  simp only [Act.put, List.setIfInBounds_toArray, List.set_cons_succ, List.set_cons_zero]
  rintro w7 ⟨W3, hb3, hown, hgr⟩
  simp only [List.drop_succ_cons, List.drop_zero]
  have HG3 := HG2.out.later hb3
  obtain ⟨m7, a7', g7⟩ := HG3.grow hown hgr
  have k8 := row_cell m7 8 C rfl
  rw [hCv] at k8
  have z8 := frozen_of_row w7 mb 8 _ _ m7
  have k9 := row_cell a7' 0 _ rfl
  have HG7 := Lib.hid g7
  clear hown hgr m7 g7 HG3 lM lC lY hCv hcn HG2 HW2 hb3 a7'
  go_wp2_with fail
  refine (otherwise_any HG7.out.l (decide (65535 < y)) 5).mono ?_
  rintro r w9 ⟨rfl, rfl⟩
  go_wp2
  go_ret
  have hR := HR.out
  have hY := HY.out
  rcases HW.out with ⟨g1, rfl⟩ | ⟨g1, g2, rfl⟩ | ⟨g1, g2, rfl, g3, rfl⟩
  · rw [if_pos g1] at hR
    subst hR
    exact ⟨by simp [oth, g1], HG7.out.off, fun h => absurd h g1⟩
  · rw [if_neg (by simpa using g1), if_pos (by omega)] at hR
    subst hR
    exact ⟨by simp [oth], HG7.out.off, fun h => by simp at h⟩
  · by_cases hlt : 65535 < y
    · rw [if_neg (by simpa using g1), if_pos (by omega)] at hR
      subst hR
      exact ⟨by simp [oth, hlt], HG7.out.off, fun h => by simp at h⟩
    · rw [if_neg (by simpa using g1), if_neg (by omega), show a + 1 + ((Vi.get (zs.drop p)).1 : Int) = y by omega] at hR
      subst hR
      exact ⟨by simp [oth, hlt], HG7.out.off, fun _ => ⟨_, HG7.out⟩⟩
end Go.Proofs.Ytlbfibnfmijahaa

namespace Go.Proofs.Ytlbfibnfmijahaa
open Go.RowKit Go.Shelf
set_option maxRecDepth 100000
attribute [local go_sem] Oper.semAt_some

/-- while points are read: the message's box, the lens, the points' own row, the last point's box, the step's box -/
structure PSt (w : World) (lo mb lb ab sb bm : Nat) (zs : List Int) (N : Mg) (C : Value) (L : List (Int × Int)) (x y : Int) (p e : Nat) (P : Value) (W : World) : Prop where
  m : W.heap[mb]? = some (.cells (mC { N with p := L } P C) 33 (0, 0))
  l : LensAt W lo lb zs p e
  o : W.ownsRow w.heap.size 63 2 P L.length ((fl2 L).map (Value.int .i64))
  at' : W.heap[ab]? = some (.cells #[.int .i64 x, .int .i64 y] 63 (0, 0))
  st : W.heap[sb]? = some (.cells #[.func (.func 73) #[] #[]] 125 (0, 0))
  pm : W.heap[bm]? = some (.cells #[.pointer (some ⟨mb, 0, none⟩)] 87 (0, 0))
  off : Off (fun q => q = mb ∨ q = lb ∨ q = ab) w W
  lt : lb < mb ∧ mb < ab ∧ mb < bm ∧ mb < sb ∧ ab < w.heap.size ∧ bm < w.heap.size ∧ sb < w.heap.size
section
variable {w W W' : World} {lo mb lb ab sb bm : Nat} {zs : List Int} {N : Mg} {P C : Value} {L : List (Int × Int)} {x y : Int} {p e p' e' : Nat}
theorem PSt.later (h : PSt w lo mb lb ab sb bm zs N C L x y p e P W) (hb : Below W.heap.size W W') : PSt w lo mb lb ab sb bm zs N C L x y p e P W' :=
  ⟨(hb.block _ (Array.getElem?_eq_some_iff.1 h.m).1).trans h.m, h.l.below hb, own_below7 h.o hb, (hb.block _ (Array.getElem?_eq_some_iff.1 h.at').1).trans h.at', (hb.block _ (Array.getElem?_eq_some_iff.1 h.st).1).trans h.st, (hb.block _ (Array.getElem?_eq_some_iff.1 h.pm).1).trans h.pm, h.off.trans (Off.of_below (S := fun _ => False) hb) (fun _ _ e => e.elim), h.lt⟩
/-- the lens is turned -/
theorem PSt.turn (h : PSt w lo mb lb ab sb bm zs N C L x y p e P W) (hl : LensAt W' lo lb zs p' e') (ho : Off (fun q => q = lb) W W') : PSt w lo mb lb ab sb bm zs N C L x y p' e' P W' := by
  obtain ⟨h1, h2, h3, h4, h5, h6, h7⟩ := h.lt
  exact ⟨(ho.block _ (Array.getElem?_eq_some_iff.1 h.m).1 (by omega)).trans h.m, hl, own_offM h.o ho (fun g hg e => by have := (h.o.lt g hg).1; omega), (ho.block _ (Array.getElem?_eq_some_iff.1 h.at').1 (by omega)).trans h.at', (ho.block _ (Array.getElem?_eq_some_iff.1 h.st).1 (by omega)).trans h.st, (ho.block _ (Array.getElem?_eq_some_iff.1 h.pm).1 (by omega)).trans h.pm, h.off.trans ho (fun _ _ e => .inr (.inl e)), h.lt⟩
/-- the last point is told -/
theorem PSt.set (h : PSt w lo mb lb ab sb bm zs N C L x y p e P W) (j : Nat) (u x' y' : Int) (hj : (#[Value.int .i64 x, Value.int .i64 y]).setIfInBounds j (.int .i64 u) = #[Value.int .i64 x', Value.int .i64 y']) : PSt w lo mb lb ab sb bm zs N C L x' y' p e P (W.setCell ⟨ab, j, none⟩ (.int .i64 u)) := by
  obtain ⟨h1, h2, h3, h4, h5, h6, h7⟩ := h.lt
  have ho : Off (fun q => q = ab) W (W.setCell ⟨ab, j, none⟩ (.int .i64 u)) := Off.setCell (S := fun q => q = ab) (p := ⟨ab, j, none⟩) (Off.refl _ W) rfl _
  have hne := row_ne h.pm h.at' (by decide)
  have hne2 := row_ne h.st h.at' (by decide)
  exact ⟨(ho.block _ (Array.getElem?_eq_some_iff.1 h.m).1 (by omega)).trans h.m, h.l.off ho (fun k _ hk => by omega), own_offM h.o ho (fun g hg e => by have := (h.o.lt g hg).1; omega), by rw [setCell_at h.at', hj], (ho.block _ (Array.getElem?_eq_some_iff.1 h.st).1 hne2).trans h.st, (ho.block _ (Array.getElem?_eq_some_iff.1 h.pm).1 hne).trans h.pm, h.off.trans ho (fun _ _ e => .inr (.inr e)), h.lt⟩
/-- the points have grown -/
theorem PSt.grow (h : PSt w lo mb lb ab sb bm zs N C L x y p e P W) {v : Value} {q : Int × Int} (hown : W'.ownsRow w.heap.size 63 2 v (L.length + 1) ((fl2 (L ++ [q])).map (Value.int .i64))) (hg : W.grownBy W' P.ownBlock) :
    W'.heap[mb]? = some (.cells (mC { N with p := L } P C) 33 (0, 0)) ∧ PSt w lo mb lb ab sb bm zs N C (L ++ [q]) x y p e v (W'.setCell ⟨mb, 7, none⟩ v) := by
  obtain ⟨h1, h2, h3, h4, h5, h6, h7⟩ := h.lt
  have ho : Off (fun q => P.ownBlock = some q) W W' := ⟨hg.os, hg.tape, hg.output, hg.size, fun k hk hn => hg.block k hk (fun e => hn e.symm)⟩
  have hno : ∀ q, q < w.heap.size → ¬ P.ownBlock = some q := fun q hq e => by have := (h.o.lt q e).1; omega
  have m1 := (ho.block _ (Array.getElem?_eq_some_iff.1 h.m).1 (hno _ (by omega))).trans h.m
  have a1 := (ho.block _ (Array.getElem?_eq_some_iff.1 h.at').1 (hno _ (by omega))).trans h.at'
  have b1 := (ho.block _ (Array.getElem?_eq_some_iff.1 h.pm).1 (hno _ (by omega))).trans h.pm
  have s1 := (ho.block _ (Array.getElem?_eq_some_iff.1 h.st).1 (hno _ (by omega))).trans h.st
  have hof : Off (fun q => q = mb) W' (W'.setCell ⟨mb, 7, none⟩ v) := Off.setCell (S := fun q => q = mb) (p := ⟨mb, 7, none⟩) (Off.refl _ W') rfl _
  refine ⟨m1, by rw [setCell_at m1]; rfl, (h.l.off ho (fun k _ hk => hno k (by omega))).off hof (fun k _ hk => by omega), own_offM (by simpa using hown) hof (fun g hg e => by have := (hown.lt g hg).1; omega), (hof.block _ (Array.getElem?_eq_some_iff.1 a1).1 (by omega)).trans a1, (hof.block _ (Array.getElem?_eq_some_iff.1 s1).1 (by omega)).trans s1, (hof.block _ (Array.getElem?_eq_some_iff.1 b1).1 (by omega)).trans b1, (h.off.trans ho (fun j hj e => absurd e (hno j hj))).trans hof (fun _ _ e => .inl e), h.lt⟩
end
theorem sigA_ways (l : List Int) (a : Int) (h0 : -1000000 ≤ a) (h1 : a ≤ 1000000) : ∃ (X : Int) (u er : Nat), sigR l (-1000000 - a) (1000000 - a) = (X, u, er) ∧ -1000000 ≤ a + X ∧ a + X ≤ 1000000 ∧ u ≤ l.length ∧ er = (rdX a l).1 ∧ (er = 0 → u = (rdX a l).2.1 ∧ a + X = (rdX a l).2.2) := by
  have hle := Vi.get_le l
  unfold sigR rdX
  by_cases g1 : (Vi.get l).2.2 ≠ 0
  · rw [if_pos g1, if_pos g1]
    exact ⟨0, 0, _, rfl, by omega, by omega, by omega, rfl, fun h => absurd h g1⟩
  · rw [if_neg g1, if_neg g1]
    by_cases g2 : zagZ ((Vi.get l).1 : Int) < -1000000 - a ∨ 1000000 - a < zagZ ((Vi.get l).1 : Int)
    · rw [if_pos g2, if_pos (by omega)]
      exact ⟨0, 0, _, rfl, by omega, by omega, by omega, rfl, fun h => by simp at h⟩
    · rw [if_neg g2, if_neg (by omega)]
      exact ⟨_, _, _, rfl, by omega, by omega, hle.2.2.1, rfl, fun _ => ⟨rfl, rfl⟩⟩
/-- the step -/
theorem pstep_any (lo lb : Nat) (zs : List Int) (p e : Nat) (a : Int) (h0 : -1000000 ≤ a) (h1 : a ≤ 1000000) (X : Int) (u er : Nat) (hX : sigR (zs.drop p) (-1000000 - a) (1000000 - a) = (X, u, er)) (hl : zs.length ≤ 1000000) (hz : Bys zs) (V : World) (h : LensAt V lo lb zs p e) :
    Calls Try.prog 73 #[.pointer (some ⟨lb, 0, none⟩), .int .i64 a] V fun r w' => r = .returned (.int .i64 (ansI e X)) ∧ LensAt w' lo lb zs (placeOf p e u) (errOf e er) ∧ Off (fun q => q = lb) V w' := by
  have K := lsig_any lo lb zs p e V (-1000000 - a) (1000000 - a) h (by omega) hz
  rw [hX] at K
  unfold ReadI at K
  simp only at K
  have K := Lib.hid K
  clear hX hz h
  go_enter Try.func73, Try.ntmps73
  go_wp2_with fail
  refine K.out.mono ?_
  rintro r w1 ⟨rfl, h2, h3⟩
  have H2 := Lib.hid h2
  have H3 := Lib.hid h3
  clear h2 h3 K
  go_wp2
  go_ret
  exact ⟨rfl, H2.out, H3.out⟩
/-- what reading a point answers -/
def rdQ (a : Int × Int) (l : List Int) : Nat × Nat × (Int × Int) :=
  if (rdX a.1 l).1 ≠ 0 then ((rdX a.1 l).1, 0, (0, 0))
  else if (rdX a.2 (l.drop (rdX a.1 l).2.1)).1 ≠ 0 then ((rdX a.2 (l.drop (rdX a.1 l).2.1)).1, 0, (0, 0))
  else (0, (rdX a.1 l).2.1 + (rdX a.2 (l.drop (rdX a.1 l).2.1)).2.1, ((rdX a.1 l).2.2, (rdX a.2 (l.drop (rdX a.1 l).2.1)).2.2))
theorem rdP_q (n : Nat) (a : Int × Int) (l : List Int) : rdP (n + 1) a l = if (rdQ a l).1 ≠ 0 then ((rdQ a l).1, 0, []) else ((rdP n (rdQ a l).2.2 (l.drop (rdQ a l).2.1)).1, (rdQ a l).2.1 + (rdP n (rdQ a l).2.2 (l.drop (rdQ a l).2.1)).2.1, (rdQ a l).2.2 :: (rdP n (rdQ a l).2.2 (l.drop (rdQ a l).2.1)).2.2) := by
  rw [rdP_step]
  unfold rdQ
  by_cases h1 : (rdX a.1 l).1 ≠ 0
  · rw [if_pos h1, if_pos h1, if_pos h1]
  · rw [if_neg h1, if_neg h1]
    by_cases h2 : (rdX a.2 (l.drop (rdX a.1 l).2.1)).1 ≠ 0
    · rw [if_pos h2, if_pos h2, if_pos h2]
    · rw [if_neg h2, if_neg h2, if_neg (by simp), List.drop_drop]
set_option maxHeartbeats 16000000 in
theorem pointr_any (w : World) (lo mb lb ab sb bm : Nat) (zs : List Int) (N : Mg) (C : Value) (L : List (Int × Int)) (x y : Int) (p : Nat) (P : Value) (W : World) (h : PSt w lo mb lb ab sb bm zs N C L x y p 0 P W) (hx : -1000000 ≤ x ∧ x ≤ 1000000) (hy : -1000000 ≤ y ∧ y ≤ 1000000) (hL : L.length ≤ 40) (hl : zs.length ≤ 1000000) (hz : Bys zs) :
    Calls Try.prog 74 #[.pointer (some ⟨lb, 0, none⟩), .pointer (some ⟨ab, 0, none⟩), .pointer (some ⟨sb, 0, none⟩), .pointer (some ⟨bm, 0, none⟩)] W fun r W' =>
      r = .returned (.int .i64 ((rdQ (x, y) (zs.drop p)).1 : Int)) ∧ Off (fun q => q = mb ∨ q = lb ∨ q = ab) w W' ∧ ((rdQ (x, y) (zs.drop p)).1 = 0 → ∃ P', PSt w lo mb lb ab sb bm zs N C (L ++ [(rdQ (x, y) (zs.drop p)).2.2]) (rdQ (x, y) (zs.drop p)).2.2.1 (rdQ (x, y) (zs.drop p)).2.2.2 (p + (rdQ (x, y) (zs.drop p)).2.1) 0 P' W') := by
  obtain ⟨ii, hii, hzi, hzi1, hzi2⟩ := info_parts ptInfo
  obtain ⟨X, u, er, hX, x0, x1, hu, e1, e2⟩ := sigA_ways (zs.drop p) x hx.1 hx.2
  obtain ⟨Y, v, es, hY, y0, y1, hv, e3, e4⟩ := sigA_ways (zs.drop (placeOf p er u)) y hy.1 hy.2
  have hxa := hx.1
  have hxb := hx.2
  have hya := hy.1
  have hyb := hy.2
  have KX : Hid (∀ V, LensAt V lo lb zs p 0 → Calls Try.prog 73 #[.pointer (some ⟨lb, 0, none⟩), .int .i64 x] V fun r w' => r = .returned (.int .i64 X) ∧ LensAt w' lo lb zs (p + u) er ∧ Off (fun q => q = lb) V w') := Lib.hid fun V hV => by
    have K := pstep_any lo lb zs p 0 x hx.1 hx.2 X u er hX hl hz V hV
    simpa only [ansI, placeOf, errOf, if_true] using K
  have hpu : er ≠ 0 → u = 0 := fun h => by
    have := sigR_err (l := zs.drop p) (m1 := -1000000 - x) (m := 1000000 - x) (by rw [hX]; exact h)
    rw [hX] at this
    exact this.2
  have hpl : placeOf p er u = p + u := by
    unfold placeOf
    split
    · rfl
    · rename_i h
      rw [hpu h, Nat.add_zero]
  rw [hpl] at hY e3 e4
  obtain ⟨Y2, hY2⟩ : ∃ Y2, ansI er Y = Y2 := ⟨_, rfl⟩
  have hy2 : -1000000 ≤ y + Y2 ∧ y + Y2 ≤ 1000000 := by
    rw [← hY2]
    unfold ansI
    split <;> omega
  have hya2 := hy2.1
  have hyb2 := hy2.2
  have KY : Hid (∀ V, LensAt V lo lb zs (p + u) er → Calls Try.prog 73 #[.pointer (some ⟨lb, 0, none⟩), .int .i64 y] V fun r w' => r = .returned (.int .i64 Y2) ∧ LensAt w' lo lb zs (placeOf (p + u) er v) (errOf er es) ∧ Off (fun q => q = lb) V w') := Lib.hid fun V hV => by
    have K := pstep_any lo lb zs (p + u) er y hy.1 hy.2 Y v es hY hl hz V hV
    rwa [hY2] at K
  obtain ⟨R, hR⟩ : ∃ R, rdQ (x, y) (zs.drop p) = R := ⟨_, rfl⟩
  rw [hR]
  unfold rdQ at hR
  simp only at hR
  rw [List.drop_drop] at hR
  have HE := Lib.hid (And.intro e1 (And.intro e2 (And.intro e3 e4)))
  obtain ⟨pe, hpe⟩ : ∃ pe, placeOf (p + u) er v = pe := ⟨_, rfl⟩
  obtain ⟨ee, hee⟩ : ∃ ee, errOf er es = ee := ⟨_, rfl⟩
  rw [hpe, hee] at KY
  have HPE := Lib.hid (And.intro hpe (And.intro hee hY2))
  obtain ⟨h1, h2, h3, h4, h5, h6, h7⟩ := h.lt
  have n1 := row_ne h.at' h.pm (by decide)
  have n2 := row_ne h.at' h.st (by decide)
  have HH := Lib.hid h
  have HR := Lib.hid hR
  clear hR hX hY h hz e1 e2 e3 e4 hpe hee hY2 hpl hpu hy2 hx hy
  go_enter Try.func74, Try.ntmps74
  go_wp2_with fail
  have lA : ∀ V, Off (fun q => q = lb) W V → (Instr.loadAt 3 (.pointer (some ⟨ab, 0, none⟩))).run Try.prog V = .ok (.int .i64 x) V := fun V hV => by
    have k := row_cell ((hV.block _ (Array.getElem?_eq_some_iff.1 HH.out.at').1 (by omega)).trans HH.out.at') 0 _ rfl
    simp [Instr.loadAt, go_sem, k]
  have lS : ∀ V, Off (fun q => q = lb) W V → (Instr.loadAt 125 (.pointer (some ⟨sb, 0, none⟩))).run Try.prog V = .ok (.func (.func 73) #[] #[]) V := fun V hV => by
    have k := row_cell ((hV.block _ (Array.getElem?_eq_some_iff.1 HH.out.st).1 (by omega)).trans HH.out.st) 0 _ rfl
    simp [Instr.loadAt, go_sem, k]
  refine wp_region_order8 8 (0 :: 1 :: 2 :: 3 :: 4 :: 5 :: 6 :: 7 :: []) (fun V => Off (fun q => q = lb) W V) (C := fun V => Below W.heap.size W V) (by kernel_rfl) (by kernel_rfl) (by kernel_rfl) (Below.refl _ _).drew (fun V hV => Off.of_below hV) ?_
  repeat (refine wpO4_pure rfl rfl ?_; go_big_quiet_step (fail); refine wpQuiet_nil ?_)
  refine wpO4_load (ad := ⟨ab, 0, none⟩) (.int .i64 x) rfl rfl rfl (by rfl) lA ?_
  simp only [Act.put, List.setIfInBounds_toArray, List.set_cons_succ, List.set_cons_zero]
  refine wpO4_load (ad := ⟨sb, 0, none⟩) (.func (.func 73) #[] #[]) rfl rfl rfl (by rfl) lS ?_
  simp only [Act.put, List.setIfInBounds_toArray, List.set_cons_succ, List.set_cons_zero]
  repeat (refine wpO4_pure rfl rfl ?_; go_big_quiet_step (fail); refine wpQuiet_nil ?_)
  refine wpO4_load (ad := ⟨ab, 0, none⟩) (.int .i64 x) rfl rfl rfl (by rfl) lA ?_
  simp only [Act.put, List.setIfInBounds_toArray, List.set_cons_succ, List.set_cons_zero]
  refine wpO4_call (fun v => v = .int .i64 X) (fun _ V => LensAt V lo lb zs (p + u) er ∧ Off (fun q => q = lb) W V) (f := 73) (args := #[.pointer (some ⟨lb, 0, none⟩), .int .i64 x]) rfl rfl rfl (fun _ V hV => hV.2) (fun x => by first | rfl | (simp [go_sem]; done)) (fun V hV => (KX.out V (HH.out.later hV).l).mono (fun e w' h => ⟨_, h.1, rfl, h.2.1, (Off.of_below (S := fun q => q = lb) hV).trans h.2.2 (fun _ _ h => h)⟩)) ?_
  rintro v rfl
  simp only [Act.put, List.setIfInBounds_toArray, List.set_cons_succ, List.set_cons_zero]
  repeat (refine wpO4_pure rfl rfl ?_; go_big_quiet_step (fail); refine wpQuiet_nil ?_)
  rintro W1 ⟨hl1, ho1⟩
  simp only [List.drop_succ_cons, List.drop_zero]
  have g1 := HH.out.turn hl1 ho1
  have c0 := row_cell g1.at' 0 _ rfl
  have z0 := frozen_of_row W1 ab 0 _ _ g1.at'
  obtain ⟨nx, hnx⟩ : ∃ nx, x + X = nx := ⟨_, rfl⟩
  have g2 := g1.set 0 nx nx y rfl
  obtain ⟨W2, hw2⟩ : ∃ W2, W1.setCell ⟨ab, 0, none⟩ (.int .i64 nx) = W2 := ⟨_, rfl⟩
  rw [hw2] at g2
  have HB := Lib.hid g2
  have HWHB := Lib.hid hw2
  have HYHB := Lib.hid hnx
  clear g1 g2 hl1 ho1 lA lS KX hw2 hnx
  go_wp2_with fail
  rw [HYHB.out, HWHB.out]
  clear c0 z0 HWHB
  have lA : ∀ V, Off (fun q => q = lb) W2 V → (Instr.loadAt 3 (.pointer (some ⟨ab, 1, none⟩))).run Try.prog V = .ok (.int .i64 y) V := fun V hV => by
    have k := row_cell ((hV.block _ (Array.getElem?_eq_some_iff.1 HB.out.at').1 (by omega)).trans HB.out.at') 1 _ rfl
    simp [Instr.loadAt, go_sem, k]
  have lS : ∀ V, Off (fun q => q = lb) W2 V → (Instr.loadAt 125 (.pointer (some ⟨sb, 0, none⟩))).run Try.prog V = .ok (.func (.func 73) #[] #[]) V := fun V hV => by
    have k := row_cell ((hV.block _ (Array.getElem?_eq_some_iff.1 HB.out.st).1 (by omega)).trans HB.out.st) 0 _ rfl
    simp [Instr.loadAt, go_sem, k]
  refine wp_region_order8 8 (0 :: 1 :: 2 :: 3 :: 4 :: 5 :: 6 :: 7 :: []) (fun V => Off (fun q => q = lb) W2 V) (C := fun V => Below W2.heap.size W2 V) (by kernel_rfl) (by kernel_rfl) (by kernel_rfl) (Below.refl _ _).drew (fun V hV => Off.of_below hV) ?_
  repeat (refine wpO4_pure rfl rfl ?_; go_big_quiet_step (fail); refine wpQuiet_nil ?_)
  refine wpO4_load (ad := ⟨ab, 1, none⟩) (.int .i64 y) rfl rfl rfl (by rfl) lA ?_
  simp only [Act.put, List.setIfInBounds_toArray, List.set_cons_succ, List.set_cons_zero]
  refine wpO4_load (ad := ⟨sb, 0, none⟩) (.func (.func 73) #[] #[]) rfl rfl rfl (by rfl) lS ?_
  simp only [Act.put, List.setIfInBounds_toArray, List.set_cons_succ, List.set_cons_zero]
  repeat (refine wpO4_pure rfl rfl ?_; go_big_quiet_step (fail); refine wpQuiet_nil ?_)
  refine wpO4_load (ad := ⟨ab, 1, none⟩) (.int .i64 y) rfl rfl rfl (by rfl) lA ?_
  simp only [Act.put, List.setIfInBounds_toArray, List.set_cons_succ, List.set_cons_zero]
  refine wpO4_call (fun v => v = .int .i64 Y2) (fun _ V => LensAt V lo lb zs pe ee ∧ Off (fun q => q = lb) W2 V) (f := 73) (args := #[.pointer (some ⟨lb, 0, none⟩), .int .i64 y]) rfl rfl rfl (fun _ V hV => hV.2) (fun x => by first | rfl | (simp [go_sem]; done)) (fun V hV => (KY.out V (HB.out.later hV).l).mono (fun e w' h => ⟨_, h.1, rfl, h.2.1, (Off.of_below (S := fun q => q = lb) hV).trans h.2.2 (fun _ _ h => h)⟩)) ?_
  rintro v rfl
  simp only [Act.put, List.setIfInBounds_toArray, List.set_cons_succ, List.set_cons_zero]
  repeat (refine wpO4_pure rfl rfl ?_; go_big_quiet_step (fail); refine wpQuiet_nil ?_)
  rintro W3 ⟨hl1, ho1⟩
  simp only [List.drop_succ_cons, List.drop_zero]
  have g1 := HB.out.turn hl1 ho1
  have c0 := row_cell g1.at' 1 _ rfl
  have z0 := frozen_of_row W3 ab 1 _ _ g1.at'
  obtain ⟨ny, hny⟩ : ∃ ny, y + Y2 = ny := ⟨_, rfl⟩
  have g2 := g1.set 1 ny nx ny rfl
  obtain ⟨W4, hw2⟩ : ∃ W4, W3.setCell ⟨ab, 1, none⟩ (.int .i64 ny) = W4 := ⟨_, rfl⟩
  rw [hw2] at g2
  have HG := Lib.hid g2
  have HWHG := Lib.hid hw2
  have HYHG := Lib.hid hny
  clear g1 g2 hl1 ho1 lA lS KY hw2 hny
  go_wp2_with fail
  rw [HYHG.out, HWHG.out]
  clear c0 z0 HWHG
  have hsw := HG.out.off.size
  have lM : ∀ V, Below w.heap.size W4 V → (Instr.loadAt 87 (.pointer (some ⟨bm, 0, none⟩))).run Try.prog V = .ok (.pointer (some ⟨mb, 0, none⟩)) V := fun V hV => by
    have k := row_cell ((hV.block bm (by omega)).trans HG.out.pm) 0 _ rfl
    simp [Instr.loadAt, go_sem, k]
  obtain ⟨ca, cc, hCv, -, -⟩ := nums_of_own HG.out.o (by decide)
  have lC : ∀ V, Below w.heap.size W4 V → (Instr.loadAt 30 (.pointer (some ⟨mb, 7, none⟩))).run Try.prog V = .ok P V := fun V hV => by
    have k := row_cell ((hV.block mb (by omega)).trans HG.out.m) 7 P rfl
    rw [hCv] at k ⊢
    simp [Instr.loadAt, go_sem, k]
  have lY : ∀ V, Below w.heap.size W4 V → (Instr.loadAt 63 (.pointer (some ⟨ab, 0, none⟩))).run Try.prog V = .ok (.agg #[.int .i64 nx, .int .i64 ny]) V := fun V hV => by
    have k := row_cell ((hV.block ab (by omega)).trans HG.out.at') 0 _ rfl
    have k2 := row_cell ((hV.block ab (by omega)).trans HG.out.at') 1 _ rfl
    simp [Instr.loadAt, go_sem, k, k2]
  refine wp_region_order9 8 (0 :: 1 :: 2 :: 3 :: 4 :: 5 :: 6 :: 7 :: []) (fun V => Below w.heap.size W4 V) (C := fun V => Below W4.heap.size W4 V) (by kernel_rfl) (by kernel_rfl) (by kernel_rfl) (Below.refl _ _).drew (fun V hV => hV.mono hsw) ?_
  refine wpO9_load (ad := ⟨bm, 0, none⟩) (.pointer (some ⟨mb, 0, none⟩)) rfl rfl rfl (by rfl) lM ?_
  simp only [Act.put, List.setIfInBounds_toArray, List.set_cons_succ, List.set_cons_zero]
  refine wpO9_load (ad := ⟨bm, 0, none⟩) (.pointer (some ⟨mb, 0, none⟩)) rfl rfl rfl (by rfl) lM ?_
  simp only [Act.put, List.setIfInBounds_toArray, List.set_cons_succ, List.set_cons_zero]
  refine wpO9_nil (ad := ⟨mb, 0, none⟩) rfl rfl rfl (by rfl) ?_
  simp only [Act.put, List.setIfInBounds_toArray, List.set_cons_succ, List.set_cons_zero]
  repeat (refine wpO9_pure rfl rfl ?_; go_big_quiet_step (fail); refine wpQuiet_nil ?_)
  refine wpO9_load (ad := ⟨mb, 7, none⟩) P rfl rfl rfl (by rfl) lC ?_
  simp only [Act.put, List.setIfInBounds_toArray, List.set_cons_succ, List.set_cons_zero]
  refine wpO9_load (ad := ⟨ab, 0, none⟩) (.agg #[.int .i64 nx, .int .i64 ny]) rfl rfl rfl (by rfl) lY ?_
  simp only [Act.put, List.setIfInBounds_toArray, List.set_cons_succ, List.set_cons_zero]
  refine wpO9_do (fun x => ∃ g, x = .slice (some ⟨g, 0, none⟩) 1 1) (fun x V => Below W4.heap.size W4 V ∧ ∀ g, x = .slice (some ⟨g, 0, none⟩) 1 1 → V.heap[g]? = some (.cells #[.int .i64 nx, .int .i64 ny] 63 (0, 0))) rfl rfl rfl (fun _ V hV => hV.1.mono hsw) (fun V hV => ⟨.slice (some ⟨V.heap.size, 0, none⟩) 1 1, V.alloc (.cells #[.int .i64 nx, .int .i64 ny] 63), by simp [go_sem], ⟨_, rfl⟩, hV.alloc hV.size _, fun g hg => by
    injection hg with hg
    injection hg with hg
    injection hg with hg
    subst hg
    exact World.alloc_heap_new V (.cells #[.int .i64 nx, .int .i64 ny] 63)⟩) ?_
  rintro x ⟨g, rfl⟩
  simp only [Act.put, List.setIfInBounds_toArray, List.set_cons_succ, List.set_cons_zero]
  refine wpO9_do (fun v => ∃ A c, v = .slice A (L.length + 1) c) (fun v V => ∃ V3, Below W4.heap.size W4 V3 ∧ V.ownsRow w.heap.size 63 2 v (L.length + 1) ((fl2 (L ++ [(nx, ny)])).map (Value.int .i64)) ∧ V3.grownBy V P.ownBlock) rfl rfl rfl (fun v V hV => ?_) (fun V hV => ?_) ?_
  · obtain ⟨V3, hb, -, hg⟩ := hV
    exact (hb.mono hsw).grown hg (Nat.le_trans hsw hb.size) (fun k hk => (HG.out.o.lt k hk).1)
  · obtain ⟨hb, hc⟩ := hV
    have hc := hc g rfl
    obtain ⟨v', w', hrun, h6, h7, -⟩ := run_append_own (P := Try.prog) V w.heap.size 30 30 63 ii _ 2 16 Try.underlying30 hii hzi hzi1 hzi2 rfl (by decide) P L.length ((fl2 L).map (Value.int .i64)) (own_below7 HG.out.o hb) ⟨g, 0, none⟩ 1 1 [.int .i64 nx, .int .i64 ny] rfl (fun j u hj => by
      rcases j with _ | _ | j
      · simp at hj
        subst hj
        exact row_cell hc 0 _ rfl
      · simp at hj
        subst hj
        exact row_cell hc 1 _ rfl
      · simp at hj) (fun u hu => by simp at hu; rcases hu with rfl | rfl <;> rfl) (by unfold maxLen; omega) (by omega) (Nat.le_trans hsw hb.size)
    have h8 : w'.ownsRow w.heap.size 63 2 v' (L.length + 1) ((fl2 (L ++ [(nx, ny)])).map (Value.int .i64)) := by rw [fl2_app, List.map_append]; exact h6
    obtain ⟨a7, c7, e7, -, -⟩ := nums_of_own h8 (by decide)
    exact ⟨v', w', exec_appendH (.tmp 28) (.tmp 30) 30 rfl rfl rfl hrun, ⟨a7, c7, e7⟩, V, hb, h8, h7⟩
  rintro v7 ⟨a7, c7, rfl⟩
  simp only [Act.put, List.setIfInBounds_toArray, List.set_cons_succ, List.set_cons_zero]
  rintro w7 ⟨W5, hb3, hown, hgr⟩
  simp only [List.drop_succ_cons, List.drop_zero]
  have HG3 := HG.out.later hb3
  obtain ⟨m7, g7⟩ := HG3.grow hown hgr
  have k8 := row_cell m7 7 P rfl
  rw [hCv] at k8
  have z8 := frozen_of_row w7 mb 7 _ _ m7
  have HG7 := Lib.hid g7
  clear hown hgr m7 g7 HG3 lM lC lY hCv HG hb3
  go_wp2_with fail
  refine (lerr_any _ _ _ _ _ _ HG7.out.l).mono ?_
  rintro r w9 ⟨rfl, rfl⟩
  go_wp2
  go_ret
  have hR := HR.out
  obtain ⟨e1, e2, e3, e4⟩ := HE.out
  obtain ⟨rfl, rfl, hY2⟩ := HPE.out
  have q1 := HYHB.out
  have q2 := HYHG.out
  by_cases g1 : er = 0
  · subst g1
    obtain ⟨f1, f2⟩ := e2 rfl
    rw [if_neg (by rw [← e1]; simp), ← f1] at hR
    by_cases g2 : es = 0
    · subst g2
      obtain ⟨f3, f4⟩ := e4 rfl
      rw [if_neg (by rw [← e3]; simp), ← f3, ← f2, ← f4] at hR
      have hYY : Y = Y2 := by rw [← hY2]; rfl
      rw [hYY, q1, q2] at hR
      subst hR
      have hp : placeOf (p + u) 0 v = p + (u + v) := by unfold placeOf; rw [if_pos rfl, Nat.add_assoc]
      have hg := HG7.out
      rw [hp] at hg
      exact ⟨rfl, HG7.out.off, fun _ => ⟨_, hg⟩⟩
    · rw [if_pos (by rw [← e3]; exact g2), ← e3] at hR
      subst hR
      exact ⟨by simp [errOf], HG7.out.off, fun h => absurd h g2⟩
  · rw [if_pos (by rw [← e1]; exact g1), ← e1] at hR
    subst hR
    exact ⟨by simp [errOf, g1], HG7.out.off, fun h => absurd h g1⟩
end Go.Proofs.Ytlbfibnfmijahaa

namespace Go.Proofs.Ytlbfibnfmijahaa
open Go.RowKit Go.Shelf
set_option maxRecDepth 100000
attribute [local go_sem] Oper.semAt_some

theorem numR_all (l : List Int) : ∃ (X : Int) (u er : Nat), numR l 18446744073709551615 = (X, u, er) ∧ 0 ≤ X ∧ X ≤ 18446744073709551615 ∧ u ≤ l.length ∧
    (((Vi.get l).2.2 ≠ 0 ∧ er = (Vi.get l).2.2) ∨ ((Vi.get l).2.2 = 0 ∧ er = 0 ∧ X = ((Vi.get l).1 : Int) ∧ u = (Vi.get l).2.1)) := by
  have hle := Vi.get_le l
  obtain ⟨X, u, er, h1, h2, h3, h4, h5⟩ := numR_ways l 18446744073709551615 (by omega)
  refine ⟨X, u, er, h1, h2, h3, h4, ?_⟩
  rcases h5 with h | ⟨_, h, _⟩ | ⟨g1, _, g3, g4, g5⟩
  · exact .inl h
  · omega
  · exact .inr ⟨g1, g3, g4, g5⟩
theorem Off.two {mb lb ab : Nat} {w0 w W : World} (hb : Below w0.heap.size w0 w) (ho : Off (fun q => q = mb ∨ q = lb ∨ q = ab) w W) (hlo : w0.heap.size ≤ ab) : Off (fun q => q = mb ∨ q = lb) w0 W := by
  have := (Off.of_below (S := fun q => q = mb ∨ q = lb ∨ q = ab) hb).trans ho (fun _ _ h => h)
  exact this.mono fun j hj h => by
    rcases h with h | h | h
    · exact .inl h
    · exact .inr h
    · omega
theorem CSt.done {w0 w W : World} {lo mb lb ab bm : Nat} {zs : List Int} {N : Mg} {P C0 C : Value} {L : List Int} {a : Int} {p p' : Nat} (h0 : RdAt lo w0 mb lb zs N P C0 p 0) (hb : Below w0.heap.size w0 w) (hlo : w0.heap.size ≤ ab) (hne : L ≠ []) (h : CSt w lo mb lb ab bm zs N P L a p' 0 C W) : RdAt lo W mb lb zs { N with c := L } P C p' 0 := by
  have ho := Off.two hb h.off hlo
  obtain ⟨pa, pc, e1, h2, h3⟩ := h0.p
  have hlt := (Array.getElem?_eq_some_iff.1 h0.m).1
  have hsz := hb.size
  have ha := h0.a
  obtain ⟨ca, cc, e4, h5, h6⟩ := NuX.of_own h.o (by omega) (b4 := mb) (b8 := lb) (by omega) (by omega)
  exact ⟨h.m, h.l, h0.a, ⟨pa, pc, e1, h2, h3.keep ho⟩, ⟨ca, cc, e4, h5, h6⟩, h0.pz, fun e => absurd e hne⟩
theorem PSt.done {w0 w W : World} {lo mb lb ab sb bm : Nat} {zs : List Int} {N : Mg} {C P0 P : Value} {L : List (Int × Int)} {x y : Int} {p p' : Nat} (h0 : RdAt lo w0 mb lb zs N P0 C p 0) (hb : Below w0.heap.size w0 w) (hlo : w0.heap.size ≤ ab) (hne : L ≠ []) (h : PSt w lo mb lb ab sb bm zs N C L x y p' 0 P W) : RdAt lo W mb lb zs { N with p := L } P C p' 0 := by
  have ho := Off.two hb h.off hlo
  obtain ⟨pa, pc, e1, h2, h3⟩ := h0.c
  have hlt := (Array.getElem?_eq_some_iff.1 h0.m).1
  have hsz := hb.size
  have ha := h0.a
  obtain ⟨ca, cc, e4, h5, hc⟩ := nums_of_own h.o (by omega)
  refine ⟨h.m, h.l, h0.a, ⟨ca, cc, e4, h5, fun hn => ?_⟩, ⟨pa, pc, e1, h2, h3.keep ho⟩, fun e => absurd e hne, h0.cz⟩
  obtain ⟨b, off, e6, h7, h8⟩ := hc hn
  have hge : w.heap.size ≤ b := (h.o.lt b (by rw [e4, e6]; rfl)).1
  exact ⟨b, off, e6, by omega, by omega, h8⟩
theorem rdG_rng {a : Int} {l : List Int} (hl : Bys l) : (rdG a l).1 = 0 → -1 ≤ a → -1 ≤ (rdG a l).2.2 ∧ (rdG a l).2.2 ≤ 65535 := fun h ha => by
  obtain ⟨-, -, -, h4, h5⟩ := rdG_ok (a := a) (l := l) (x := (rdG a l).2.2) (u := (rdG a l).2.1) hl (by rw [← h])
  omega
theorem rdQ_rng {a : Int × Int} {l : List Int} (hl : Bys l) : (rdQ a l).1 = 0 → ptOk (rdQ a l).2.2 := fun h => by
  unfold rdQ at h ⊢
  by_cases h1 : (rdX a.1 l).1 ≠ 0
  · rw [if_pos h1] at h; exact absurd h h1
  · rw [if_neg h1] at h ⊢
    by_cases h2 : (rdX a.2 (l.drop (rdX a.1 l).2.1)).1 ≠ 0
    · rw [if_pos h2] at h; exact absurd h h2
    · rw [if_neg h2]
      have h1' : (rdX a.1 l).1 = 0 := by simpa using h1
      have h2' : (rdX a.2 (l.drop (rdX a.1 l).2.1)).1 = 0 := by simpa using h2
      obtain ⟨-, -, -, x1, x2⟩ := rdX_ok (a := a.1) (l := l) (x := (rdX a.1 l).2.2) (u := (rdX a.1 l).2.1) hl (by rw [← h1'])
      obtain ⟨-, -, -, y1, y2⟩ := rdX_ok (a := a.2) (l := l.drop (rdX a.1 l).2.1) (x := (rdX a.2 (l.drop (rdX a.1 l).2.1)).2.2) (u := (rdX a.2 (l.drop (rdX a.1 l).2.1)).2.1) (hl.drop _) (by rw [← h2'])
      exact ⟨x1, x2, y1, y2⟩
set_option maxHeartbeats 16000000 in
theorem countc_any (w0 w : World) (lo mb lb bo1 bo2 ab bm : Nat) (zs : List Int) (N : Mg) (P C : Value) (p : Nat) (f : Fd) (h0 : RdAt lo w0 mb lb zs N P C p 0) (hb : Below w0.heap.size w0 w) (hf : FdX f) (hso : f.so = 4) (hN : N.c = []) (hlo : w0.heap.size ≤ ab ∧ w0.heap.size ≤ bm) (hl : zs.length ≤ 1000000) (hz : Bys zs)
    (h1 : w.heap[bo1]? = some (.cells #[.int .i64 f.mo] 3 (0, 0))) (h2 : w.heap[bo2]? = some (.cells #[.func (.func 75) #[] #[.pointer (some ⟨ab, 0, none⟩), .pointer (some ⟨bm, 0, none⟩)]] 85 (0, 0))) (h3 : w.heap[ab]? = some (.cells #[.int .i64 (-1)] 3 (0, 0))) (h4 : w.heap[bm]? = some (.cells #[.pointer (some ⟨mb, 0, none⟩)] 87 (0, 0))) (hlt : ab < w.heap.size ∧ bm < w.heap.size) :
    Calls Try.prog 71 #[.pointer (some ⟨lb, 0, none⟩), .pointer (some ⟨bo1, 0, none⟩), .pointer (some ⟨bo2, 0, none⟩)] w fun r w' => RdO lo mb lb zs p (rdF N f (zs.drop p)) w0 r w' := by
  obtain ⟨X, u, er, hX, x0, x1, hu, hw⟩ := numR_all (zs.drop p)
  have hR0 := h0.later hb
  have K := lnum_any lo lb zs p 0 w 18446744073709551615 hR0.l (by omega) hz
  rw [hX] at K
  unfold ReadI at K
  simp only [ansI, placeOf, errOf, if_true] at K
  have hmo := hf.mo.2.1 hso
  have hle1 := hf.lst (by omega)
  have hlm := h0.a
  have hmlt := (Array.getElem?_eq_some_iff.1 h0.m).1
  obtain ⟨_, _, hbl, -⟩ := hR0.l.open
  have n1 := row_ne h1 hbl (by decide)
  have n2 := row_ne h2 hbl (by decide)
  have n3 := row_ne h3 hbl (by decide)
  have n4 := row_ne h4 hbl (by decide)
  have n6 := row_ne h2 hR0.m (by decide)
  have n7 := row_ne h2 h3 (by decide)
  have hNC : C = .slice none 0 0 := h0.cz hN
  have HNE : Hid ({ N with c := [] } = N) := Lib.hid (by cases N; simp only at hN; subst hN; rfl)
  obtain ⟨R, hR⟩ : ∃ R, rdF N f (zs.drop p) = R := ⟨_, rfl⟩
  rw [hR]
  unfold rdF at hR
  rw [if_neg (show ¬ f.so = 1 by omega), if_neg (show ¬ f.so = 2 by omega), if_neg (show ¬ f.so = 3 by omega), if_pos hso, hmo, hle1, hN] at hR
  simp only [List.nil_append, Int.zero_lt_one, and_true] at hR
  rw [hmo] at h1
  have K := Lib.hid K
  have HH := Lib.hid h0
  have HB := Lib.hid hb
  have HR0 := Lib.hid hR0
  have H2 := Lib.hid h2
  have H3 := Lib.hid h3
  have H4 := Lib.hid h4
  have HR := Lib.hid hR
  have HW := Lib.hid hw
  have HBY := Lib.hid hz
  have H1 := Lib.hid h1
  clear hR hw hX h0 hb hbl h1 h2 h3 h4 hz hR0 hf hmo hle1
  go_enter Try.func71, Try.ntmps71
  go_wp2
  refine wp_scope_straight ?_
  go_wp2_with fail
  refine K.out.mono ?_
  rintro r w1 ⟨rfl, hl1, ho1⟩
  have HOF : Hid (Off (fun q => q = mb ∨ q = lb) w0 w1) := Lib.hid (((Off.of_below (S := fun q => q = mb ∨ q = lb) HB.out).trans ho1 (fun _ _ e => .inr e)))
  have m1 := (ho1.block _ (Array.getElem?_eq_some_iff.1 HR0.out.m).1 (by omega)).trans HR0.out.m
  have k1 := row_cell ((ho1.block _ (Array.getElem?_eq_some_iff.1 H1.out).1 n1).trans H1.out) 0 _ rfl
  have a1 := (ho1.block _ (Array.getElem?_eq_some_iff.1 H3.out).1 n3).trans H3.out
  have b1 := (ho1.block _ (Array.getElem?_eq_some_iff.1 H4.out).1 n4).trans H4.out
  have f1 := (ho1.block _ (Array.getElem?_eq_some_iff.1 H2.out).1 n2).trans H2.out
  have hwz := HB.out.size
  rw [hNC, ← HNE.out] at m1
  have KE := Lib.hid (lerr_any _ _ _ _ _ _ hl1)
  have HST : Hid (er = 0 → CSt w lo mb lb ab bm zs N P [] (-1) (p + u) 0 (.slice none 0 0) w1) := Lib.hid fun h => by
    subst h
    exact ⟨m1, hl1, World.ownsRow_nil _ _ _ _, a1, b1, ho1.mono (fun _ _ e => .inr (.inl e)), by omega⟩
  have HL1 := Lib.hid hl1
  clear K hl1 a1 b1 m1 f1
  go_wp2_with fail
  refine KE.out.mono ?_
  rintro r w2 ⟨rfl, rfl⟩
  clear KE
  rcases HW.out with ⟨g1, rfl⟩ | ⟨g1, rfl, rfl, rfl⟩
  · have e1 : (((Vi.get (zs.drop p)).2.2 : Int) != 0) = true := by simpa using g1
    have hR := HR.out
    rw [if_pos g1] at hR
    have HR2 := Lib.hid hR
    clear hR HST
    go_wp2
    try simp only [Exit.noGoto]
    go_ret
    rw [← HR2.out]
    exact ⟨rfl, HOF.out, fun h => absurd h g1⟩
  · have hR := HR.out
    rw [if_neg (by simpa using g1)] at hR
    clear HW HR
    generalize (Vi.get (zs.drop p)).1 = z at *
    generalize (Vi.get (zs.drop p)).2.1 = u at *
    clear g1
    by_cases hz0 : z = 0
    · subst hz0
      rw [if_pos rfl] at hR
      have HR2 := Lib.hid hR
      clear hR HST
      go_wp2
      try simp only [Exit.noGoto]
      go_ret
      rw [← HR2.out]
      exact ⟨rfl, HOF.out, fun h => by simp at h⟩
    · have hzi : ¬ (z : Int) = 0 := by omega
      rw [if_neg hz0] at hR
      by_cases hbig : (32 : Int) < (z : Int)
      · rw [if_pos hbig] at hR
        have HR2 := Lib.hid hR
        clear hR HST
        go_wp2
        try simp only [Exit.noGoto]
        go_ret
        rw [← HR2.out]
        exact ⟨rfl, HOF.out, fun h => by simp at h⟩
      · rw [if_neg hbig] at hR
        rw [List.drop_drop] at hR
        have hz32 : (z : Int) ≤ 32 := by omega
        have HR2 := Lib.hid hR
        have HS1 := Lib.hid (HST.out rfl)
        obtain ⟨RC, hRC⟩ : ∃ RC, rdC z (-1) (zs.drop (p + u)) = RC := ⟨_, rfl⟩
        have HRC := Lib.hid hRC
        clear hR HST hRC
        go_wp2_with fail
        refine wp_label ?_
        go_wp2_with fail
        rw [show ((z : Int) == 0) = false from by simpa using hzi]
        go_loopw [6, 24] (fun ev iv wr => ∃ (j c : Nat) (a : Int) (L : List Int) (D : Value), j ≤ z ∧ ev = .int .i64 0 ∧ iv = .int .u64 (j : Int) ∧ L.length = j ∧ (-1 ≤ a ∧ a ≤ 65535) ∧ Hid (CSt w lo mb lb ab bm zs N P L a (p + u + c) 0 D wr) ∧ Hid (RC = ((rdC (z - j) a (zs.drop (p + u + c))).1, c + (rdC (z - j) a (zs.drop (p + u + c))).2.1, L ++ (rdC (z - j) a (zs.drop (p + u + c))).2.2))) (fun _ iv _ => z - (intOf iv).toNat)
        case atStart => exact ⟨0, 0, (-1), [], .slice none 0 0, by omega, rfl, rfl, rfl, ⟨by omega, by omega⟩, HS1, by rw [Nat.sub_zero, Nat.add_zero, HRC.out]; exact Lib.hid (by simp)⟩
        case round =>
          obtain ⟨j, c, a, L, D, hj, rfl, rfl, hL, hab, HS, HE⟩ := hrel
          obtain ⟨q, hq⟩ : ∃ q, p + u + c = q := ⟨_, rfl⟩
          rw [hq] at HS HE
          rcases Nat.lt_or_ge j z with hlt | hge
          · have hj2 : (j : Int) < (z : Int) := by omega
            have K := cellr_any w lo mb lb ab bm zs N P L a q D wr HS.out hab.1 hab.2 (by omega) (by omega) HBY.out
            have hst := rdC_step (z - j - 1) a (zs.drop q)
            rw [show z - j - 1 + 1 = z - j by omega] at hst
            have hrg := fun h => rdG_rng (a := a) (HBY.out.drop q) h hab.1
            obtain ⟨⟨E, k, x⟩, hans⟩ : ∃ r, rdG a (zs.drop q) = r := ⟨_, rfl⟩
            rw [hans] at K hst hrg
            simp only at K hst hrg
            have kf := row_cell ((HS.out.off.block _ (Array.getElem?_eq_some_iff.1 H2.out).1 (by omega)).trans H2.out) 0 _ rfl
            have K := Lib.hid K
            have HST := Lib.hid hst
            clear hans hst
            go_wp2_with fail
            refine K.out.mono ?_
            rintro r w2 ⟨rfl, hoff, hok⟩
            clear K
            by_cases hE : E = 0
            · subst hE
              obtain ⟨D2, hD2⟩ := hok rfl
              have hx := hrg rfl
              have hst := HST.out
              rw [if_neg (by simp)] at hst
              have hE2 := HE.out
              rw [hst] at hE2
              simp only at hE2
              rw [List.drop_drop] at hE2
              have HE3 : Hid (RC = ((rdC (z - (j + 1)) x (zs.drop (p + u + (c + k)))).1, c + k + (rdC (z - (j + 1)) x (zs.drop (p + u + (c + k)))).2.1, (L ++ [x]) ++ (rdC (z - (j + 1)) x (zs.drop (p + u + (c + k)))).2.2)) := Lib.hid (by
                rw [hE2, ← Nat.add_assoc (p + u) c k, hq, show z - (j + 1) = z - j - 1 by omega, Nat.add_assoc, List.append_assoc]
                rfl)
              have HD2 : Hid (CSt w lo mb lb ab bm zs N P (L ++ [x]) x (p + u + (c + k)) 0 D2 w2) := Lib.hid (by rw [← Nat.add_assoc, hq]; exact hD2)
              clear hE2 hst hD2 hok hoff kf hq
              go_wp2
              go_roundw
              case rel => exact ⟨j + 1, c + k, x, L ++ [x], D2, by omega, by go_num, by go_num, by simp [hL], hx, HD2, HE3⟩
              case measure => simp [intOf]; omega
            · have e1 : ((E : Int) != 0) = true := by simpa using hE
              have hst := HST.out
              rw [if_pos hE] at hst
              have hE2 := HE.out
              rw [hst] at hE2
              have hR := HR2.out
              rw [HRC.out, hE2] at hR
              simp only at hR
              rw [if_pos hE] at hR
              have HR3 := Lib.hid hR
              have HO3 := Lib.hid (Off.two HB.out hoff hlo.1)
              clear hR hE2 hst hok hoff kf hq
              go_wp2
              try simp only [Exit.noGoto]
              go_ret
              rw [← HR3.out]
              exact ⟨rfl, HO3.out, fun h => absurd h hE⟩
          · obtain rfl : j = z := by omega
            have hE2 := HE.out
            rw [Nat.sub_self] at hE2
            simp only [rdC, Nat.add_zero, List.append_nil] at hE2
            have hR := HR2.out
            rw [HRC.out, hE2] at hR
            simp only [ne_eq, not_true_eq_false, if_false] at hR
            have HR3 := Lib.hid hR
            have HF := Lib.hid (CSt.done HH.out HB.out hlo.1 (by intro h; rw [h] at hL; simp at hL; omega) HS.out)
            have HO3 := Lib.hid (Off.two HB.out HS.out.off hlo.1)
            have HQ := Lib.hid hq
            clear hR hE2 hq
            go_wp2
            try simp only [Exit.noGoto]
            go_ret
            rw [← HR3.out]
            refine ⟨rfl, HO3.out, fun _ => ?_⟩
            have hf := HF.out
            rw [← HQ.out] at hf
            exact ⟨_, _, by rw [← Nat.add_assoc]; exact hf⟩
set_option maxHeartbeats 16000000 in
theorem countp_any (w0 w : World) (lo mb lb bo1 bo2 ab sb bm : Nat) (zs : List Int) (N : Mg) (P C : Value) (p : Nat) (f : Fd) (h0 : RdAt lo w0 mb lb zs N P C p 0) (hb : Below w0.heap.size w0 w) (hf : FdX f) (hso : f.so = 3) (hN : N.p = []) (hlo : w0.heap.size ≤ ab ∧ w0.heap.size ≤ bm ∧ w0.heap.size ≤ sb) (hl : zs.length ≤ 1000000) (hz : Bys zs)
    (h1 : w.heap[bo1]? = some (.cells #[.int .i64 f.mo] 3 (0, 0))) (h2 : w.heap[bo2]? = some (.cells #[.func (.func 74) #[] #[.pointer (some ⟨ab, 0, none⟩), .pointer (some ⟨sb, 0, none⟩), .pointer (some ⟨bm, 0, none⟩)]] 85 (0, 0))) (h3 : w.heap[ab]? = some (.cells #[.int .i64 0, .int .i64 0] 63 (0, 0))) (h4 : w.heap[bm]? = some (.cells #[.pointer (some ⟨mb, 0, none⟩)] 87 (0, 0))) (h5 : w.heap[sb]? = some (.cells #[.func (.func 73) #[] #[]] 125 (0, 0))) (hlt : ab < w.heap.size ∧ bm < w.heap.size ∧ sb < w.heap.size) :
    Calls Try.prog 71 #[.pointer (some ⟨lb, 0, none⟩), .pointer (some ⟨bo1, 0, none⟩), .pointer (some ⟨bo2, 0, none⟩)] w fun r w' => RdO lo mb lb zs p (rdF N f (zs.drop p)) w0 r w' := by
  obtain ⟨X, u, er, hX, x0, x1, hu, hw⟩ := numR_all (zs.drop p)
  have hR0 := h0.later hb
  have K := lnum_any lo lb zs p 0 w 18446744073709551615 hR0.l (by omega) hz
  rw [hX] at K
  unfold ReadI at K
  simp only [ansI, placeOf, errOf, if_true] at K
  have hmo := hf.mo.1 hso
  have hle1 := hf.lst (by omega)
  have hlm := h0.a
  have hmlt := (Array.getElem?_eq_some_iff.1 h0.m).1
  obtain ⟨_, _, hbl, -⟩ := hR0.l.open
  have n1 := row_ne h1 hbl (by decide)
  have n2 := row_ne h2 hbl (by decide)
  have n3 := row_ne h3 hbl (by decide)
  have n4 := row_ne h4 hbl (by decide)
  have n5 := row_ne h5 hbl (by decide)
  have n6 := row_ne h2 hR0.m (by decide)
  have n7 := row_ne h2 h3 (by decide)
  have hNC : P = .slice none 0 0 := h0.pz hN
  have HNE : Hid ({ N with p := [] } = N) := Lib.hid (by cases N; simp only at hN; subst hN; rfl)
  obtain ⟨R, hR⟩ : ∃ R, rdF N f (zs.drop p) = R := ⟨_, rfl⟩
  rw [hR]
  unfold rdF at hR
  rw [if_neg (show ¬ f.so = 1 by omega), if_neg (show ¬ f.so = 2 by omega), if_pos hso, hmo, hle1, hN] at hR
  simp only [List.nil_append, Int.zero_lt_one, and_true] at hR
  rw [hmo] at h1
  have K := Lib.hid K
  have HH := Lib.hid h0
  have HB := Lib.hid hb
  have HR0 := Lib.hid hR0
  have H2 := Lib.hid h2
  have H3 := Lib.hid h3
  have H4 := Lib.hid h4
  have H5 := Lib.hid h5
  have HR := Lib.hid hR
  have HW := Lib.hid hw
  have HBY := Lib.hid hz
  have H1 := Lib.hid h1
  clear hR hw hX h0 hb hbl h1 h2 h3 h4 h5 hz hR0 hf hmo hle1
  go_enter Try.func71, Try.ntmps71
  go_wp2
  refine wp_scope_straight ?_
  go_wp2_with fail
  refine K.out.mono ?_
  rintro r w1 ⟨rfl, hl1, ho1⟩
  have HOF : Hid (Off (fun q => q = mb ∨ q = lb) w0 w1) := Lib.hid (((Off.of_below (S := fun q => q = mb ∨ q = lb) HB.out).trans ho1 (fun _ _ e => .inr e)))
  have m1 := (ho1.block _ (Array.getElem?_eq_some_iff.1 HR0.out.m).1 (by omega)).trans HR0.out.m
  have k1 := row_cell ((ho1.block _ (Array.getElem?_eq_some_iff.1 H1.out).1 n1).trans H1.out) 0 _ rfl
  have a1 := (ho1.block _ (Array.getElem?_eq_some_iff.1 H3.out).1 n3).trans H3.out
  have b1 := (ho1.block _ (Array.getElem?_eq_some_iff.1 H4.out).1 n4).trans H4.out
  have s1 := (ho1.block _ (Array.getElem?_eq_some_iff.1 H5.out).1 n5).trans H5.out
  have f1 := (ho1.block _ (Array.getElem?_eq_some_iff.1 H2.out).1 n2).trans H2.out
  have hwz := HB.out.size
  rw [hNC, ← HNE.out] at m1
  have KE := Lib.hid (lerr_any _ _ _ _ _ _ hl1)
  have HST : Hid (er = 0 → PSt w lo mb lb ab sb bm zs N C [] 0 0 (p + u) 0 (.slice none 0 0) w1) := Lib.hid fun h => by
    subst h
    exact ⟨m1, hl1, World.ownsRow_nil _ _ _ _, a1, s1, b1, ho1.mono (fun _ _ e => .inr (.inl e)), by omega⟩
  have HL1 := Lib.hid hl1
  clear K hl1 a1 b1 m1 f1 s1
  go_wp2_with fail
  refine KE.out.mono ?_
  rintro r w2 ⟨rfl, rfl⟩
  clear KE
  rcases HW.out with ⟨g1, rfl⟩ | ⟨g1, rfl, rfl, rfl⟩
  · have e1 : (((Vi.get (zs.drop p)).2.2 : Int) != 0) = true := by simpa using g1
    have hR := HR.out
    rw [if_pos g1] at hR
    have HR2 := Lib.hid hR
    clear hR HST
    go_wp2
    try simp only [Exit.noGoto]
    go_ret
    rw [← HR2.out]
    exact ⟨rfl, HOF.out, fun h => absurd h g1⟩
  · have hR := HR.out
    rw [if_neg (by simpa using g1)] at hR
    clear HW HR
    generalize (Vi.get (zs.drop p)).1 = z at *
    generalize (Vi.get (zs.drop p)).2.1 = u at *
    clear g1
    by_cases hz0 : z = 0
    · subst hz0
      rw [if_pos rfl] at hR
      have HR2 := Lib.hid hR
      clear hR HST
      go_wp2
      try simp only [Exit.noGoto]
      go_ret
      rw [← HR2.out]
      exact ⟨rfl, HOF.out, fun h => by simp at h⟩
    · have hzi : ¬ (z : Int) = 0 := by omega
      rw [if_neg hz0] at hR
      by_cases hbig : (16 : Int) < (z : Int)
      · rw [if_pos hbig] at hR
        have HR2 := Lib.hid hR
        clear hR HST
        go_wp2
        try simp only [Exit.noGoto]
        go_ret
        rw [← HR2.out]
        exact ⟨rfl, HOF.out, fun h => by simp at h⟩
      · rw [if_neg hbig] at hR
        rw [List.drop_drop] at hR
        have hz32 : (z : Int) ≤ 16 := by omega
        have HR2 := Lib.hid hR
        have HS1 := Lib.hid (HST.out rfl)
        obtain ⟨RC, hRC⟩ : ∃ RC, rdP z (0, 0) (zs.drop (p + u)) = RC := ⟨_, rfl⟩
        have HRC := Lib.hid hRC
        clear hR HST hRC
        go_wp2_with fail
        refine wp_label ?_
        go_wp2_with fail
        rw [show ((z : Int) == 0) = false from by simpa using hzi]
        go_loopw [6, 24] (fun ev iv wr => ∃ (j c : Nat) (a : Int × Int) (L : List (Int × Int)) (D : Value), j ≤ z ∧ ev = .int .i64 0 ∧ iv = .int .u64 (j : Int) ∧ L.length = j ∧ (ptOk a) ∧ Hid (PSt w lo mb lb ab sb bm zs N C L a.1 a.2 (p + u + c) 0 D wr) ∧ Hid (RC = ((rdP (z - j) a (zs.drop (p + u + c))).1, c + (rdP (z - j) a (zs.drop (p + u + c))).2.1, L ++ (rdP (z - j) a (zs.drop (p + u + c))).2.2))) (fun _ iv _ => z - (intOf iv).toNat)
        case atStart => exact ⟨0, 0, (0, 0), [], .slice none 0 0, by omega, rfl, rfl, rfl, ⟨by simp, by simp, by simp, by simp⟩, HS1, by rw [Nat.sub_zero, Nat.add_zero, HRC.out]; exact Lib.hid (by simp)⟩
        case round =>
          obtain ⟨j, c, a, L, D, hj, rfl, rfl, hL, hab, HS, HE⟩ := hrel
          obtain ⟨q, hq⟩ : ∃ q, p + u + c = q := ⟨_, rfl⟩
          rw [hq] at HS HE
          rcases Nat.lt_or_ge j z with hlt | hge
          · have hj2 : (j : Int) < (z : Int) := by omega
            have K := pointr_any w lo mb lb ab sb bm zs N C L a.1 a.2 q D wr HS.out ⟨hab.1, hab.2.1⟩ ⟨hab.2.2.1, hab.2.2.2⟩ (by omega) (by omega) HBY.out
            have hst := rdP_q (z - j - 1) a (zs.drop q)
            rw [show z - j - 1 + 1 = z - j by omega] at hst
            have hrg := rdQ_rng (a := a) (HBY.out.drop q)
            obtain ⟨⟨E, k, x⟩, hans⟩ : ∃ r, rdQ a (zs.drop q) = r := ⟨_, rfl⟩
            rw [hans] at K hst hrg
            simp only at K hst hrg
            have kf := row_cell ((HS.out.off.block _ (Array.getElem?_eq_some_iff.1 H2.out).1 (by omega)).trans H2.out) 0 _ rfl
            have K := Lib.hid K
            have HST := Lib.hid hst
            clear hans hst
            go_wp2_with fail
            refine K.out.mono ?_
            rintro r w2 ⟨rfl, hoff, hok⟩
            clear K
            by_cases hE : E = 0
            · subst hE
              obtain ⟨D2, hD2⟩ := hok rfl
              have hx := hrg rfl
              have hst := HST.out
              rw [if_neg (by simp)] at hst
              have hE2 := HE.out
              rw [hst] at hE2
              simp only at hE2
              rw [List.drop_drop] at hE2
              have HE3 : Hid (RC = ((rdP (z - (j + 1)) x (zs.drop (p + u + (c + k)))).1, c + k + (rdP (z - (j + 1)) x (zs.drop (p + u + (c + k)))).2.1, (L ++ [x]) ++ (rdP (z - (j + 1)) x (zs.drop (p + u + (c + k)))).2.2)) := Lib.hid (by
                rw [hE2, ← Nat.add_assoc (p + u) c k, hq, show z - (j + 1) = z - j - 1 by omega, Nat.add_assoc, List.append_assoc]
                rfl)
              have HD2 : Hid (PSt w lo mb lb ab sb bm zs N C (L ++ [x]) x.1 x.2 (p + u + (c + k)) 0 D2 w2) := Lib.hid (by rw [← Nat.add_assoc, hq]; exact hD2)
              clear hE2 hst hD2 hok hoff kf hq
              go_wp2
              go_roundw
              case rel => exact ⟨j + 1, c + k, x, L ++ [x], D2, by omega, by go_num, by go_num, by simp [hL], hx, HD2, HE3⟩
              case measure => simp [intOf]; omega
            · have e1 : ((E : Int) != 0) = true := by simpa using hE
              have hst := HST.out
              rw [if_pos hE] at hst
              have hE2 := HE.out
              rw [hst] at hE2
              have hR := HR2.out
              rw [HRC.out, hE2] at hR
              simp only at hR
              rw [if_pos hE] at hR
              have HR3 := Lib.hid hR
              have HO3 := Lib.hid (Off.two HB.out hoff hlo.1)
              clear hR hE2 hst hok hoff kf hq
              go_wp2
              try simp only [Exit.noGoto]
              go_ret
              rw [← HR3.out]
              exact ⟨rfl, HO3.out, fun h => absurd h hE⟩
          · obtain rfl : j = z := by omega
            have hE2 := HE.out
            rw [Nat.sub_self] at hE2
            simp only [rdP, Nat.add_zero, List.append_nil] at hE2
            have hR := HR2.out
            rw [HRC.out, hE2] at hR
            simp only [ne_eq, not_true_eq_false, if_false] at hR
            have HR3 := Lib.hid hR
            have HF := Lib.hid (PSt.done HH.out HB.out hlo.1 (by intro h; rw [h] at hL; simp at hL; omega) HS.out)
            have HO3 := Lib.hid (Off.two HB.out HS.out.off hlo.1)
            have HQ := Lib.hid hq
            clear hR hE2 hq
            go_wp2
            try simp only [Exit.noGoto]
            go_ret
            rw [← HR3.out]
            refine ⟨rfl, HO3.out, fun _ => ?_⟩
            have hf := HF.out
            rw [← HQ.out] at hf
            exact ⟨_, _, by rw [← Nat.add_assoc]; exact hf⟩
end Go.Proofs.Ytlbfibnfmijahaa

namespace Go.Proofs.Ytlbfibnfmijahaa
open Go.RowKit Go.Shelf
set_option maxRecDepth 100000
attribute [local go_sem] Oper.semAt_some

theorem unfit_any (x : Int) (w : World) : Calls Try.prog 80 #[.int .u8 x] w fun e w' => e = .returned (.bool (decide (¬ byI x))) ∧ w' = w := by
  by_cases h1 : x < 32
  · rw [decide_eq_true (by unfold byI; omega)]
    go_enter Try.func80, Try.ntmps80
    go_wp2
    go_ret
    exact ⟨rfl, rfl⟩
  · by_cases h2 : 126 < x
    · rw [decide_eq_true (by unfold byI; omega)]
      go_enter Try.func80, Try.ntmps80
      go_wp2
      go_ret
      exact ⟨rfl, rfl⟩
    · rw [decide_eq_false (by unfold byI; omega)]
      go_enter Try.func80, Try.ntmps80
      go_wp2
      go_ret
      exact ⟨rfl, rfl⟩
set_option maxHeartbeats 1000000 in
theorem indexu_any (B : Nat) (a : Option Addr) (n c : Nat) (zs : List Int) (w : World) (hn : zs.length = n) (hl : n ≤ 1000000) (h1 : Nums .u8 w B a zs) :
    Calls Try.prog 94 #[.slice a n c, .func (.func 80) #[] #[]] w fun e w' => (∃ r : Int, e = .returned (.int .i64 r) ∧ ((0 ≤ r ∧ ∃ s ∈ zs, ¬ byI s) ∨ (r = -1 ∧ ∀ s ∈ zs, byI s))) ∧ w' = w := by
  have HL := Lib.hid hn
  clear hn
  go_enter Try.func94, Try.ntmps94
  go_wp2
  go_loopw [5, 8] (fun _ v wr => ∃ k : Nat, k ≤ n ∧ v = .int .i64 (k : Int) ∧ Hid (∀ s ∈ zs.take k, byI s) ∧ wr = w) (fun _ v _ => n - (intOf v).toNat)
  case atStart => exact ⟨0, by omega, rfl, fun s hs => by simp at hs, rfl⟩
  case round =>
    obtain ⟨k, hk, rfl, HN, rfl⟩ := hrel
    by_cases hlt : k < n
    · obtain ⟨z, hz⟩ : ∃ z, zs[k]? = some z := ⟨_, List.getElem?_eq_getElem (by rw [HL.out]; exact hlt)⟩
      obtain ⟨b1, o1, rfl, hb1, hc1⟩ := h1.open hz
      have hlt' : (k : Int) < (n : Int) := by omega
      have K := unfit_any z wr
      by_cases hz0 : byI z
      · have HF : Hid (∀ s ∈ zs.take (k + 1), byI s) := by
          show ∀ s ∈ _, _
          rw [List.take_add_one, hz]
          intro s hs
          rcases List.mem_append.1 hs with h | h
          · exact HN.out s h
          · simp at h; subst h; exact hz0
        rw [decide_eq_false (by simpa using hz0)] at K
        clear hz h1
        go_wp2_with fail
        refine K.mono ?_
        rintro e w' ⟨rfl, rfl⟩
        go_wp2
        go_roundw
        case rel => exact ⟨k + 1, by omega, by go_num, HF, trivial⟩
        case measure => simp [intOf]; omega
      · have HF := Lib.hid (show ∃ s ∈ zs, ¬ byI s from ⟨z, List.mem_of_getElem? hz, hz0⟩)
        rw [decide_eq_true hz0] at K
        clear hz h1
        go_wp2_with fail
        refine K.mono ?_
        rintro e w' ⟨rfl, rfl⟩
        go_wp2
        go_ret
        exact ⟨⟨_, rfl, .inl ⟨by omega, HF.out⟩⟩, rfl⟩
    · have hkn : k = n := by omega
      have HF : Hid (∀ s ∈ zs, byI s) := by
        have := HN.out
        rwa [List.take_of_length_le (by rw [HL.out]; omega)] at this
      go_wp2
      go_ret
      exact ⟨⟨_, rfl, .inr ⟨rfl, HF.out⟩⟩, rfl⟩
theorem cunfit_any (B : Nat) (a : Option Addr) (n c : Nat) (zs : List Int) (w : World) (hn : zs.length = n) (hl : n ≤ 1000000) (h1 : Nums .u8 w B a zs) :
    Calls Try.prog 79 #[.slice a n c, .func (.func 80) #[] #[]] w fun e w' => e = .returned (.bool (decide (¬ ∀ s ∈ zs, byI s))) ∧ w' = w := by
  have K := indexu_any B a n c zs w hn hl h1
  clear h1
  obtain ⟨r0, hr0⟩ : ∃ r0, decide (¬ ∀ s ∈ zs, byI s) = r0 := ⟨_, rfl⟩
  rw [hr0]
  go_enter Try.func79, Try.ntmps79
  go_wp2_with fail
  refine K.mono ?_
  rintro e w' ⟨⟨r, rfl, h⟩, rfl⟩
  rcases h with ⟨h0, s, hs1, hs2⟩ | ⟨rfl, h⟩
  · have hr : r0 = true := by rw [← hr0]; exact decide_eq_true fun h => hs2 (h s hs1)
    subst hr
    clear K hr0
    go_wp2
    go_ret
    exact ⟨rfl, rfl⟩
  · have hr : r0 = false := by rw [← hr0]; exact decide_eq_false fun h2 => h2 h
    subst hr
    clear h K hr0
    go_wp2
    go_ret
    exact ⟨rfl, rfl⟩
theorem puttx_any (mb bm : Nat) (N : Mg) (P C : Value) (s : ByteArray) (w : World) (hm : w.heap[mb]? = some (.cells (mC N P C) 33 (0, 0))) (hbm : w.heap[bm]? = some (.cells #[.pointer (some ⟨mb, 0, none⟩)] 87 (0, 0))) :
    Calls Try.prog 57 #[.string s, .pointer (some ⟨bm, 0, none⟩)] w fun e w' => (∃ x, e = .returned x) ∧ w' = w.setCell ⟨mb, 9, none⟩ (.string s) := by
  have k := row_cell hbm 0 _ rfl
  have c := row_cell hm 9 (.string N.tx) rfl
  have z := frozen_of_row w mb 9 _ _ hm
  clear hm hbm
  go_enter Try.func57, Try.ntmps57
  go_wp2
  go_end0
  exact ⟨⟨_, rfl⟩, rfl⟩
theorem puttg_any (mb bm : Nat) (N : Mg) (P C : Value) (s : ByteArray) (w : World) (hm : w.heap[mb]? = some (.cells (mC N P C) 33 (0, 0))) (hbm : w.heap[bm]? = some (.cells #[.pointer (some ⟨mb, 0, none⟩)] 87 (0, 0))) :
    Calls Try.prog 58 #[.string s, .pointer (some ⟨bm, 0, none⟩)] w fun e w' => (∃ x, e = .returned x) ∧ w' = w.setCell ⟨mb, 10, none⟩ (.string s) := by
  have k := row_cell hbm 0 _ rfl
  have c := row_cell hm 10 (.string N.tg) rfl
  have z := frozen_of_row w mb 10 _ _ hm
  clear hm hbm
  go_enter Try.func58, Try.ntmps58
  go_wp2
  go_end0
  exact ⟨⟨_, rfl⟩, rfl⟩
/-- 'string(b)' of bytes that lie somewhere -/
theorem conv_txt (B : Nat) (a : Option Addr) (n c : Nat) (zs : List Int) (w : World) (hn : zs.length = n) (h1 : Nums .u8 w B a zs) :
    (convert 22 9 (.slice a n c)).run Try.prog w = .ok (.string (txt zs)) w := by
  subst hn
  by_cases hz : zs = []
  · subst hz
    rw [run_convert_bytes_string w _ _ _ _ _ _ Try.underlying22 Try.underlying5 Try.underlying9]
    cases a <;> simp [Conv.bytesToString, loadCells] <;> rfl
  · obtain ⟨b, o, rfl, _, hc⟩ := h1 hz
    exact run_convert_bytes_arg (P := Try.prog) w _ _ Try.underlying22 Try.underlying5 b o _ c zs rfl (fun i hi => by
      rw [hc i zs[i] (List.getElem?_eq_getElem hi)]
      simp [List.getElem?_eq_getElem hi]) _ Try.underlying9
theorem NumsIn.nums18 {k : IntKind} {w : World} {lo hi : Nat} {a : Option Addr} {zs : List Int} (h : NumsIn k w lo hi a zs) : Nums k w hi a zs := fun hn => by
  obtain ⟨b, off, e, _, h2, hc⟩ := h hn
  exact ⟨b, off, e, h2, hc⟩
theorem fldR_ways (l : List Int) (mo : Int) (h0 : 0 ≤ mo) (h1 : mo ≤ 64) : ∃ (B : List Int) (u er : Nat), fldR l mo = (B, u, er) ∧ B.length ≤ 64 ∧
    (((Vi.get l).2.2 ≠ 0 ∧ er = (Vi.get l).2.2) ∨ ((Vi.get l).2.2 = 0 ∧ mo < ((Vi.get l).1 : Int) ∧ er = 6) ∨
      ((Vi.get l).2.2 = 0 ∧ ((Vi.get l).1 : Int) ≤ mo ∧ (l.drop (Vi.get l).2.1).length < (Vi.get l).1 ∧ er = 4) ∨
      ((Vi.get l).2.2 = 0 ∧ ((Vi.get l).1 : Int) ≤ mo ∧ ¬ (l.drop (Vi.get l).2.1).length < (Vi.get l).1 ∧ er = 0 ∧ B = (l.drop (Vi.get l).2.1).take (Vi.get l).1 ∧ u = (Vi.get l).2.1 + (Vi.get l).1)) := by
  unfold fldR
  rw [show max mo 0 = mo by omega]
  by_cases g1 : (Vi.get l).2.2 ≠ 0
  · rw [if_pos g1]
    exact ⟨[], 0, _, rfl, by simp, .inl ⟨g1, rfl⟩⟩
  · rw [if_neg g1]
    have g1' : (Vi.get l).2.2 = 0 := by simpa using g1
    by_cases g2 : mo < ((Vi.get l).1 : Int)
    · rw [if_pos g2]
      exact ⟨[], 0, _, rfl, by simp, .inr (.inl ⟨g1', g2, rfl⟩)⟩
    · rw [if_neg g2]
      by_cases g3 : l.length - (Vi.get l).2.1 < (Vi.get l).1
      · rw [if_pos g3]
        exact ⟨[], 0, _, rfl, by simp, .inr (.inr (.inl ⟨g1', by omega, by rw [List.length_drop]; exact g3, rfl⟩))⟩
      · rw [if_neg g3]
        exact ⟨_, _, _, rfl, by rw [List.length_take]; omega, .inr (.inr (.inr ⟨g1', by omega, by rw [List.length_drop]; exact g3, rfl, rfl, rfl⟩))⟩
set_option maxHeartbeats 4000000 in
theorem textr_any (lo mb lb bo bp bm : Nat) (zs : List Int) (N : Mg) (P C : Value) (p : Nat) (f : Fd) (w : World) (h : RdAt lo w mb lb zs N P C p 0) (hf : FdX f) (hso : f.so = 5) (hl : zs.length ≤ 1000000) (hz : Bys zs)
    (hbo : w.heap[bo]? = some (.cells #[.int .i64 f.mo] 3 (0, 0))) (hbp : w.heap[bp]? = some (.cells #[.func (.func 57) #[] #[.pointer (some ⟨bm, 0, none⟩)]] 112 (0, 0))) (hbm : w.heap[bm]? = some (.cells #[.pointer (some ⟨mb, 0, none⟩)] 87 (0, 0))) :
    Calls Try.prog 77 #[.pointer (some ⟨lb, 0, none⟩), .pointer (some ⟨bo, 0, none⟩), .pointer (some ⟨bp, 0, none⟩)] w fun r w' => RdO lo mb lb zs p (rdF N f (zs.drop p)) w r w' := by
  have hmo : 0 ≤ f.mo ∧ f.mo ≤ 64 := by have := hf.mo; omega
  have hle0 := hf.tex (by omega)
  obtain ⟨Bs, u, er, hX, hBl, hw⟩ := fldR_ways (zs.drop p) f.mo hmo.1 hmo.2
  have K := lfld_any lo lb zs p 0 w f.mo (by omega) (by omega) h.l (by omega) hz
  rw [hX] at K
  unfold ReadB at K
  simp only [ansB, placeOf, errOf, if_true] at K
  obtain ⟨R, hR⟩ : ∃ R, rdF N f (zs.drop p) = R := ⟨_, rfl⟩
  rw [hR]
  unfold rdF at hR
  rw [if_neg (show ¬ f.so = 1 by omega), if_neg (show ¬ f.so = 2 by omega), if_neg (show ¬ (((Vi.get (zs.drop p)).1 = 0) ∧ 0 < f.le) by omega), if_neg (show ¬ f.so = 3 by omega), if_neg (show ¬ f.so = 4 by omega)] at hR
  have hlm := h.a
  obtain ⟨_, _, hbl, -⟩ := h.l.open
  have n1 := row_ne hbo h.m (by decide)
  have n2 := row_ne hbo hbl (by decide)
  have n3 := row_ne hbm h.m (by decide)
  have n4 := row_ne hbm hbl (by decide)
  have n6 := row_ne hbp hbl (by decide)
  have kb := row_cell hbo 0 _ rfl
  have K := Lib.hid K
  have HH := Lib.hid h
  have HBP := Lib.hid hbp
  have HBM := Lib.hid hbm
  have HR := Lib.hid hR
  have HW := Lib.hid hw
  obtain ⟨q, hq⟩ : ∃ q, Bs.length = q := ⟨_, rfl⟩
  rw [hq] at K hBl
  have HQ := Lib.hid hq
  clear hR hw hX h hbl hbo hbp hbm hq
  go_enter Try.func77, Try.ntmps77
  go_wp2_with fail
  refine K.out.mono ?_
  rintro r w1 ⟨⟨A, c, rfl, hcc, hn⟩, hl1, ho1⟩
  have h1 := HH.out.turn hl1 ho1
  have hn1 := hn.nums18
  have hbm1 := (ho1.block _ (Array.getElem?_eq_some_iff.1 HBM.out).1 n4).trans HBM.out
  have hbp1 := (ho1.block _ (Array.getElem?_eq_some_iff.1 HBP.out).1 n6).trans HBP.out
  have kp := row_cell hbp1 0 _ rfl
  have hcv := conv_txt _ A q c Bs w1 HQ.out hn1
  have KP := Lib.hid (puttx_any mb bm N P C (txt Bs) w1 h1.m hbm1)
  obtain ⟨w2, hw2⟩ : ∃ w2, w1.setCell ⟨mb, 9, none⟩ (.string (txt Bs)) = w2 := ⟨_, rfl⟩
  have hN := h1.tx (txt Bs)
  have hof : Off (fun q => q = mb) w1 (w1.setCell ⟨mb, 9, none⟩ (.string (txt Bs))) := Off.setCell (S := fun q => q = mb) (p := ⟨mb, 9, none⟩) (Off.refl _ w1) rfl _
  rw [hw2] at hN KP hof
  have hmlt := (Array.getElem?_eq_some_iff.1 HH.out.m).1
  have HN2 : Hid (Nums .u8 w2 w2.heap.size A Bs) := Lib.hid fun hne => by
    obtain ⟨b, off, e, k1, k2, kc⟩ := hn hne
    exact ⟨b, off, e, Nat.lt_of_lt_of_le k2 hof.size, fun j c hj => hof.cell (kc j c hj) (by show ¬ b = mb; omega)⟩
  have HN := Lib.hid hN
  have HOF : Hid (Off (fun q => q = mb ∨ q = lb) w w2) := Lib.hid ((ho1.mono (S' := fun q => q = mb ∨ q = lb) (fun _ _ e => .inr e)).trans hof (fun _ _ e => .inl e))
  clear K hl1 ho1 h1 hn hn1 hbm1 hbp1 hof hN hw2
  go_wp2_with fail
  refine KP.out.mono ?_
  rintro r w3 ⟨⟨x, rfl⟩, rfl⟩
  clear hcv kp KP
  go_wp2_with fail
  refine (cunfit_any _ A q c Bs _ HQ.out (by omega) HN2.out).mono ?_
  rintro r w4 ⟨rfl, rfl⟩
  obtain ⟨am, ham⟩ : ∃ am, decide (¬ ∀ s ∈ Bs, byI s) = am := ⟨_, rfl⟩
  rw [ham]
  go_wp2_with fail
  refine (otherwise_any HN.out.l am 19).mono ?_
  rintro r w5 ⟨rfl, rfl⟩
  have HAM := Lib.hid ham
  clear ham
  go_wp2
  go_ret
  have hR := HR.out
  have ham := HAM.out
  rcases HW.out with ⟨g1, rfl⟩ | ⟨g1, g2, rfl⟩ | ⟨g1, g2, g3, rfl⟩ | ⟨g1, g2, g3, rfl, g4, rfl⟩
  · rw [if_pos g1] at hR
    subst hR
    exact ⟨by simp [oth, g1], HOF.out, fun h => absurd h g1⟩
  · rw [if_neg (by simpa using g1), if_pos g2] at hR
    subst hR
    exact ⟨by simp [oth], HOF.out, fun h => by simp at h⟩
  · rw [if_neg (by simpa using g1), if_neg (by omega)] at hR
    unfold rdT at hR
    rw [if_pos g3] at hR
    simp only [ne_eq, Nat.reduceEqDiff, not_false_eq_true, if_true] at hR
    subst hR
    exact ⟨by simp [oth], HOF.out, fun h => by simp at h⟩
  · rw [if_neg (by simpa using g1), if_neg (by omega)] at hR
    unfold rdT at hR
    rw [if_neg g3, ← g4] at hR
    by_cases hb : ∀ s ∈ Bs, byI s
    · have : am = false := by rw [← ham]; exact decide_eq_false fun h => h hb
      subst this
      rw [if_pos hb] at hR
      simp only [ne_eq, not_true_eq_false, if_false, if_pos hso] at hR
      subst hR
      exact ⟨by simp [oth], HOF.out, fun _ => ⟨P, C, HN.out⟩⟩
    · have : am = true := by rw [← ham]; exact decide_eq_true hb
      subst this
      rw [if_neg hb] at hR
      simp only [ne_eq, Nat.reduceEqDiff, not_false_eq_true, if_true] at hR
      subst hR
      exact ⟨by simp [oth], HOF.out, fun h => by simp at h⟩
set_option maxHeartbeats 4000000 in
theorem tagr_any (lo mb lb bo bp bm : Nat) (zs : List Int) (N : Mg) (P C : Value) (p : Nat) (f : Fd) (w : World) (h : RdAt lo w mb lb zs N P C p 0) (hf : FdX f) (hso : f.so = 6) (hl : zs.length ≤ 1000000) (hz : Bys zs)
    (hbo : w.heap[bo]? = some (.cells #[.int .i64 f.mo] 3 (0, 0))) (hbp : w.heap[bp]? = some (.cells #[.func (.func 58) #[] #[.pointer (some ⟨bm, 0, none⟩)]] 112 (0, 0))) (hbm : w.heap[bm]? = some (.cells #[.pointer (some ⟨mb, 0, none⟩)] 87 (0, 0))) :
    Calls Try.prog 77 #[.pointer (some ⟨lb, 0, none⟩), .pointer (some ⟨bo, 0, none⟩), .pointer (some ⟨bp, 0, none⟩)] w fun r w' => RdO lo mb lb zs p (rdF N f (zs.drop p)) w r w' := by
  have hmo : 0 ≤ f.mo ∧ f.mo ≤ 64 := by have := hf.mo; omega
  have hle0 := hf.tex (by omega)
  obtain ⟨Bs, u, er, hX, hBl, hw⟩ := fldR_ways (zs.drop p) f.mo hmo.1 hmo.2
  have K := lfld_any lo lb zs p 0 w f.mo (by omega) (by omega) h.l (by omega) hz
  rw [hX] at K
  unfold ReadB at K
  simp only [ansB, placeOf, errOf, if_true] at K
  obtain ⟨R, hR⟩ : ∃ R, rdF N f (zs.drop p) = R := ⟨_, rfl⟩
  rw [hR]
  unfold rdF at hR
  rw [if_neg (show ¬ f.so = 1 by omega), if_neg (show ¬ f.so = 2 by omega), if_neg (show ¬ (((Vi.get (zs.drop p)).1 = 0) ∧ 0 < f.le) by omega), if_neg (show ¬ f.so = 3 by omega), if_neg (show ¬ f.so = 4 by omega)] at hR
  have hlm := h.a
  obtain ⟨_, _, hbl, -⟩ := h.l.open
  have n1 := row_ne hbo h.m (by decide)
  have n2 := row_ne hbo hbl (by decide)
  have n3 := row_ne hbm h.m (by decide)
  have n4 := row_ne hbm hbl (by decide)
  have n6 := row_ne hbp hbl (by decide)
  have kb := row_cell hbo 0 _ rfl
  have K := Lib.hid K
  have HH := Lib.hid h
  have HBP := Lib.hid hbp
  have HBM := Lib.hid hbm
  have HR := Lib.hid hR
  have HW := Lib.hid hw
  obtain ⟨q, hq⟩ : ∃ q, Bs.length = q := ⟨_, rfl⟩
  rw [hq] at K hBl
  have HQ := Lib.hid hq
  clear hR hw hX h hbl hbo hbp hbm hq
  go_enter Try.func77, Try.ntmps77
  go_wp2_with fail
  refine K.out.mono ?_
  rintro r w1 ⟨⟨A, c, rfl, hcc, hn⟩, hl1, ho1⟩
  have h1 := HH.out.turn hl1 ho1
  have hn1 := hn.nums18
  have hbm1 := (ho1.block _ (Array.getElem?_eq_some_iff.1 HBM.out).1 n4).trans HBM.out
  have hbp1 := (ho1.block _ (Array.getElem?_eq_some_iff.1 HBP.out).1 n6).trans HBP.out
  have kp := row_cell hbp1 0 _ rfl
  have hcv := conv_txt _ A q c Bs w1 HQ.out hn1
  have KP := Lib.hid (puttg_any mb bm N P C (txt Bs) w1 h1.m hbm1)
  obtain ⟨w2, hw2⟩ : ∃ w2, w1.setCell ⟨mb, 10, none⟩ (.string (txt Bs)) = w2 := ⟨_, rfl⟩
  have hN := h1.tg (txt Bs)
  have hof : Off (fun q => q = mb) w1 (w1.setCell ⟨mb, 10, none⟩ (.string (txt Bs))) := Off.setCell (S := fun q => q = mb) (p := ⟨mb, 10, none⟩) (Off.refl _ w1) rfl _
  rw [hw2] at hN KP hof
  have hmlt := (Array.getElem?_eq_some_iff.1 HH.out.m).1
  have HN2 : Hid (Nums .u8 w2 w2.heap.size A Bs) := Lib.hid fun hne => by
    obtain ⟨b, off, e, k1, k2, kc⟩ := hn hne
    exact ⟨b, off, e, Nat.lt_of_lt_of_le k2 hof.size, fun j c hj => hof.cell (kc j c hj) (by show ¬ b = mb; omega)⟩
  have HN := Lib.hid hN
  have HOF : Hid (Off (fun q => q = mb ∨ q = lb) w w2) := Lib.hid ((ho1.mono (S' := fun q => q = mb ∨ q = lb) (fun _ _ e => .inr e)).trans hof (fun _ _ e => .inl e))
  clear K hl1 ho1 h1 hn hn1 hbm1 hbp1 hof hN hw2
  go_wp2_with fail
  refine KP.out.mono ?_
  rintro r w3 ⟨⟨x, rfl⟩, rfl⟩
  clear hcv kp KP
  go_wp2_with fail
  refine (cunfit_any _ A q c Bs _ HQ.out (by omega) HN2.out).mono ?_
  rintro r w4 ⟨rfl, rfl⟩
  obtain ⟨am, ham⟩ : ∃ am, decide (¬ ∀ s ∈ Bs, byI s) = am := ⟨_, rfl⟩
  rw [ham]
  go_wp2_with fail
  refine (otherwise_any HN.out.l am 19).mono ?_
  rintro r w5 ⟨rfl, rfl⟩
  have HAM := Lib.hid ham
  clear ham
  go_wp2
  go_ret
  have hR := HR.out
  have ham := HAM.out
  rcases HW.out with ⟨g1, rfl⟩ | ⟨g1, g2, rfl⟩ | ⟨g1, g2, g3, rfl⟩ | ⟨g1, g2, g3, rfl, g4, rfl⟩
  · rw [if_pos g1] at hR
    subst hR
    exact ⟨by simp [oth, g1], HOF.out, fun h => absurd h g1⟩
  · rw [if_neg (by simpa using g1), if_pos g2] at hR
    subst hR
    exact ⟨by simp [oth], HOF.out, fun h => by simp at h⟩
  · rw [if_neg (by simpa using g1), if_neg (by omega)] at hR
    unfold rdT at hR
    rw [if_pos g3] at hR
    simp only [ne_eq, Nat.reduceEqDiff, not_false_eq_true, if_true] at hR
    subst hR
    exact ⟨by simp [oth], HOF.out, fun h => by simp at h⟩
  · rw [if_neg (by simpa using g1), if_neg (by omega)] at hR
    unfold rdT at hR
    rw [if_neg g3, ← g4] at hR
    by_cases hb : ∀ s ∈ Bs, byI s
    · have : am = false := by rw [← ham]; exact decide_eq_false fun h => h hb
      subst this
      rw [if_pos hb] at hR
      simp only [ne_eq, not_true_eq_false, if_false, if_neg (show ¬ f.so = 5 by omega)] at hR
      subst hR
      exact ⟨by simp [oth], HOF.out, fun _ => ⟨P, C, HN.out⟩⟩
    · have : am = true := by rw [← ham]; exact decide_eq_true hb
      subst this
      rw [if_neg hb] at hR
      simp only [ne_eq, Nat.reduceEqDiff, not_false_eq_true, if_true] at hR
      subst hR
      exact ⟨by simp [oth], HOF.out, fun h => by simp at h⟩
end Go.Proofs.Ytlbfibnfmijahaa
