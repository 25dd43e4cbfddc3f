/-
  Part 2 of the texts of one proof, put together: WordC, Meth, Meths, HdR, HdS, RhC, RhP, HdB, Q2, Q5, Q6, HdL, HdK, HdT, RhD, RhL, App, Wrd.
-/
import Derived.RangeFuncBox
import Derived.IntWalk
import Derived.RangeFuncWrites
import Derived.Handy
import Derived.Test.YtmmffifndheafaaDoorRows
import Derived.WalkLawsBesides
import Derived.WalkMore
import Derived.Lib.Hide
import Derived.BigRegion
import Derived.Deep.QuietTactic
import Derived.Deep.Quiet
import Derived.BigQuiet
import Derived.Below
import Derived.Deep.LoopGhost
import Derived.Laws.IdiomStrings
import Derived.Deep.Upon
import Derived.Lib.AppendZeros
import Derived.Test.YtmmffifndheafaaDoorPart1
namespace Go.Proofs.YtmmffifndheafaaDoor
open Go.RowKit Go.Shelf
set_option maxRecDepth 100000
attribute [local go_sem] Oper.semAt_some

theorem le_snoc_rev (L : List Int) (c : Int) : le (L ++ [c]).reverse = c + 256 * le L.reverse := by simp [le]
theorem bytesOf_bound (pre : List PB) : ∀ c ∈ (bytesOf pre).reverse, 0 ≤ c ∧ c ≤ 255 := by
  intro c hc
  simp only [bytesOf, List.mem_reverse, List.mem_map] at hc
  obtain ⟨x, _, rfl⟩ := hc
  exact x.2.2

set_option maxHeartbeats 4000000 in
/-- what the loop over the bytes that part gave makes: for those of a word, and for none -/
theorem wordc_go (a : Option Addr) (n cap c : Nat) (z : List Int) (m e : Int) (az : Option Addr) (nz cz : Nat) (w : World) (hcl : c < w.heap.size) (hc : w.cell? ⟨c, 0, none⟩ = some (.int .i64 m))
    (HP : ∀ w, Calls Tryd.prog 38 #[.slice a n cap, .int .i64 m] w fun r w' => r = .returned (.tuple #[.slice az nz cz, .int .i64 e]) ∧ w = w')
    (hzn : z.length = nz) (hz4 : nz ≤ 4) (hzb : ∀ x ∈ z, 0 ≤ x ∧ x ≤ 255) (hzm : Nums .u8 w w.heap.size az z) :
    Calls Tryd.prog 37 #[.slice a n cap, .pointer (some ⟨c, 0, none⟩)] w fun r w' => r = .returned (.tuple #[.int .u32 (le z), .int .i64 nz, .int .i64 e]) ∧ Below w.heap.size w w' := by
  refine (callsIn_wide (n := 3)).1 ?_
  refine callsIn_of_wp_marks Tryd.func37 rfl trivial ?_ rfl
  simp only [Tryd.ntmps37, List.size_toArray, List.length_cons, List.length_nil, Nat.reduceAdd, Nat.reduceSub, Array.replicate_succ, Array.replicate_zero, List.push_toArray, List.append_toArray, List.nil_append, List.cons_append]
  have hW0 : Below w.heap.size w (w.alloc (.cells #[.int .u32 0] 22)) := (Below.refl _ w).alloc (Nat.le_refl _) _
  have bC := Boxed.new w 22 (.int .u32 0)
  have hcW : (w.alloc (.cells #[.int .u32 0] 22)).cell? ⟨c, 0, none⟩ = some (.int .i64 m) := (hW0.cell (p := ⟨c, 0, none⟩) hcl).trans hc
  have hsz : (w.alloc (.cells #[.int .u32 0] 22)).heap.size = w.heap.size + 1 := by simp
  have hzW : Nums .u8 (w.alloc (.cells #[.int .u32 0] 22)) w.heap.size az z := hzm.below hW0
  gi_wp2_with fail
  refine ⟨trivial, ?_⟩
  generalize w.alloc (.cells #[.int .u32 0] 22) = W0 at *
  refine (callsIn_wide.2 (HP W0)).mono ?_
  rintro e w1 ⟨rfl, rfl⟩
  gi_wp2_with fail
  refine ⟨trivial, ?_⟩
  refine (callsIn_wide.2 (back_any az nz cz W0)).mono ?_
  rintro e w1 ⟨rfl, rfl⟩
  gi_wp2_with fail
  have hb1 : Below W0.heap.size W0 (W0.alloc (.cells #[.slice az nz cz] 25)) := (Below.refl _ W0).alloc (Nat.le_refl _) _
  have hbox : (W0.alloc (.cells #[.slice az nz cz] 25)).cell? ⟨W0.heap.size, 0, none⟩ = some (.slice az z.length cz) := by rw [hzn]; simp
  have kC := bC.alloc (.cells #[.slice az nz cz] 25)
  have hz1 := hzW.below (hb1.mono (by omega))
  have hs1 : (W0.alloc (.cells #[.slice az nz cz] 25)).heap.size = w.heap.size + 2 := by simp; omega
  have hbw := hW0.trans (hb1.mono hW0.size)
  generalize W0.alloc (.cells #[.slice az nz cz] 25) = w1 at *
  rw [hsz] at hbox
  refine wpIn_rangeFunc_ownG rfl (by omega) (gf := 46) (lb := #[.pointer (some ⟨(w.heap.size + 1), 0, none⟩)]) rfl trivial (enters_of Tryd.func46 (by kernel_rfl) rfl)
    (back_stops _ (by decide) (fun k => k < w.heap.size ∨ k = (w.heap.size + 1)) w1 z (w.heap.size + 1) cz az (by omega) hzb (by omega) (.inr rfl) hbox (hz1.toS (fun b hb => .inl hb))) kept_t (kept_b (by omega)) (Below.refl _ _) (fun _ => rfl)
    (fun pre W => Boxed W w.heap.size 22 (.int .u32 (le (bytesOf pre).reverse)) ∧ Below w.heap.size w W)
    (fun _ _ _ => False)
    (OwnFrom.and (Own.from (boxed_own _ _ _) _) (ownFrom_below (Nat.le_refl _) (by omega)))
    (fun _ _ _ _ _ hs _ _ => hs)
    ⟨kC, hbw⟩
    ?a1 ?assign ?body ?done ?stop
  case assign =>
    intro l x W K hK
    gi_wp2
    exact hK
  case body =>
    rintro l pre x W ⟨hC, hB⟩ hcnt
    obtain ⟨⟨x1, x2⟩, hx1, hx2, hx3⟩ := x
    simp only at hx1 hx2 hx3
    have hcC := hC.cell
    have hfC := hC.frozen
    have hN0 := le_bound (bytesOf_bound pre)
    have hlen : (bytesOf pre).reverse.length ≤ 3 := by rw [List.length_reverse, bytesOf_length]; omega
    have hN1 : le (bytesOf pre).reverse < 16777216 := by
      have h2 : (256 : Int) ^ (bytesOf pre).reverse.length ≤ 16777216 := by
        generalize (bytesOf pre).reverse.length = q at hlen
        match q, hlen with
        | 0, _ => decide
        | 1, _ => decide
        | 2, _ => decide
        | 3, _ => decide
      omega
    have hnext : Hid (le (bytesOf (pre ++ [(⟨(x1, x2), hx1, hx2, hx3⟩ : PB)])).reverse = bits .or .u32 (IntKind.u32.wrap (le (bytesOf pre).reverse * 256)) x2) := by
      show _ = _
      rw [or_shift _ _ hN0.1 hN1 hx2 hx3, bytesOf_append, show bytesOf [(⟨(x1, x2), hx1, hx2, hx3⟩ : PB)] = [x2] from rfl, le_snoc_rev]
    have hfin := Lib.hid (show KeepsFrom w1.heap.size W (W.setCell ⟨w.heap.size, 0, none⟩ (.int .u32 (bits .or .u32 (IntKind.u32.wrap (le (bytesOf pre).reverse * 256)) x2))) ∧ KeepS (fun k => k < w.heap.size ∨ k = (w.heap.size + 1)) W (W.setCell ⟨w.heap.size, 0, none⟩ (.int .u32 (bits .or .u32 (IntKind.u32.wrap (le (bytesOf pre).reverse * 256)) x2))) ∧ Boxed (W.setCell ⟨w.heap.size, 0, none⟩ (.int .u32 (bits .or .u32 (IntKind.u32.wrap (le (bytesOf pre).reverse * 256)) x2))) w.heap.size 22 (.int .u32 (bits .or .u32 (IntKind.u32.wrap (le (bytesOf pre).reverse * 256)) x2)) ∧ Below w.heap.size w (W.setCell ⟨w.heap.size, 0, none⟩ (.int .u32 (bits .or .u32 (IntKind.u32.wrap (le (bytesOf pre).reverse * 256)) x2))) from
      ⟨(KeepsOthers.setCell _ _ _).from _, kept_set (KeepS.refl _ _) (by omega) _ _, hC.set _, hB.setCell (p := ⟨w.heap.size, 0, none⟩) (Nat.le_refl _) _⟩)
    clear hC hB kC hbw hzm hzW hz1 hN0 hN1 hlen hcnt
    generalize le (bytesOf pre).reverse = N at *
    gi_wp2
    exact ⟨hfin.out.1, hfin.out.2.1, by rw [hnext.out]; exact hfin.out.2.2.1, hfin.out.2.2.2⟩
  case done =>
    rintro D ys W hD hY ⟨hC, hB⟩ hK
    rw [hY, List.reverse_reverse] at hC
    have hcC := hC.cell
    have hBK := hB.trans (belowK_b (w := w) (Nat.le_refl _) W D _ (.deferred none) (by omega) hK rfl rfl)
    clear hY hC kC
    gi_wp2
    refine ⟨by simp, .inl ⟨_, _, rfl, run_takeDeferred hK, ?_⟩⟩
    exact ⟨_, results_tmp3 rfl _ _ _, rfl, hBK⟩
  case stop =>
    rintro D c pre W _ _ h _
    exact h.elim

theorem wordc_any (a : Option Addr) (n cap c : Nat) (l : List Int) (m : Nat) (w : World) (hn : l.length = n) (hnc : n ≤ cap) (hm : m ≤ 4) (hz : ∀ x ∈ l, 0 ≤ x ∧ x ≤ 255) (h1 : Nums .u8 w w.heap.size a l) (hcl : c < w.heap.size) (hc : w.cell? ⟨c, 0, none⟩ = some (.int .i64 m)) :
    Calls Tryd.prog 37 #[.slice a n cap, .pointer (some ⟨c, 0, none⟩)] w fun r w' => ClosI .u32 (wordR l m) r ∧ Below w.heap.size w w' := by
  by_cases hmore : n < m
  · have HR : wordR l m = (0, 0, 4) := by unfold wordR; rw [if_pos (by omega)]
    refine (wordc_go a n cap c [] m 4 none 0 0 w hcl hc (fun w => part_more a n cap m w (by omega)) rfl (by decide) (by simp) Nums.nil).mono ?_
    rintro r w' ⟨rfl, hb⟩
    exact ⟨ClosI.bad (by rw [HR]; decide) (by rw [HR]; rfl), hb⟩
  · have HR : wordR l m = (le (l.take m), m, 0) := by unfold wordR; rw [if_neg (by omega)]
    refine (wordc_go a n cap c (l.take m) m 0 a m m w hcl hc (fun w => by have h := part_ok a n cap m w (by omega) (by omega) hnc; rwa [Int.toNat_natCast] at h) (by rw [List.length_take]; omega) hm (fun x hx => hz x (List.mem_of_mem_take hx)) (h1.take m)).mono ?_
    rintro r w' ⟨rfl, hb⟩
    exact ⟨by rw [HR]; exact ClosI.ok rfl rfl rfl, hb⟩
end Go.Proofs.YtmmffifndheafaaDoor

namespace Go.Proofs.YtmmffifndheafaaDoor
open Go.RowKit
set_option maxRecDepth 100000

/-- place and error behind a read -/
def placeOf (p e : Nat) (size : Nat) : Nat := if e = 0 then p + size else p
def errOf (e err : Nat) : Nat := if e = 0 then err else e
def ansI (e : Nat) (x : Int) : Int := if e = 0 then x else 0
def ansB (e : Nat) (L : List Int) : List Int := if e = 0 then L else []
/-- what a read that answers a number leaves -/
def ReadI (k : IntKind) (lo b : Nat) (zs : List Int) (p e : Nat) (x : Int × Nat × Nat) (w : World) (r : Ending) (w' : World) : Prop :=
  r = .returned (.int k (ansI e x.1)) ∧ LensAt w' lo b zs (placeOf p e x.2.1) (errOf e x.2.2) ∧ Off (fun j => j = b) w w'
/-- what a read that answers bytes leaves -/
def ReadB (lo b : Nat) (zs : List Int) (p e : Nat) (x : List Int × Nat × Nat) (w : World) (r : Ending) (w' : World) : Prop :=
  (∃ A c, r = .returned (.slice A (ansB e x.1).length c) ∧ (ansB e x.1).length ≤ c ∧ NumsIn .u8 w' w.heap.size w'.heap.size A (ansB e x.1)) ∧ LensAt w' lo b zs (placeOf p e x.2.1) (errOf e x.2.2) ∧ Off (fun j => j = b) w w'

section
variable {k : IntKind} {lo b : Nat} {zs : List Int} {p e : Nat} {x : Int × Nat × Nat} {y : List Int × Nat × Nat} {w w0 w' : World} {r : Ending}
theorem ReadI.later (h : ReadI k lo b zs p e x w r w') (hb : Below w0.heap.size w0 w) : ReadI k lo b zs p e x w0 r w' :=
  ⟨h.1, h.2.1, (Off.of_below hb).trans h.2.2 fun _ _ h => h⟩
theorem ReadB.later (h : ReadB lo b zs p e y w r w') (hb : Below w0.heap.size w0 w) : ReadB lo b zs p e y w0 r w' := by
  obtain ⟨⟨A, c, h1, h2, h3⟩, h4, h5⟩ := h
  exact ⟨⟨A, c, h1, h2, h3.lower hb.size⟩, h4, (Off.of_below hb).trans h5 fun _ _ h => h⟩
theorem ReadI.err (h : LensAt w lo b zs p e) (he : e ≠ 0) : ReadI k lo b zs p e x w (.returned (.int k 0)) w :=
  ⟨by simp [ansI, he], by simpa [placeOf, errOf, he] using h, Off.refl _ _⟩
theorem ReadB.err (h : LensAt w lo b zs p e) (he : e ≠ 0) : ReadB lo b zs p e y w (.returned (.slice none 0 0)) w :=
  ⟨⟨none, 0, by simp [ansB, he], by simp [ansB, he], fun hn => absurd (by simp [ansB, he]) hn⟩, by simpa [placeOf, errOf, he] using h, Off.refl _ _⟩
theorem ReadI.ok {w1 : World} (h : LensAt w lo b zs p 0) (h0 : x.2.2 = 0) (hs : p + x.2.1 ≤ zs.length) (hb : Below w.heap.size w w1) : ReadI k lo b zs p 0 x w (.returned (.int k x.1)) (w1.setCell ⟨b, 1, none⟩ (.int .i64 (p + x.2.1))) := by
  refine ⟨by simp [ansI], ?_, (Off.of_below (S := fun j => j = b) hb).setCell (p := ⟨b, 1, none⟩) rfl _⟩
  have := (h.below hb).move hs
  rw [Int.natCast_add] at this
  simpa [placeOf, errOf, h0] using this
theorem ReadI.bad {w1 : World} (h : LensAt w lo b zs p 0) (h0 : x.1 = 0) (h1 : x.2.1 = 0) (hb : Below w.heap.size w w1) : ReadI k lo b zs p 0 x w (.returned (.int k 0)) (w1.setCell ⟨b, 2, none⟩ (.int .i64 x.2.2)) := by
  refine ⟨by simp [ansI, h0], ?_, (Off.of_below (S := fun j => j = b) hb).setCell (p := ⟨b, 2, none⟩) rfl _⟩
  have := (h.below hb).fail x.2.2
  simpa [placeOf, errOf, h1] using this
theorem NumsIn.set {w1 : World} {A : Option Addr} {L : List Int} {s : Nat} (h : NumsIn .u8 w1 s w1.heap.size A L) (hb : b < s) (o : Nat) (v : Value) : NumsIn .u8 (w1.setCell ⟨b, o, none⟩ v) s (w1.setCell ⟨b, o, none⟩ v).heap.size A L := by
  have h2 := h.keeps (B := w1.setCell ⟨b, o, none⟩ v) ⟨by simp [World.setCell], fun k h4 h5 => Below.heap_setCell _ _ _ _ (by simp; omega)⟩
  exact h2.mono (by simp [World.setCell])
theorem ReadB.ok {w1 : World} {v : Value} (h : LensAt w lo b zs p 0) (h0 : y.2.2 = 0) (hs : p + y.2.1 ≤ zs.length) (hm : MadeK 5 .u8 w w1 y.1 v) : ReadB lo b zs p 0 y w (.returned v) (w1.setCell ⟨b, 1, none⟩ (.int .i64 (p + y.2.1))) := by
  refine ⟨?_, ?_, (Off.of_below (S := fun j => j = b) hm.2).setCell (p := ⟨b, 1, none⟩) rfl _⟩
  · obtain ⟨A, c, rfl, hc, _⟩ := hm.slice
    exact ⟨A, c, by simp [ansB], by simpa [ansB] using hc, by simpa [ansB] using hm.numsIn.set h.lt 1 _⟩
  · have := (h.below hm.2).move hs
    rw [Int.natCast_add] at this
    simpa [placeOf, errOf, h0] using this
theorem ReadB.bad {w1 : World} (h : LensAt w lo b zs p 0) (h0 : y.1 = []) (h1 : y.2.1 = 0) (hb : Below w.heap.size w w1) : ReadB lo b zs p 0 y w (.returned (.slice none 0 0)) (w1.setCell ⟨b, 2, none⟩ (.int .i64 y.2.2)) := by
  refine ⟨⟨none, 0, by simp [ansB, h0], by simp [ansB, h0], fun hn => absurd (by simp [ansB, h0]) hn⟩, ?_, (Off.of_below (S := fun j => j = b) hb).setCell (p := ⟨b, 2, none⟩) rfl _⟩
  have := (h.below hb).fail y.2.2
  simpa [placeOf, errOf, h1] using this
end
theorem numR_err {l : List Int} {m : Int} (h : (numR l m).2.2 ≠ 0) : (numR l m).1 = 0 ∧ (numR l m).2.1 = 0 := by
  revert h; unfold numR; split; (intro _; exact ⟨rfl, rfl⟩); split; (intro _; exact ⟨rfl, rfl⟩); intro h; exact absurd rfl h
theorem sigR_err {l : List Int} {m1 m : Int} (h : (sigR l m1 m).2.2 ≠ 0) : (sigR l m1 m).1 = 0 ∧ (sigR l m1 m).2.1 = 0 := by
  revert h; unfold sigR; split; (intro _; exact ⟨rfl, rfl⟩); split; (intro _; exact ⟨rfl, rfl⟩); intro h; exact absurd rfl h
theorem wordR_err {l : List Int} {m : Nat} (h : (wordR l m).2.2 ≠ 0) : (wordR l m).1 = 0 ∧ (wordR l m).2.1 = 0 := by
  revert h; unfold wordR; split; (intro _; exact ⟨rfl, rfl⟩); intro h; exact absurd rfl h
theorem rawR_err {l : List Int} {m : Int} (h : (rawR l m).2.2 ≠ 0) : (rawR l m).1 = [] ∧ (rawR l m).2.1 = 0 := by
  revert h; unfold rawR; split; (intro _; exact ⟨rfl, rfl⟩); split; (intro _; exact ⟨rfl, rfl⟩); intro h; exact absurd rfl h
theorem fldR_err {l : List Int} {m : Int} (h : (fldR l m).2.2 ≠ 0) : (fldR l m).1 = [] ∧ (fldR l m).2.1 = 0 := by
  revert h; unfold fldR; split; (intro _; exact ⟨rfl, rfl⟩); split; (intro _; exact ⟨rfl, rfl⟩); split; (intro _; exact ⟨rfl, rfl⟩); intro h; exact absurd rfl h
theorem drop_fit {zs : List Int} {p s : Nat} (h : s ≤ (zs.drop p).length) (hp : p ≤ zs.length) : p + s ≤ zs.length := by rw [List.length_drop] at h; omega
theorem drop_bytes {zs : List Int} (hz : ∀ x ∈ zs, 0 ≤ x ∧ x ≤ 255) (p : Nat) : ∀ x ∈ zs.drop p, 0 ≤ x ∧ x ≤ 255 := fun x hx => hz x (List.mem_of_mem_drop hx)

section
variable (lo b : Nat) (zs : List Int) (p e : Nat) (w : World)
theorem rdW_any (c m : Nat) (hm : m ≤ 4) (h : LensAt w lo b zs p e) (hl : zs.length ≤ 1000000000) (hz : ∀ x ∈ zs, 0 ≤ x ∧ x ≤ 255) (hcl : c < w.heap.size) (hc : w.cell? ⟨c, 0, none⟩ = some (.int .i64 m)) :
    Calls Tryd.prog 36 #[.pointer (some ⟨b, 0, none⟩), .func (.func 37) #[] #[.pointer (some ⟨c, 0, none⟩)]] w fun r w' => ReadI .u32 lo b zs p e (wordR (zs.drop p) m) w r w' := by
  by_cases he : e = 0
  · subst he
    have HC : ∀ n A cap, Nums .u8 (w.drewN n) b A (zs.drop p) → zs.length - p ≤ cap → Calls Tryd.prog 37 #[.slice A (zs.length - p) cap, .pointer (some ⟨c, 0, none⟩)] (w.drewN n) fun r w' => ClosI .u32 (wordR (zs.drop p) m) r ∧ Below w.heap.size w w' := fun n A cap hn hcp =>
      (wordc_any A (zs.length - p) cap c (zs.drop p) m (w.drewN n) (by simp) hcp hm (drop_bytes hz p) (hn.mono (Nat.le_of_lt h.lt)) hcl hc).mono fun r w' ⟨h1, h2⟩ => ⟨h1, (below_drewN (Below.refl _ _) n).trans h2⟩
    by_cases h0 : (wordR (zs.drop p) m).2.2 = 0
    · refine (rdW_ok lo b zs p w c h hl (wordR (zs.drop p) m).2.1 (drop_fit (wordR_le m) h.place) (fun v _ => v = .int .u32 (wordR (zs.drop p) m).1) (fun n A cap hn hc2 => (HC n A cap hn hc2).mono ?_)).mono ?_
      · rintro r w' ⟨⟨v, s, rfl, hv⟩, hb⟩
        obtain ⟨rfl, rfl⟩ := hv h0
        exact ⟨_, by rw [h0]; rfl, hb, rfl⟩
      · rintro r w' ⟨v, w1, rfl, rfl, hb, rfl⟩
        exact ReadI.ok h h0 (drop_fit (wordR_le m) h.place) hb
    · refine (rdW_bad lo b zs p w c h hl (wordR (zs.drop p) m).2.2 h0 (fun _ _ => True) (fun n A cap hn hc2 => (HC n A cap hn hc2).mono ?_)).mono ?_
      · rintro r w' ⟨⟨v, s, rfl, _⟩, hb⟩
        exact ⟨_, _, rfl, hb, trivial⟩
      · rintro r w' ⟨rfl, v, w1, _, hb, rfl⟩
        exact ReadI.bad h (wordR_err h0).1 (wordR_err h0).2 hb
  · refine (rdW_err lo b zs p e w _ h he).mono ?_
    rintro r w' ⟨rfl, rfl⟩
    exact ReadI.err h he
end
end Go.Proofs.YtmmffifndheafaaDoor

namespace Go.Proofs.YtmmffifndheafaaDoor
open Go.RowKit
set_option maxRecDepth 100000
theorem ansI_range {e : Nat} {x a b : Int} (h0 : a ≤ x) (h1 : x ≤ b) (ha : a ≤ 0) (hb : 0 ≤ b) : a ≤ ansI e x ∧ ansI e x ≤ b := by
  unfold ansI; split <;> omega
theorem wordR_range {l : List Int} (hz : ∀ x ∈ l, 0 ≤ x ∧ x ≤ 255) {m : Nat} (hm : m ≤ 4) : 0 ≤ (wordR l m).1 ∧ (wordR l m).1 ≤ 4294967295 := by
  unfold wordR; split
  · simp
  · exact le_bound4 (fun x hx => hz x (List.mem_of_mem_take hx)) (n := m) (by rw [List.length_take]; omega) hm
theorem wordR_range2 {l : List Int} (hz : ∀ x ∈ l, 0 ≤ x ∧ x ≤ 255) : 0 ≤ (wordR l 2).1 ∧ (wordR l 2).1 ≤ 65535 := by
  unfold wordR; split
  · simp
  · exact le_bound2 (fun x hx => hz x (List.mem_of_mem_take hx)) (n := 2) (by rw [List.length_take]; omega) (by decide)
theorem wordR_range1 {l : List Int} (hz : ∀ x ∈ l, 0 ≤ x ∧ x ≤ 255) : 0 ≤ (wordR l 1).1 ∧ (wordR l 1).1 ≤ 255 := by
  unfold wordR; split
  · simp
  · exact le_bound1 (fun x hx => hz x (List.mem_of_mem_take hx)) (by rw [List.length_take]; omega)
section
variable (lo b : Nat) (zs : List Int) (p e : Nat) (w : World)
theorem lword_any (m : Nat) (hm : m ≤ 4) (h : LensAt w lo b zs p e) (hl : zs.length ≤ 1000000000) (hz : ∀ x ∈ zs, 0 ≤ x ∧ x ≤ 255) :
    Calls Tryd.prog 30 #[.pointer (some ⟨b, 0, none⟩), .int .i64 m] w fun r w' => ReadI .u32 lo b zs p e (wordR (zs.drop p) m) w r w' := by
  have hb : Below w.heap.size w (w.alloc (.cells #[.int .i64 m] 3)) := (Below.refl _ w).alloc (Nat.le_refl _) _
  have HC := (rdW_any lo b zs p e (w.alloc (.cells #[.int .i64 m] 3)) w.heap.size m hm (h.below hb) hl hz (by simp) (by simp)).mono fun r w' hr => hr.later hb
  clear h hb hz
  go_enter Tryd.func30, Tryd.ntmps30
  go_wp2_with (go_at_call 36; refine HC.mono ?_; rintro r w2 ⟨rfl, hr1, hr2⟩)
  go_ret
  exact ⟨rfl, hr1, hr2⟩
theorem lu8_any (h : LensAt w lo b zs p e) (hl : zs.length ≤ 1000000000) (hz : ∀ x ∈ zs, 0 ≤ x ∧ x ≤ 255) :
    Calls Tryd.prog 23 #[.pointer (some ⟨b, 0, none⟩)] w fun r w' => ReadI .u8 lo b zs p e (wordR (zs.drop p) 1) w r w' := by
  have HC := lword_any lo b zs p e w 1 (by decide) h hl hz
  have hr := wordR_range1 (drop_bytes hz p)
  have hr' := ansI_range (e := e) hr.1 hr.2 (by decide) (by decide)
  obtain ⟨X, hX⟩ : ∃ X, ansI e (wordR (zs.drop p) 1).1 = X := ⟨_, rfl⟩
  unfold ReadI at HC ⊢
  rw [hX] at HC hr' ⊢
  clear h hz hr hX
  go_enter Tryd.func23, Tryd.ntmps23
  go_wp2_with (go_at_call 30; refine HC.mono ?_; rintro r w2 ⟨rfl, hr1, hr2⟩)
  go_ret
  exact ⟨rfl, hr1, hr2⟩
theorem lu32_any (h : LensAt w lo b zs p e) (hl : zs.length ≤ 1000000000) (hz : ∀ x ∈ zs, 0 ≤ x ∧ x ≤ 255) :
    Calls Tryd.prog 24 #[.pointer (some ⟨b, 0, none⟩)] w fun r w' => ReadI .u32 lo b zs p e (wordR (zs.drop p) 4) w r w' := by
  have HC := lword_any lo b zs p e w 4 (by decide) h hl hz
  clear h hz
  go_enter Tryd.func24, Tryd.ntmps24
  go_wp2_with (go_at_call 30; refine HC.mono ?_; rintro r w2 ⟨rfl, hr1, hr2⟩)
  go_ret
  exact ⟨rfl, hr1, hr2⟩
end
theorem lword_nil (w : World) (m : Int) : Calls Tryd.prog 30 #[.pointer none, .int .i64 m] w fun r w' => r = .returned (.int .u32 0) ∧ Below w.heap.size w w' := by
  go_enter Tryd.func30, Tryd.ntmps30
  go_wp2_with (go_at_call 36; refine (rdW_nil _ _).mono ?_; rintro r w2 ⟨rfl, rfl⟩)
  go_ret
  exact ⟨rfl, (Below.refl _ w).alloc (Nat.le_refl _) _⟩
theorem lu8_nil (w : World) : Calls Tryd.prog 23 #[.pointer none] w fun r w' => r = .returned (.int .u8 0) ∧ Below w.heap.size w w' := by
  go_enter Tryd.func23, Tryd.ntmps23
  go_wp2_with (go_at_call 30; refine (lword_nil _ 1).mono ?_; rintro r w2 ⟨rfl, hb⟩)
  go_ret
  exact ⟨rfl, hb⟩
theorem lu32_nil (w : World) : Calls Tryd.prog 24 #[.pointer none] w fun r w' => r = .returned (.int .u32 0) ∧ Below w.heap.size w w' := by
  go_enter Tryd.func24, Tryd.ntmps24
  go_wp2_with (go_at_call 30; refine (lword_nil _ 4).mono ?_; rintro r w2 ⟨rfl, hb⟩)
  go_ret
  exact ⟨rfl, hb⟩
end Go.Proofs.YtmmffifndheafaaDoor

namespace Go.Proofs.YtmmffifndheafaaDoor
open Go.RowKit
set_option maxRecDepth 100000

/-- the head of bytes, and what is wrong -/
def prs : List Int → (Int × Int × Int × Int × Int) × Int
  | [z0, z1, z2, z3, z4, z5, z6, z7] => if chk z0 z1 z6 z7 = 0 then ((z0, z1, le [z2, z3, z4, z5], z6, z7), 0) else ((0, 0, 0, 0, 0), chk z0 z1 z6 z7)
  | zs => ((0, 0, 0, 0, 0), if zs.length < 8 then 13 else 3)
def hdP (x : Int × Int × Int × Int × Int) : Value := hdV x.1 x.2.1 x.2.2.1 x.2.2.2.1 x.2.2.2.2
theorem prs_8 (z0 z1 z2 z3 z4 z5 z6 z7 : Int) : prs [z0, z1, z2, z3, z4, z5, z6, z7] = if chk z0 z1 z6 z7 = 0 then ((z0, z1, le [z2, z3, z4, z5], z6, z7), 0) else ((0, 0, 0, 0, 0), chk z0 z1 z6 z7) := rfl
theorem prs_short {zs : List Int} (h : zs.length < 8) : prs zs = ((0, 0, 0, 0, 0), 13) := by
  unfold prs
  split
  · simp at h
  · rw [if_pos h]
theorem prs_long {zs : List Int} (h : 8 < zs.length) : prs zs = ((0, 0, 0, 0, 0), 3) := by
  unfold prs
  split
  · simp at h
  · rw [if_neg (by omega)]
theorem eight {zs : List Int} (h : zs.length = 8) : ∃ z0 z1 z2 z3 z4 z5 z6 z7, zs = [z0, z1, z2, z3, z4, z5, z6, z7] := by
  match zs, h with
  | [z0, z1, z2, z3, z4, z5, z6, z7], _ => exact ⟨z0, z1, z2, z3, z4, z5, z6, z7, rfl⟩

/-- five cells written one by one -/
theorem set5 {W : World} {R : Nat} {t : TypeId} {x0 x1 x2 x3 x4 : Value} (y0 y1 y2 y3 y4 : Value) (h : W.heap[R]? = some (.cells #[x0, x1, x2, x3, x4] t (0, 0))) :
    (((((W.setCell ⟨R, 0, none⟩ y0).setCell ⟨R, 1, none⟩ y1).setCell ⟨R, 2, none⟩ y2).setCell ⟨R, 3, none⟩ y3).setCell ⟨R, 4, none⟩ y4).heap[R]? = some (.cells #[y0, y1, y2, y3, y4] t (0, 0)) := by
  have := setCell_at (j := 4) (u := y4) (setCell_at (j := 3) (u := y3) (setCell_at (j := 2) (u := y2) (setCell_at (j := 1) (u := y1) (setCell_at (j := 0) (u := y0) h))))
  simpa using this
theorem below5 {w W : World} {R : Nat} (y0 y1 y2 y3 y4 : Value) (hR : w.heap.size ≤ R) (h : Below w.heap.size w W) :
    Below w.heap.size w (((((W.setCell ⟨R, 0, none⟩ y0).setCell ⟨R, 1, none⟩ y1).setCell ⟨R, 2, none⟩ y2).setCell ⟨R, 3, none⟩ y3).setCell ⟨R, 4, none⟩ y4) :=
  ((((h.setCell (p := ⟨R, 0, none⟩) hR y0).setCell (p := ⟨R, 1, none⟩) hR y1).setCell (p := ⟨R, 2, none⟩) hR y2).setCell (p := ⟨R, 3, none⟩) hR y3).setCell (p := ⟨R, 4, none⟩) hR y4

theorem hparse_short (a : Option Addr) (n cap : Nat) (w : World) (hn : n < 8) :
    Calls Tryd.prog 12 #[.slice a n cap] w fun e w' => e = .returned (.tuple #[hdV 0 0 0 0 0, .int .i64 13]) ∧ Below w.heap.size w w' := by
  have h1 : (n : Int) < 8 := by omega
  go_enter Tryd.func12, Tryd.ntmps12
  go_wp2
  refine bodyPost_ret (v := .tuple #[hdV 0 0 0 0 0, .int .i64 13]) (by simp [results, Tryd.results12, go_sem, hdV]) rfl ⟨rfl, (Below.refl _ w).alloc (Nat.le_refl _) _⟩
theorem hparse_long (a : Option Addr) (n cap : Nat) (w : World) (hn : 8 < n) :
    Calls Tryd.prog 12 #[.slice a n cap] w fun e w' => e = .returned (.tuple #[hdV 0 0 0 0 0, .int .i64 3]) ∧ Below w.heap.size w w' := by
  have h1 : ¬ (n : Int) < 8 := by omega
  have h2 : 8 < (n : Int) := by omega
  go_enter Tryd.func12, Tryd.ntmps12
  go_wp2
  refine bodyPost_ret (v := .tuple #[hdV 0 0 0 0 0, .int .i64 3]) (by simp [results, Tryd.results12, go_sem, hdV]) rfl ⟨rfl, (Below.refl _ w).alloc (Nat.le_refl _) _⟩

section
variable {w : World} {lo b p : Nat} {zs : List Int}
theorem u8_at {z : Int} (h : LensAt w lo b zs p 0) (hl : zs.length ≤ 1000000000) (hz : ∀ x ∈ zs, 0 ≤ x ∧ x ≤ 255) (hp : zs[p]? = some z) :
    Calls Tryd.prog 23 #[.pointer (some ⟨b, 0, none⟩)] w fun r w' => r = .returned (.int .u8 z) ∧ LensAt w' lo b zs (p + 1) 0 ∧ Off (fun j => j = b) w w' := by
  refine (lu8_any lo b zs p 0 w h hl hz).mono fun r w' hr => ?_
  have hlt : p < zs.length := (List.getElem?_eq_some_iff.1 hp).1
  have hw : wordR (zs.drop p) 1 = (z, 1, 0) := by
    unfold wordR
    rw [if_neg (by rw [List.length_drop]; omega), List.drop_eq_getElem_cons hlt]
    have := (List.getElem?_eq_some_iff.1 hp).2
    simp [le, this]
  unfold ReadI at hr
  rw [hw] at hr
  exact hr
theorem u32_at (h : LensAt w lo b zs p 0) (hl : zs.length ≤ 1000000000) (hz : ∀ x ∈ zs, 0 ≤ x ∧ x ≤ 255) (hp : p + 4 ≤ zs.length) :
    Calls Tryd.prog 24 #[.pointer (some ⟨b, 0, none⟩)] w fun r w' => r = .returned (.int .u32 (le ((zs.drop p).take 4))) ∧ LensAt w' lo b zs (p + 4) 0 ∧ Off (fun j => j = b) w w' := by
  refine (lu32_any lo b zs p 0 w h hl hz).mono fun r w' hr => ?_
  have hw : wordR (zs.drop p) 4 = (le ((zs.drop p).take 4), 4, 0) := by
    unfold wordR
    rw [if_neg (by rw [List.length_drop]; omega)]
  unfold ReadI at hr
  rw [hw] at hr
  exact hr
end
end Go.Proofs.YtmmffifndheafaaDoor

namespace Go.Proofs.YtmmffifndheafaaDoor
open Go.RowKit
set_option maxRecDepth 100000

/-- between two reads: the lens stands at p, the head so far lies in block B, the result in block R -/
def PSt (w : World) (R lo b B : Nat) (zs : List Int) (p : Nat) (cs : Array Value) (W : World) : Prop :=
  LensAt W lo b zs p 0 ∧ W.heap[B]? = some (.cells cs 24 (0, 0)) ∧ W.heap[R]? = some (.cells #[.int .i64 0, .int .i64 0, .int .u32 0, .int .i64 0, .int .i64 0] 24 (0, 0)) ∧ Below w.heap.size w W
section
variable {w W W' : World} {R lo b B p p' : Nat} {zs : List Int} {cs : Array Value}
theorem PSt.read (h : PSt w R lo b B zs p cs W) (hl : LensAt W' lo b zs p' 0) (ho : Off (fun j => j = b) W W') (hB : B ≠ b) (hR : R ≠ b) (hb : w.heap.size ≤ b) : PSt w R lo b B zs p' cs W' := by
  have l1 : B < W.heap.size := (Array.getElem?_eq_some_iff.1 h.2.1).1
  have l2 : R < W.heap.size := (Array.getElem?_eq_some_iff.1 h.2.2.1).1
  exact ⟨hl, (ho.block B l1 hB).trans h.2.1, (ho.block R l2 hR).trans h.2.2.1, h.2.2.2.trans (ho.below (B := w.heap.size) (fun k hk => by omega) h.2.2.2.size)⟩
theorem PSt.set (h : PSt w R lo b B zs p cs W) (j : Nat) (v : Value) (hbB : b < B) (hR : R ≠ B) (hB : w.heap.size ≤ B) : PSt w R lo b B zs p (cs.setIfInBounds j v) (W.setCell ⟨B, j, none⟩ v) := by
  have ho : Off (fun k => k = B) W (W.setCell ⟨B, j, none⟩ v) := (Off.refl (fun k => k = B) W).setCell (p := ⟨B, j, none⟩) rfl v
  exact ⟨h.1.off ho (fun k _ hk => by omega), setCell_at h.2.1, (Below.heap_setCell _ _ _ _ (by simp only; omega)).trans h.2.2.1, h.2.2.2.setCell (p := ⟨B, j, none⟩) hB v⟩
theorem PSt.cell (h : PSt w R lo b B zs p cs W) {j : Nat} {v : Value} (hv : cs[j]? = some v) : W.cell? ⟨B, j, none⟩ = some v ∧ W.frozen? ⟨B, j, none⟩ = false := by
  have h1 := h.2.1
  constructor
  · simp [World.cell?, h1, hv]
  · simp [World.frozen?, h1]
end

set_option maxHeartbeats 4000000 in
theorem hparse_8 (a : Option Addr) (cap : Nat) (z0 z1 z2 z3 z4 z5 z6 z7 : Int) (w : World) (hz : ∀ x ∈ [z0, z1, z2, z3, z4, z5, z6, z7], 0 ≤ x ∧ x ≤ 255) (h1 : Nums .u8 w w.heap.size a [z0, z1, z2, z3, z4, z5, z6, z7]) :
    Calls Tryd.prog 12 #[.slice a 8 cap] w fun e w' => e = .returned (.tuple #[hdP (prs [z0, z1, z2, z3, z4, z5, z6, z7]).1, .int .i64 (prs [z0, z1, z2, z3, z4, z5, z6, z7]).2]) ∧ Below w.heap.size w w' := by
  obtain ⟨w0, hw0⟩ : ∃ w0, w.alloc (.cells #[.int .i64 0, .int .i64 0, .int .u32 0, .int .i64 0, .int .i64 0] 24) = w0 := ⟨_, rfl⟩
  have hs0 : w0.heap.size = w.heap.size + 1 := by rw [← hw0]; simp
  have hb0 : Below w.heap.size w w0 := by rw [← hw0]; exact (Below.refl _ w).alloc (Nat.le_refl _) _
  have hR0 : w0.heap[w.heap.size]? = some (.cells #[.int .i64 0, .int .i64 0, .int .u32 0, .int .i64 0, .int .i64 0] 24 (0, 0)) := by rw [← hw0]; exact World.alloc_heap_new _ _
  have HN := Lib.hid (lnew_any a 8 cap [z0, z1, z2, z3, z4, z5, z6, z7] w0 rfl (by omega) ((h1.below hb0).mono hb0.size))
  have HW := Lib.hid hw0
  have HZ := Lib.hid hz
  have r0 := hz z0 (by simp); have r1 := hz z1 (by simp); have r6 := hz z6 (by simp); have r7 := hz z7 (by simp)
  clear hw0 hz h1
  go_enter Tryd.func12, Tryd.ntmps12
  go_wp2_with fail
  rw [HW.out]
  refine HN.out.mono ?_
  rintro e w1 ⟨b, rfl, hL, hb1⟩
  have hlo := hL.lo_le
  have hlt := hL.lt
  have hs1 := hb1.size
  have P0 : PSt w w.heap.size w0.heap.size b w1.heap.size [z0, z1, z2, z3, z4, z5, z6, z7] 0 #[.int .i64 0, .int .i64 0, .int .u32 0, .int .i64 0, .int .i64 0] (w1.alloc (.cells #[.int .i64 0, .int .i64 0, .int .u32 0, .int .i64 0, .int .i64 0] 24)) :=
    ⟨hL.below ((Below.refl _ w1).alloc (Nat.le_refl _) _), World.alloc_heap_new _ _, (Below.heap_alloc _ _ _ (by omega)).trans ((hb1.block _ (by omega)).trans hR0), (hb0.trans (hb1.mono (by omega))).alloc (by omega) _⟩
  clear HN HW hL hR0 hb0 hb1
  go_wp2_with fail
  generalize w1.alloc (.cells #[.int .i64 0, .int .i64 0, .int .u32 0, .int .i64 0, .int .i64 0] 24) = V0 at P0 ⊢
  refine (u8_at P0.1 (by simp) HZ.out (z := z0) rfl).mono ?_
  rintro e W0 ⟨rfl, hl, ho⟩
  have R0 := P0.read hl ho (by omega) (by omega) (by omega)
  clear hl ho P0
  obtain ⟨ca0, cb0⟩ := R0.cell (j := 0) (v := .int .i64 0) rfl
  have P1 := R0.set 0 (.int .i64 z0) (by omega) (by omega) (by omega)
  simp only [List.setIfInBounds_toArray, List.set_cons_zero] at P1
  have Q := Lib.hid P1
  clear R0 P1
  go_wp2_with fail
  have P1 := Q.out
  clear Q ca0 cb0
  generalize W0.setCell ⟨w1.heap.size, 0, none⟩ (.int .i64 z0) = V1 at P1 ⊢
  refine (u8_at P1.1 (by simp) HZ.out (z := z1) rfl).mono ?_
  rintro e W1 ⟨rfl, hl, ho⟩
  have R1 := P1.read hl ho (by omega) (by omega) (by omega)
  clear hl ho P1
  obtain ⟨ca1, cb1⟩ := R1.cell (j := 1) (v := .int .i64 0) rfl
  have P2 := R1.set 1 (.int .i64 z1) (by omega) (by omega) (by omega)
  simp only [List.setIfInBounds_toArray, List.set_cons_succ, List.set_cons_zero] at P2
  have Q := Lib.hid P2
  clear R1 P2
  go_wp2_with fail
  have P2 := Q.out
  clear Q ca1 cb1
  generalize W1.setCell ⟨w1.heap.size, 1, none⟩ (.int .i64 z1) = V2 at P2 ⊢
  refine (u32_at P2.1 (by simp) HZ.out (by simp)).mono ?_
  rintro e W2 ⟨rfl, hl, ho⟩
  have R2 := P2.read hl ho (by omega) (by omega) (by omega)
  clear hl ho P2
  obtain ⟨ca2, cb2⟩ := R2.cell (j := 2) (v := .int .u32 0) rfl
  have P3 := R2.set 2 (.int .u32 (le [z2, z3, z4, z5])) (by omega) (by omega) (by omega)
  simp only [List.setIfInBounds_toArray, List.set_cons_succ, List.set_cons_zero] at P3
  have Q := Lib.hid P3
  clear R2 P3
  simp only [List.drop_succ_cons, List.drop_zero, List.take_succ_cons, List.take_zero]
  go_wp2_with fail
  have P3 := Q.out
  clear Q ca2 cb2
  generalize W2.setCell ⟨w1.heap.size, 2, none⟩ (.int .u32 (le [z2, z3, z4, z5])) = V3 at P3 ⊢
  refine (u8_at P3.1 (by simp) HZ.out (z := z6) rfl).mono ?_
  rintro e W3 ⟨rfl, hl, ho⟩
  have R3 := P3.read hl ho (by omega) (by omega) (by omega)
  clear hl ho P3
  obtain ⟨ca3, cb3⟩ := R3.cell (j := 3) (v := .int .i64 0) rfl
  have P4 := R3.set 3 (.int .i64 z6) (by omega) (by omega) (by omega)
  simp only [List.setIfInBounds_toArray, List.set_cons_succ, List.set_cons_zero] at P4
  have Q := Lib.hid P4
  clear R3 P4
  go_wp2_with fail
  have P4 := Q.out
  clear Q ca3 cb3
  generalize W3.setCell ⟨w1.heap.size, 3, none⟩ (.int .i64 z6) = V4 at P4 ⊢
  refine (u8_at P4.1 (by simp) HZ.out (z := z7) rfl).mono ?_
  rintro e W4 ⟨rfl, hl, ho⟩
  have R4 := P4.read hl ho (by omega) (by omega) (by omega)
  clear hl ho P4
  obtain ⟨ca4, cb4⟩ := R4.cell (j := 4) (v := .int .i64 0) rfl
  have e0 := (R4.cell (j := 0) (v := .int .i64 z0) rfl).1
  have e1 := (R4.cell (j := 1) (v := .int .i64 z1) rfl).1
  have e2 := (R4.cell (j := 2) (v := .int .u32 (le [z2, z3, z4, z5])) rfl).1
  have e3 := (R4.cell (j := 3) (v := .int .i64 z6) rfl).1
  have P5 := R4.set 4 (.int .i64 z7) (by omega) (by omega) (by omega)
  simp only [List.setIfInBounds_toArray, List.set_cons_succ, List.set_cons_zero] at P5
  have Q := Lib.hid P5
  clear R4 P5
  go_wp2_with fail
  have P5 := Q.out
  clear Q ca4 cb4 e0 e1 e2 e3
  generalize W4.setCell ⟨w1.heap.size, 4, none⟩ (.int .i64 z7) = V5 at P5 ⊢
  have HC := check_any z0 z1 (le [z2, z3, z4, z5]) z6 z7 V5
  unfold hdV at HC
  refine HC.mono ?_
  rintro e W6 ⟨rfl, hb6⟩
  clear HC
  have l1 : w1.heap.size < V5.heap.size := (Array.getElem?_eq_some_iff.1 P5.2.1).1
  have hB := (hb6.block w1.heap.size (by omega)).trans P5.2.1
  have hR := (hb6.block w.heap.size (by omega)).trans P5.2.2.1
  have HB := Lib.hid (P5.2.2.2.trans (hb6.mono P5.2.2.2.size))
  obtain ⟨d0, d1, d2, d3, d4⟩ : W6.cell? ⟨w1.heap.size, 0, none⟩ = some (.int .i64 z0) ∧ W6.cell? ⟨w1.heap.size, 1, none⟩ = some (.int .i64 z1) ∧ W6.cell? ⟨w1.heap.size, 2, none⟩ = some (.int .u32 (le [z2, z3, z4, z5])) ∧ W6.cell? ⟨w1.heap.size, 3, none⟩ = some (.int .i64 z6) ∧ W6.cell? ⟨w1.heap.size, 4, none⟩ = some (.int .i64 z7) := by
    simp [World.cell?, hB]
  obtain ⟨c0, c1, c2, c3, c4⟩ : W6.cell? ⟨w.heap.size, 0, none⟩ = some (.int .i64 0) ∧ W6.cell? ⟨w.heap.size, 1, none⟩ = some (.int .i64 0) ∧ W6.cell? ⟨w.heap.size, 2, none⟩ = some (.int .u32 0) ∧ W6.cell? ⟨w.heap.size, 3, none⟩ = some (.int .i64 0) ∧ W6.cell? ⟨w.heap.size, 4, none⟩ = some (.int .i64 0) := by
    simp [World.cell?, hR]
  have fz : ∀ j, W6.frozen? ⟨w.heap.size, j, none⟩ = false := fun j => by simp [World.frozen?, hR]
  have f0 := fz 0; have f1 := fz 1; have f2 := fz 2; have f3 := fz 3; have f4 := fz 4
  have hsR : w.heap.size < W6.heap.size := (Array.getElem?_eq_some_iff.1 hR).1
  clear P5 hb6 hB fz
  by_cases h0 : chk z0 z1 z6 z7 = 0
  · have hp : prs [z0, z1, z2, z3, z4, z5, z6, z7] = ((z0, z1, le [z2, z3, z4, z5], z6, z7), 0) := by rw [prs_8, if_pos h0]
    rw [h0]
    clear h0
    go_wp2
    rw [hp]
    have hK := set5 (.int .i64 z0) (.int .i64 z1) (.int .u32 (le [z2, z3, z4, z5])) (.int .i64 z6) (.int .i64 z7) hR
    have hBf := below5 (.int .i64 z0) (.int .i64 z1) (.int .u32 (le [z2, z3, z4, z5])) (.int .i64 z6) (.int .i64 z7) (Nat.le_refl _) HB.out
    generalize ((((W6.setCell ⟨w.heap.size, 0, none⟩ (.int .i64 z0)).setCell ⟨w.heap.size, 1, none⟩ (.int .i64 z1)).setCell ⟨w.heap.size, 2, none⟩ (.int .u32 (le [z2, z3, z4, z5]))).setCell ⟨w.heap.size, 3, none⟩ (.int .i64 z6)).setCell ⟨w.heap.size, 4, none⟩ (.int .i64 z7) = Wf at hK hBf ⊢
    obtain ⟨g0, g1, g2, g3, g4⟩ := hd_block hK
    exact bodyPost_ret (v := .tuple #[hdV z0 z1 (le [z2, z3, z4, z5]) z6 z7, .int .i64 0]) (by simp [results, Tryd.results12, go_sem, hdV, g0, g1, g2, g3, g4]) rfl ⟨rfl, hBf⟩
  · have hp : prs [z0, z1, z2, z3, z4, z5, z6, z7] = ((0, 0, 0, 0, 0), chk z0 z1 z6 z7) := by rw [prs_8, if_neg h0]
    have h1 : (chk z0 z1 z6 z7 != 0) = true := by simpa using h0
    go_wp2
    rw [hp]
    have hK := set5 (.int .i64 0) (.int .i64 0) (.int .u32 0) (.int .i64 0) (.int .i64 0) hR
    have hBf := below5 (.int .i64 0) (.int .i64 0) (.int .u32 0) (.int .i64 0) (.int .i64 0) (Nat.le_refl _) HB.out
    generalize ((((W6.setCell ⟨w.heap.size, 0, none⟩ (.int .i64 0)).setCell ⟨w.heap.size, 1, none⟩ (.int .i64 0)).setCell ⟨w.heap.size, 2, none⟩ (.int .u32 0)).setCell ⟨w.heap.size, 3, none⟩ (.int .i64 0)).setCell ⟨w.heap.size, 4, none⟩ (.int .i64 0) = Wf at hK hBf ⊢
    obtain ⟨g0, g1, g2, g3, g4⟩ := hd_block hK
    exact bodyPost_ret (v := .tuple #[hdV 0 0 0 0 0, .int .i64 (chk z0 z1 z6 z7)]) (by simp [results, Tryd.results12, go_sem, hdV, g0, g1, g2, g3, g4]) rfl ⟨rfl, hBf⟩
end Go.Proofs.YtmmffifndheafaaDoor

namespace Go.Proofs.YtmmffifndheafaaDoor
open Go.RowKit
set_option maxRecDepth 100000

set_option maxHeartbeats 8000000 in
theorem rcheck_any (v k s i c : Int) (w : World) :
    Calls Tryd.prog 7 #[hdV v k s i c] w fun e w' => e = .returned (.int .i64 (chk v k i c)) ∧ Below w.heap.size w w' := by
  unfold hdV
  rcases chk_cases v k i c with ⟨h, h1⟩ | ⟨h, h1, h2, h3⟩ | ⟨h, h1, h2, h3, h4, h5⟩ | ⟨h, h1, h2, h3, h4, h5, h6, h7⟩ | ⟨h, h1, h2, h3, h4, h5, h6, h7, h8⟩
  · rw [h]
    have a1 : (v != 1) = true := by simp; omega
    have a2 : (v != 2) = true := by simp; omega
    clear h h1
    go_enter Tryd.func7, Tryd.ntmps7
    go_wp2
    go_ret
    exact ⟨rfl, (Below.refl _ w).alloc (Nat.le_refl _) _⟩
  · rw [h]
    obtain rfl | rfl : v = 1 ∨ v = 2 := by omega
    all_goals
      rcases h3 with h3 | h3
      all_goals
        go_enter Tryd.func7, Tryd.ntmps7
        go_wp2
        all_goals
          go_ret
          exact ⟨rfl, (Below.refl _ w).alloc (Nat.le_refl _) _⟩
  · rw [h]
    obtain rfl | rfl : v = 1 ∨ v = 2 := by omega
    all_goals
      rcases h5 with h5 | h5
      all_goals
        go_enter Tryd.func7, Tryd.ntmps7
        go_wp2
        all_goals
          go_ret
          exact ⟨rfl, (Below.refl _ w).alloc (Nat.le_refl _) _⟩
  · rw [h]
    obtain rfl | rfl : v = 1 ∨ v = 2 := by omega
    all_goals
      rcases h7 with h7 | h7
      all_goals
        go_enter Tryd.func7, Tryd.ntmps7
        go_wp2
        all_goals
          go_ret
          exact ⟨rfl, (Below.refl _ w).alloc (Nat.le_refl _) _⟩
  · rw [h]
    obtain rfl | rfl : v = 1 ∨ v = 2 := by omega
    all_goals
      go_enter Tryd.func7, Tryd.ntmps7
      go_wp2
      all_goals
        go_ret
        exact ⟨rfl, (Below.refl _ w).alloc (Nat.le_refl _) _⟩
end Go.Proofs.YtmmffifndheafaaDoor

namespace Go.Proofs.YtmmffifndheafaaDoor
open Go.RowKit
set_option maxRecDepth 100000

theorem rparse_short (a : Option Addr) (n cap : Nat) (w : World) (hn : n < 8) :
    Calls Tryd.prog 16 #[.slice a n cap] w fun e w' => e = .returned (.tuple #[hdV 0 0 0 0 0, .int .i64 13]) ∧ Below w.heap.size w w' := by
  have h1 : (n : Int) < 8 := by omega
  go_enter Tryd.func16, Tryd.ntmps16
  go_wp2
  refine bodyPost_ret (v := .tuple #[hdV 0 0 0 0 0, .int .i64 13]) (by simp [results, Tryd.results16, go_sem, hdV]) rfl ⟨rfl, (Below.refl _ w).alloc (Nat.le_refl _) _⟩
theorem rparse_long (a : Option Addr) (n cap : Nat) (w : World) (hn : 8 < n) :
    Calls Tryd.prog 16 #[.slice a n cap] w fun e w' => e = .returned (.tuple #[hdV 0 0 0 0 0, .int .i64 3]) ∧ Below w.heap.size w w' := by
  have h1 : ¬ (n : Int) < 8 := by omega
  have h2 : 8 < (n : Int) := by omega
  go_enter Tryd.func16, Tryd.ntmps16
  go_wp2
  refine bodyPost_ret (v := .tuple #[hdV 0 0 0 0 0, .int .i64 3]) (by simp [results, Tryd.results16, go_sem, hdV]) rfl ⟨rfl, (Below.refl _ w).alloc (Nat.le_refl _) _⟩

set_option maxHeartbeats 4000000 in
theorem rparse_8 (a : Option Addr) (cap : Nat) (z0 z1 z2 z3 z4 z5 z6 z7 : Int) (w : World) (hz : ∀ x ∈ [z0, z1, z2, z3, z4, z5, z6, z7], 0 ≤ x ∧ x ≤ 255) (h1 : Nums .u8 w w.heap.size a [z0, z1, z2, z3, z4, z5, z6, z7]) :
    Calls Tryd.prog 16 #[.slice a 8 cap] w fun e w' => e = .returned (.tuple #[hdP (prs [z0, z1, z2, z3, z4, z5, z6, z7]).1, .int .i64 (prs [z0, z1, z2, z3, z4, z5, z6, z7]).2]) ∧ Below w.heap.size w w' := by
  obtain ⟨w0, hw0⟩ : ∃ w0, w.alloc (.cells #[.int .i64 0, .int .i64 0, .int .u32 0, .int .i64 0, .int .i64 0] 30) = w0 := ⟨_, rfl⟩
  have hs0 : w0.heap.size = w.heap.size + 1 := by rw [← hw0]; simp
  have hb0 : Below w.heap.size w w0 := by rw [← hw0]; exact (Below.refl _ w).alloc (Nat.le_refl _) _
  have hR0 : w0.heap[w.heap.size]? = some (.cells #[.int .i64 0, .int .i64 0, .int .u32 0, .int .i64 0, .int .i64 0] 30 (0, 0)) := by rw [← hw0]; exact World.alloc_heap_new _ _
  obtain ⟨g, o, rfl, hg, hc⟩ := (h1.below hb0) (by simp)
  have k0 := hc 0 z0 rfl; have k1 := hc 1 z1 rfl; have k2 := hc 2 z2 rfl; have k3 := hc 3 z3 rfl
  have k4 := hc 4 z4 rfl; have k5 := hc 5 z5 rfl; have k6 := hc 6 z6 rfl; have k7 := hc 7 z7 rfl
  rw [Nat.add_zero] at k0
  have r0 := hz z0 (by simp); have r1 := hz z1 (by simp); have r2 := hz z2 (by simp); have r3 := hz z3 (by simp)
  have r4 := hz z4 (by simp); have r5 := hz z5 (by simp); have r6 := hz z6 (by simp); have r7 := hz z7 (by simp)
  have HW := Lib.hid hw0
  clear hw0 hz h1 hc
  go_enter Tryd.func16, Tryd.ntmps16
  go_wp2
  rw [HW.out]
  clear HW
  go_loopw [4, 5] (fun v i wr => ∃ (j : Nat) (S : Int), j ≤ 4 ∧ v = .int .u32 S ∧ i = .int .i64 (5 - (j : Int)) ∧ Hid (S = le ([z2, z3, z4, z5].drop (4 - j))) ∧ wr = w0) (fun _ i _ => (intOf i).toNat)
  case atStart => exact ⟨0, 0, by omega, rfl, rfl, rfl, rfl⟩
  case round =>
    obtain ⟨j, S, hj, rfl, rfl, HS, rfl⟩ := hrel
    by_cases h4 : j = 4
    · subst h4
      simp only [Nat.sub_self, List.drop_zero] at HS
      go_wp2
      go_region
      have hbw : Below wr.heap.size wr (wr.alloc (.cells #[.int .i64 z0, .int .i64 z1, .int .u32 S, .int .i64 z6, .int .i64 z7] 30)).drew := ((Below.refl _ wr).alloc (Nat.le_refl _) _).drew
      have hB : (wr.alloc (.cells #[.int .i64 z0, .int .i64 z1, .int .u32 S, .int .i64 z6, .int .i64 z7] 30)).drew.heap[w.heap.size + 1]? = some (.cells #[.int .i64 z0, .int .i64 z1, .int .u32 S, .int .i64 z6, .int .i64 z7] 30 (0, 0)) := by rw [← hs0]; exact World.alloc_heap_new _ _
      generalize (wr.alloc (.cells #[.int .i64 z0, .int .i64 z1, .int .u32 S, .int .i64 z6, .int .i64 z7] 30)).drew = W1 at hbw hB ⊢
      have hs1 := hbw.size
      have hl1 : w.heap.size + 1 < W1.heap.size := (Array.getElem?_eq_some_iff.1 hB).1
      have hR := (hbw.block w.heap.size (by omega)).trans hR0
      have HB := Lib.hid (hb0.trans (hbw.mono (by omega)))
      clear hbw hR0 hb0 k0 k1 k2 k3 k4 k5 k6 k7
      have hs0' := Lib.hid hs0
      clear hs0
      obtain ⟨d0, d1, d2, d3, d4⟩ := hd_block hB
      go_wp2_with fail
      have HC := rcheck_any z0 z1 S z6 z7 W1
      unfold hdV at HC
      refine HC.mono ?_
      rintro e W2 ⟨rfl, hb2⟩
      clear HC d0 d1 d2 d3 d4
      have hB := (hb2.block (w.heap.size + 1) (by omega)).trans hB
      have hR := (hb2.block w.heap.size (by omega)).trans hR
      have HB := Lib.hid (HB.out.trans (hb2.mono HB.out.size))
      have hs2 := hb2.size
      clear hb2
      obtain ⟨d0, d1, d2, d3, d4⟩ := hd_block hB
      by_cases h0 : chk z0 z1 z6 z7 = 0
      · have hp : prs [z0, z1, z2, z3, z4, z5, z6, z7] = ((z0, z1, S, z6, z7), 0) := by rw [prs_8, if_pos h0, HS.out]
        rw [h0]
        clear h0 HS
        obtain ⟨c0, c1, c2, c3, c4⟩ := hd_block hR
        have fz : ∀ j, W2.frozen? ⟨w.heap.size, j, none⟩ = false := fun j => by simp [World.frozen?, hR]
        have f0 := fz 0; have f1 := fz 1; have f2 := fz 2; have f3 := fz 3; have f4 := fz 4
        clear fz
        go_wp2
        rw [hp]
        have hK := set5 (.int .i64 z0) (.int .i64 z1) (.int .u32 S) (.int .i64 z6) (.int .i64 z7) hR
        have hBf := below5 (.int .i64 z0) (.int .i64 z1) (.int .u32 S) (.int .i64 z6) (.int .i64 z7) (Nat.le_refl _) HB.out
        generalize ((((W2.setCell ⟨w.heap.size, 0, none⟩ (.int .i64 z0)).setCell ⟨w.heap.size, 1, none⟩ (.int .i64 z1)).setCell ⟨w.heap.size, 2, none⟩ (.int .u32 S)).setCell ⟨w.heap.size, 3, none⟩ (.int .i64 z6)).setCell ⟨w.heap.size, 4, none⟩ (.int .i64 z7) = Wf at hK hBf ⊢
        obtain ⟨g0, g1, g2, g3, g4⟩ := hd_block hK
        exact bodyPost_ret (v := .tuple #[hdV z0 z1 S z6 z7, .int .i64 0]) (by simp [results, Tryd.results16, go_sem, hdV, g0, g1, g2, g3, g4]) rfl ⟨rfl, hBf⟩
      · have hp : prs [z0, z1, z2, z3, z4, z5, z6, z7] = ((0, 0, 0, 0, 0), chk z0 z1 z6 z7) := by rw [prs_8, if_neg h0]
        have h1 : (chk z0 z1 z6 z7 != 0) = true := by simpa using h0
        clear HS
        go_wp2_with fail
        have HC := rcheck_any z0 z1 S z6 z7 W2
        unfold hdV at HC
        refine HC.mono ?_
        rintro e W3 ⟨rfl, hb3⟩
        clear HC d0 d1 d2 d3 d4
        have hB := (hb3.block (w.heap.size + 1) (by omega)).trans hB
        have hR := (hb3.block w.heap.size (by omega)).trans hR
        have HB := Lib.hid (HB.out.trans (hb3.mono HB.out.size))
        have hs3 := hb3.size
        clear hb3
        obtain ⟨c0, c1, c2, c3, c4⟩ := hd_block hR
        have fz : ∀ j, W3.frozen? ⟨w.heap.size, j, none⟩ = false := fun j => by simp [World.frozen?, hR]
        have f0 := fz 0; have f1 := fz 1; have f2 := fz 2; have f3 := fz 3; have f4 := fz 4
        clear fz
        go_wp2
        rw [hp]
        have hK := set5 (.int .i64 0) (.int .i64 0) (.int .u32 0) (.int .i64 0) (.int .i64 0) hR
        have hBf := below5 (.int .i64 0) (.int .i64 0) (.int .u32 0) (.int .i64 0) (.int .i64 0) (Nat.le_refl _) HB.out
        generalize ((((W3.setCell ⟨w.heap.size, 0, none⟩ (.int .i64 0)).setCell ⟨w.heap.size, 1, none⟩ (.int .i64 0)).setCell ⟨w.heap.size, 2, none⟩ (.int .u32 0)).setCell ⟨w.heap.size, 3, none⟩ (.int .i64 0)).setCell ⟨w.heap.size, 4, none⟩ (.int .i64 0) = Wf at hK hBf ⊢
        obtain ⟨g0, g1, g2, g3, g4⟩ := hd_block hK
        exact bodyPost_ret (v := .tuple #[hdV 0 0 0 0 0, .int .i64 (chk z0 z1 z6 z7)]) (by simp [results, Tryd.results16, go_sem, hdV, g0, g1, g2, g3, g4]) rfl ⟨rfl, hBf⟩
    · have hj3 : j < 4 := by omega
      obtain ⟨S0, hS0, b0⟩ : ∃ S0, S = S0 ∧ 0 ≤ S0 ∧ S0 ≤ 16777215 := by
        refine ⟨S, rfl, ?_⟩
        rw [HS.out]
        obtain rfl | rfl | rfl | rfl : j = 0 ∨ j = 1 ∨ j = 2 ∨ j = 3 := by omega
        all_goals first | (simp [le]; done) | (simp [le]; omega)
      subst hS0
      obtain rfl | rfl | rfl | rfl : j = 0 ∨ j = 1 ∨ j = 2 ∨ j = 3 := by omega
      · go_wp2
        go_roundw
        case rel => exact ⟨1, z5 + 256 * S, by omega, by congr 1; omega, by go_num, by show _ = _; rw [HS.out]; simp [le], trivial⟩
        case measure => simp [intOf]
      · go_wp2
        go_roundw
        case rel => exact ⟨2, z4 + 256 * S, by omega, by congr 1; omega, by go_num, by show _ = _; rw [HS.out]; simp [le], trivial⟩
        case measure => simp [intOf]
      · go_wp2
        go_roundw
        case rel => exact ⟨3, z3 + 256 * S, by omega, by congr 1; omega, by go_num, by show _ = _; rw [HS.out]; simp [le], trivial⟩
        case measure => simp [intOf]
      · go_wp2
        go_roundw
        case rel => exact ⟨4, z2 + 256 * S, by omega, by congr 1; omega, by go_num, by show _ = _; rw [HS.out]; simp [le], trivial⟩
        case measure => simp [intOf]
end Go.Proofs.YtmmffifndheafaaDoor

namespace Go.Proofs.YtmmffifndheafaaDoor
open Go.RowKit Go.Shelf
set_option maxRecDepth 100000
attribute [local go_sem] Oper.semAt_some

/-- a head's bytes -/
def hdB (v k s i c : Int) : List Int := [v, k, s % 256, s / 256 % 256, s / 65536 % 256, s / 16777216, i, c]
/-- what Bytes answers -/
def HdBR (B : Nat) (v k s i c : Int) (w' : World) (e : Ending) : Prop :=
  (chk v k i c ≠ 0 ∧ e = .returned (.tuple #[.slice none 0 0, .int .i64 (chk v k i c)])) ∨
  (chk v k i c = 0 ∧ ∃ g, B ≤ g ∧ e = .returned (.tuple #[.slice (some ⟨g, 0, none⟩) 8 8, .int .i64 0]) ∧ Nums .u8 w' w'.heap.size (some ⟨g, 0, none⟩) (hdB v k s i c))

set_option maxHeartbeats 2000000 in
theorem hbytes_any (v k s i c : Int) (hs : 0 ≤ s ∧ s ≤ 4294967295) (w : World) :
    Calls Tryd.prog 6 #[hdV v k s i c] w fun e w' => HdBR w.heap.size v k s i c w' e ∧ Below w.heap.size w w' := by
  have HC := Lib.hid (check_any v k s i c)
  have hh : hdV v k s i c = .agg #[.int .i64 v, .int .i64 k, .int .u32 s, .int .i64 i, .int .i64 c] := rfl
  rw [hh] at HC ⊢
  clear hh
  by_cases h0 : chk v k i c = 0
  · have hz := chk_zero h0
    rw [h0] at HC
    have H0 := Lib.hid h0
    clear h0
    have b1 : 0 ≤ v ∧ v ≤ 255 ∧ 0 ≤ k ∧ k ≤ 255 ∧ 0 ≤ i ∧ i ≤ 255 ∧ 0 ≤ c ∧ c ≤ 255 := by omega
    clear hz
    go_enter Tryd.func6, Tryd.ntmps6
    go_wp2_with (go_at_call 8; refine (HC.out _).mono ?_; rintro e w1 ⟨rfl, hb1⟩; obtain ⟨d0, d1, d2, d3, d4⟩ := hd_cells hb1)
    go_ret2
    have hn := Nums.new .u8 w1 45 (hdB v k s i c) _ rfl
    rw [← World.size_alloc w1] at hn
    have hb := ((Below.refl _ w).alloc (Nat.le_refl _) (.cells #[.int .i64 v, .int .i64 k, .int .u32 s, .int .i64 i, .int .i64 c] 24)).trans (hb1.mono (by simp))
    exact ⟨.inr ⟨H0.out, _, hb.size, rfl, hn⟩, hb.alloc hb.size _⟩
  · have h1 : (chk v k i c != 0) = true := by simpa using h0
    have H0 := Lib.hid h0
    clear h0
    go_enter Tryd.func6, Tryd.ntmps6
    go_wp2_with (go_at_call 8; refine (HC.out _).mono ?_; rintro e w1 ⟨rfl, hb1⟩)
    go_ret2
    exact ⟨.inl ⟨H0.out, rfl⟩, ((Below.refl _ w).alloc (Nat.le_refl _) _).trans (hb1.mono (by simp))⟩
end Go.Proofs.YtmmffifndheafaaDoor

namespace Go.Proofs.YtmmffifndheafaaDoor
section
variable {P : Program} {ops : Array Oper} {md : Region.Mode}

/-- 0: it looks at no memory and enters no function; 2: a store; 1: all others -/
def pureOp (o : Oper) : Bool :=
  match o.op with
  | .move _ | .assign _ | .binOp _ _ _ _ _ | .unOp _ _ _ | .convert _ _ _ | .slice _ _ _ _ _ | .fieldAddr _ _ _ | .indexAddr _ _ _ | .extract _ _ | .pick _ _ _ => true
  | .call c =>
    match c.callee with
    | .builtin .len | .builtin .cap | .builtin .min | .builtin .max => true
    | _ => false
  | _ => false
def kindOf (o : Oper) : Nat :=
  if pureOp o then 0 else match o.op with
    | .store _ _ _ => 2
    | _ => 1
theorem run_value (s : Sem Value) (w w' : World) (f : FuncId) (args : Array Value) : (do pure (Next.value (← s)) : Sem Next).run P w ≠ .ok (.enter f args) w' := by
  intro h
  rw [Sem.run_bind] at h
  cases hs : s.run P w with
  | ok x w1 => rw [hs] at h; simp [Result.andThen] at h
  | halt x w1 => rw [hs] at h; simp [Result.andThen] at h
theorem andThen_value (r : Result Value) (w' : World) (f : FuncId) (args : Array Value) : (r.andThen fun a w' => Result.ok (Next.value a) w') ≠ .ok (.enter f args) w' := by
  intro h
  cases r <;> simp [Result.andThen] at h
theorem pure_no_enter {o : Oper} (ho : pureOp o = true) (ρ : Operand → Value) (w w' : World) (f : FuncId) (args : Array Value) : (execOp ρ o).run P w ≠ .ok (.enter f args) w' := by
  unfold pureOp at ho
  unfold execOp
  cases hop : o.op <;> simp only [hop] at ho ⊢ <;> try contradiction
  all_goals first
    | exact run_value _ _ _ _ _
    | (intro h; simp at h; done)
    | skip
  case pick c x y =>
    intro h
    rw [Sem.run_bind] at h
    cases hs : (asBool (ρ c)).run P w with
    | ok x w1 => rw [hs] at h; simp [Result.andThen] at h
    | halt x w1 => rw [hs] at h; simp [Result.andThen] at h
  case call c =>
    obtain ⟨callee, cargs, cts⟩ := c
    cases callee with
    | builtin b =>
      cases b <;> simp at ho <;>
      · intro h
        simp [resolve, invoke, builtin] at h
        exact andThen_value _ _ _ _ h
    | _ => simp at ho

def stepUpon (C' : World → Prop) (v : Value) : Result Next → Prop
  | .ok (.value u) w' => u = v ∧ C' w'
  | .ok .skip w' => v = undef ∧ C' w'
  | _ => False
def StepsIn (P : Program) (ops : Array Oper) (C C' : World → Prop) (o : Oper) (v : Value) (a : Act) : Prop :=
  (Region.wanted o (yielded ops a.tmps) = true ∧ ∀ w, C w → stepUpon C' v ((execOp a.eval o).run P w)) ∨ (Region.wanted o (yielded ops a.tmps) = false ∧ v = undef ∧ C' = C)
/-- what an operation does to the class of worlds, and its value -/
def OpR (P : Program) (ops : Array Oper) (C C' : World → Prop) (o : Oper) (v : Value) (a : Act) : Prop :=
  (kindOf o = 0 ∧ C' = C ∧ YieldsIn P ops (fun _ => True) o v a) ∨ (kindOf o = 1 ∧ C' = C ∧ YieldsIn P ops C o v a) ∨ (kindOf o = 2 ∧ StepsIn P ops C C' o v a)
theorem kind_pure {o : Oper} (h : kindOf o = 0) : pureOp o = true := by
  unfold kindOf at h
  split at h
  · assumption
  · split at h <;> simp at h
theorem yields_pure {o : Oper} {v : Value} {a : Act} (hk : kindOf o = 0) (h : YieldsIn P ops (fun _ => True) o v a) (C : World → Prop) : YieldsIn P ops C o v a := by
  rcases h with ⟨hw, h⟩ | h
  · refine .inl ⟨hw, fun w _ => ?_⟩
    have h1 := h w trivial
    have h2 := pure_no_enter (P := P) (kind_pure hk) a.eval w
    unfold Oper.quietAt at h1 ⊢
    generalize (execOp a.eval o).run P w = r at h1 h2
    cases r with
    | ok n w' =>
      cases n with
      | enter f args => exact absurd rfl (h2 w' f args)
      | _ => exact h1
    | halt x w' => exact h1
  · exact .inr h
theorem OpR.of_same {C C' : World → Prop} {o : Oper} {v : Value} {a a' : Act} (h : OpR P ops C C' o v a) (he : execOp a'.eval o = execOp a.eval o) (hw : Region.wanted o (yielded ops a'.tmps) = Region.wanted o (yielded ops a.tmps)) : OpR P ops C C' o v a' := by
  rcases h with ⟨hk, hc, h⟩ | ⟨hk, hc, h⟩ | ⟨hk, h⟩
  · exact .inl ⟨hk, hc, h.of_same he hw⟩
  · exact .inr (.inl ⟨hk, hc, h.of_same he hw⟩)
  · refine .inr (.inr ⟨hk, ?_⟩)
    unfold StepsIn at *
    rw [he, hw]
    exact h
theorem OpR.wpOp {C C' : World → Prop} {i : Nat} {o : Oper} {v : Value} {a : Act} {K : Act → World → Prop} {Q' : Exit → Act → World → Prop} {w : World} (hi : ops[i]? = some o) (h : OpR P ops C C' o v a) (hC : C w) (hK : ∀ w', C' w' → K (a.put o.dst v) w') : wpOp P ops Q' i K a w := by
  have quiet : ∀ {D : World → Prop}, D w → (∀ w', D w' → K (a.put o.dst v) w') → YieldsIn P ops D o v a → Go.wpOp P ops Q' i K a w := fun {D} hD hK hy => by
    unfold Go.wpOp
    simp only [hi]
    rcases hy with ⟨hw, hv⟩ | ⟨hw, rfl⟩
    · simp only [hw, if_true]
      exact .inl (Oper.wp_of_quiet (C := D) (K := fun a' => a' = a.put o.dst v) hD (fun a' w' hw' e => by subst e; exact hK w' hw') ⟨v, hv, rfl⟩)
    · simp only [hw, Bool.false_eq_true, if_false]
      exact hK w hD
  rcases h with ⟨hk, rfl, h⟩ | ⟨hk, rfl, h⟩ | ⟨hk, h⟩
  · exact quiet hC hK (yields_pure hk h _)
  · exact quiet hC hK h
  · unfold Go.wpOp
    simp only [hi]
    rcases h with ⟨hw, hv⟩ | ⟨hw, rfl, rfl⟩
    · simp only [hw, if_true]
      left
      have h1 := hv w hC
      unfold Oper.wp
      generalize (execOp a.eval o).run P w = r at h1
      cases r with
      | ok n w' =>
        cases n <;> simp only [stepUpon] at h1 <;> simp only [Oper.upon]
        case value u => rw [h1.1]; exact hK w' h1.2
        case skip => rw [← h1.1]; exact hK w' h1.2
      | halt x w' => simp only [stepUpon] at h1
    · simp only [hw, Bool.false_eq_true, if_false]
      exact hK w hC

/-- whatever order is picked from here on -/
def wpAny2 (P : Program) (md : Region.Mode) (ops : Array Oper) (Q : (World → Prop) → Act → Prop) : Nat → Array Bool → (World → Prop) → Act → Prop
  | 0, listed, C, a => Region.ready md ops listed = [] ∧ Q C a
  | fuel + 1, listed, C, a =>
    (Region.ready md ops listed = [] → Q C a) ∧
    ∀ i ∈ Region.ready md ops listed, ∀ o, ops[i]? = some o → ∃ v C', OpR P ops C C' o v a ∧ wpAny2 P md ops Q fuel (listed.setIfInBounds i true) C' (a.put o.dst v)
theorem wpAny_of_2 {Q : (World → Prop) → Act → Prop} {Q' : Exit → Act → World → Prop} (hQ : ∀ (C : World → Prop) a w, C w → Q C a → Q' .normal a w) : ∀ (fuel : Nat) (listed : Array Bool) (C : World → Prop) (a : Act) (w : World), C w →
    wpAny2 P md ops Q fuel listed C a → wpAny P md ops Q' fuel listed a w
  | 0, _, _, _, _, hw, h => ⟨h.1, hQ _ _ _ hw h.2⟩
  | fuel + 1, _, _, _, _, hw, h => ⟨fun h0 => hQ _ _ _ hw (h.1 h0), fun i hi => by
      obtain ⟨_, o, ho, _⟩ := mem_ready.1 hi
      obtain ⟨v, C', hr, hn⟩ := h.2 i hi o ho
      exact hr.wpOp ho hw fun w' hw' => wpAny_of_2 hQ fuel _ C' _ w' hw' hn⟩

/-- nothing that may come up beside it stands in its way -/
def free2 (md : Region.Mode) (ops : Array Oper) (listed : Array Bool) (k : Nat) : Bool :=
  match ops[k]? with
  | none => false
  | some ok => (List.range ops.size).all fun j => j == k || listed.getD j true ||
    (match ops[j]? with
     | some oj => oj.after.any (fun e => Region.binds md e && e.on == k) || (ok.apart ops oj && (kindOf ok == 0 || (kindOf ok == 1 && kindOf oj != 2)))
     | none => true)
def Free (md : Region.Mode) (ops : Array Oper) (listed : Array Bool) (i : Nat) (oi : Oper) : Prop :=
  ∀ j oj, ops[j]? = some oj → j ≠ i → listed.getD j true = false → (∀ e ∈ oj.after, Region.binds md e = true → e.on ≠ i) → oi.apart ops oj = true ∧ (kindOf oi = 0 ∨ (kindOf oi = 1 ∧ kindOf oj ≠ 2))
theorem free2_spec {i : Nat} {oi : Oper} {listed : Array Bool} (hi : ops[i]? = some oi) (h : free2 md ops listed i = true) : Free md ops listed i oi := by
  intro j oj hj hne hun hno
  simp only [free2, hi, List.all_eq_true, List.mem_range] at h
  have h1 := h j (Array.getElem?_eq_some_iff.1 hj).1
  simp only [hj, Bool.or_eq_true, beq_iff_eq, hne, false_or, hun, Bool.false_eq_true, Bool.and_eq_true, bne_iff_ne, ne_eq] at h1
  rcases h1 with h1 | h1
  · obtain ⟨e, he, hb⟩ := Array.any_eq_true'.1 h1
    simp only [Bool.and_eq_true, beq_iff_eq] at hb
    exact absurd hb.2 (hno e he hb.1)
  · exact h1
/-- an operation that may come up now may be taken first -/
theorem wpAny2_first {Q : (World → Prop) → Act → Prop} {i : Nat} {oi : Oper} {v : Value} (hi : ops[i]? = some oi) (hsel : ∀ (j : Nat) (o : Oper) cs b, ops[j]? = some o → o.op ≠ .select cs b) :
    ∀ (fuel : Nat) (listed : Array Bool) (C C1 : World → Prop) (a : Act), Free md ops listed i oi → i ∈ Region.ready md ops listed → OpR P ops C C1 oi v a →
      wpAny2 P md ops Q fuel (listed.setIfInBounds i true) C1 (a.put oi.dst v) → wpAny2 P md ops Q (fuel + 1) listed C a := by
  intro fuel
  induction fuel with
  | zero =>
    intro listed C C1 a _ hr hy H
    refine ⟨fun h => (by rw [h] at hr; cases hr), fun j hj o ho => ?_⟩
    by_cases hji : j = i
    · subst hji
      have : o = oi := Option.some.inj (ho.symm.trans hi)
      subst this
      exact ⟨v, C1, hy, H⟩
    · have := ready_mono hj hji
      rw [H.1] at this
      cases this
  | succ fuel ih =>
    intro listed C C1 a hfree hr hy H
    refine ⟨fun h => (by rw [h] at hr; cases hr), fun j hj oj hoj => ?_⟩
    by_cases hji : j = i
    · subst hji
      have : oj = oi := Option.some.inj (hoj.symm.trans hi)
      subst this
      exact ⟨v, C1, hy, H⟩
    · obtain ⟨hjun, oj', hoj', hall⟩ := mem_ready.1 hj
      have : oj' = oj := Option.some.inj (hoj'.symm.trans hoj)
      subst this
      have hnot : ∀ e ∈ oj'.after, Region.binds md e = true → e.on ≠ i := fun e he hb heq => by
        have h1 := hall e he hb
        have h0 := (mem_ready.1 hr).1
        rw [heq] at h1
        rcases Nat.lt_or_ge i listed.size with h' | h'
        · simp [h'] at h0 h1; rw [h0] at h1; cases h1
        · simp [Array.getElem?_eq_none h'] at h1
      obtain ⟨hap, hkind⟩ := hfree j oj' hoj hji hjun hnot
      obtain ⟨p1, p2, p3⟩ := Oper.apart_spec hap
      have hC1 : C1 = C := by
        rcases hy with ⟨_, h, _⟩ | ⟨_, h, _⟩ | ⟨hk2, _⟩
        · exact h
        · exact h
        · rcases hkind with h | ⟨h, _⟩ <;> rw [h] at hk2 <;> simp at hk2
      subst hC1
      obtain ⟨u, C2, hR, hn⟩ := H.2 j (ready_mono hj hji) oj' hoj
      have hsi : ∀ cs b, oi.op ≠ .select cs b := fun cs b => hsel i oi cs b hi
      have hsj : ∀ cs b, oj'.op ≠ .select cs b := fun cs b => hsel j oj' cs b hoj
      have hRa : OpR P ops C1 C2 oj' u a := hR.of_same (execOp_put oj' hsj a oi.dst v p1).symm (wanted_put oj' a oi.dst v p1).symm
      have hyu : OpR P ops C2 C2 oi v (a.put oj'.dst u) := by
        have h0 := hy.of_same (a' := a.put oj'.dst u) (execOp_put oi hsi a oj'.dst u p3) (wanted_put oi a oj'.dst u p3)
        rcases h0 with ⟨hk, _, h⟩ | ⟨hk, _, h⟩ | ⟨hk, _⟩
        · exact .inl ⟨hk, rfl, h⟩
        · have hC2 : C2 = C1 := by
            rcases hkind with h' | ⟨_, h'⟩
            · rw [hk] at h'; simp at h'
            · rcases hR with ⟨_, h2, _⟩ | ⟨_, h2, _⟩ | ⟨h2, _⟩
              · exact h2
              · exact h2
              · exact absurd h2 h'
          subst hC2
          exact .inr (.inl ⟨hk, rfl, h⟩)
        · rcases hkind with h' | ⟨h', _⟩ <;> rw [hk] at h' <;> simp at h'
      refine ⟨u, C2, hRa, ih (listed.setIfInBounds j true) C2 C2 _ ?_ (ready_mono hr (Ne.symm hji)) hyu ?_⟩
      · intro k ok hk hki hun hno
        refine hfree k ok hk hki ?_ hno
        by_cases hjk : j = k
        · subst hjk; exact hjun
        · rw [getD_set_ne true hjk] at hun; exact hun
      · rw [Array.setIfInBounds_comm _ _ hji]
        rw [Act.put_comm a v u p2] at hn
        exact hn

def lexFrom2 (md : Region.Mode) (ops : Array Oper) : Nat → Nat → Array Bool → Bool
  | 0, _, listed => (Region.ready md ops listed).isEmpty
  | fuel + 1, k, listed => (Region.ready md ops listed).contains k && free2 md ops listed k && lexFrom2 md ops fuel (k + 1) (listed.setIfInBounds k true)
def lexB2 (md : Region.Mode) (ops : Array Oper) : Bool := Region.noSelect ops && lexFrom2 md ops ops.size 0 (Array.replicate ops.size false)
/-- the walk in the text's order -/
def wpQ2 (P : Program) (ops : Array Oper) (Q : (World → Prop) → Act → Prop) : List Oper → (World → Prop) → Act → Prop
  | [], C, a => Q C a
  | o :: rest, C, a => ∃ v C', OpR P ops C C' o v a ∧ wpQ2 P ops Q rest C' (a.put o.dst v)
theorem wpAny2_lex {Q : (World → Prop) → Act → Prop} (hs : Region.noSelect ops = true) : ∀ (l : List Oper) (k : Nat) (listed : Array Bool) (C : World → Prop) (a : Act), (∀ j, l[j]? = ops[k + j]?) →
    lexFrom2 md ops l.length k listed = true → wpQ2 P ops Q l C a → wpAny2 P md ops Q l.length listed C a
  | [], _, _, _, _, _, hB, h => ⟨by simpa [lexFrom2] using hB, h⟩
  | o :: l, k, listed, C, a, hl, hB, h => by
    have h0 : ops[k]? = some o := by simpa using (hl 0).symm
    simp only [List.length_cons, lexFrom2, Bool.and_eq_true] at hB
    obtain ⟨⟨hr, hf⟩, hB'⟩ := hB
    obtain ⟨v, C', hR, hn⟩ := h
    exact wpAny2_first h0 (Region.noSelect_spec hs) l.length listed C C' a (free2_spec h0 hf) (by simpa using hr) hR
      (wpAny2_lex hs l (k + 1) _ C' _ (fun j => by have := hl (j + 1); simpa [Nat.add_assoc, Nat.add_comm 1 j] using this) hB' hn)
/-- ONE WALK IN THE TEXT's ORDER SERVES EVERY ORDER -/
theorem wp_region_lex2 {id : Nat} {Q : Exit → Act → World → Prop} {a : Act} {w : World} {l : List Oper} {C : World → Prop} (hm : P.follows .mixedOrders = true) (hB : lexB2 .any l.toArray = true) (hC : C w.drew)
    (h : wpQ2 P l.toArray (fun C a' => ∀ w', C w' → Q .normal a' w') l C a) : (Code.region id l.toArray true).wp P Q a w := by
  simp only [lexB2, Bool.and_eq_true] at hB
  refine wp_region_any hm (wpAny_of_2 (Q := fun C a' => ∀ w', C w' → Q .normal a' w') (fun C a w' hw' h => h w' hw') _ _ C _ _ hC ?_)
  have := wpAny2_lex (md := .any) hB.1 l 0 (Array.replicate l.toArray.size false) C a (by simp) (by simpa using hB.2) h
  simpa using this
/-! one operation of the walk -/
theorem wpQ2_quiet {Q : (World → Prop) → Act → Prop} {o : Oper} {rest : List Oper} {C D : World → Prop} {a : Act} (hk : (kindOf o = 0 ∧ D = fun _ => True) ∨ (kindOf o = 1 ∧ D = C)) (h : wpQuiet P ops D (fun a' => wpQ2 P ops Q rest C a') [o] a) : wpQ2 P ops Q (o :: rest) C a := by
  have key : ∃ v, YieldsIn P ops D o v a ∧ wpQ2 P ops Q rest C (a.put o.dst v) := by
    unfold wpQuiet at h
    by_cases hw : Region.wanted o (yielded ops a.tmps) = true
    · simp only [hw, if_true] at h
      obtain ⟨v, h1, h2⟩ := h
      exact ⟨v, .inl ⟨hw, h1⟩, h2⟩
    · simp only [hw] at h
      exact ⟨undef, .inr ⟨by simpa using hw, rfl⟩, h⟩
  obtain ⟨v, hy, hn⟩ := key
  rcases hk with ⟨hk, rfl⟩ | ⟨hk, rfl⟩
  · exact ⟨v, C, .inl ⟨hk, rfl, hy⟩, hn⟩
  · exact ⟨v, D, .inr (.inl ⟨hk, rfl, hy⟩), hn⟩
theorem wpQ2_pure {Q : (World → Prop) → Act → Prop} {o : Oper} {rest : List Oper} {C : World → Prop} {a : Act} (hk : kindOf o = 0) (h : wpQuiet P ops (fun _ => True) (fun a' => wpQ2 P ops Q rest C a') [o] a) : wpQ2 P ops Q (o :: rest) C a := wpQ2_quiet (.inl ⟨hk, rfl⟩) h
theorem wpQ2_look {Q : (World → Prop) → Act → Prop} {o : Oper} {rest : List Oper} {C : World → Prop} {a : Act} (hk : kindOf o = 1) (h : wpQuiet P ops C (fun a' => wpQ2 P ops Q rest C a') [o] a) : wpQ2 P ops Q (o :: rest) C a := wpQ2_quiet (.inr ⟨hk, rfl⟩) h
/-- a store of one cell -/
theorem wpQ2_store {Q : (World → Prop) → Act → Prop} {o : Oper} {rest : List Oper} {C : World → Prop} {a : Act} (C' : World → Prop) {t : TypeId} {x y : Operand} (ho : o.op = .store t x y) (hd : o.dst = none) (hg : o.guard = none) (ad : Addr) (v : Value) (hx : a.eval x = .pointer (some ad)) (hy : a.eval y = v)
    (hrun : ∀ w, C w → ∃ w', (Instr.storeAt t (.pointer (some ad)) v).run P w = .ok () w' ∧ C' w') (h : wpQ2 P ops Q rest C' a) : wpQ2 P ops Q (o :: rest) C a := by
  refine ⟨undef, C', .inr (.inr ⟨?_, .inl ⟨by simp [Region.wanted, hg], fun w hw => ?_⟩⟩), ?_⟩
  · simp [kindOf, pureOp, ho]
  · obtain ⟨w', hr, hc⟩ := hrun w hw
    unfold execOp
    simp only [ho, hx, hy]
    rw [Sem.run_bind, hr]
    exact ⟨rfl, hc⟩
  · rw [hd]; exact h
end
end Go.Proofs.YtmmffifndheafaaDoor

namespace Go.Proofs.YtmmffifndheafaaDoor
open Go.RowKit
section
variable {P : Program} {ops : Array Oper} {md : Region.Mode}

/-- it stands while memory grows -/
def Closed (I : World → Prop) : Prop := ∀ w w', I w → Below w.heap.size w w' → I w'
def calmUpon (P : Program) (w : World) (v : Value) : Result Next → Prop
  | .ok (.value u) w' => w' = w ∧ u = v
  | .ok .skip w' => w' = w ∧ v = undef
  | .ok (.enter f args) w' => w' = w ∧ Calls P f args w (fun e w'' => e = .returned v ∧ Below w.heap.size w w'')
  | _ => False
def srcUpon (P : Program) (F : Value → World → Prop) (w : World) : Result Next → Prop
  | .ok (.value u) w' => F u w' ∧ Below w.heap.size w w'
  | .ok (.enter f args) w' => w' = w ∧ Calls P f args w (fun e w'' => ∃ u, e = .returned u ∧ F u w'' ∧ Below w.heap.size w w'')
  | _ => False
/-- one value, in every world of the class -/
def CalmIn (P : Program) (ops : Array Oper) (I : World → Prop) (o : Oper) (v : Value) (a : Act) : Prop :=
  (Region.wanted o (yielded ops a.tmps) = true ∧ ∀ w, I w → calmUpon P w v ((execOp a.eval o).run P w)) ∨ (Region.wanted o (yielded ops a.tmps) = false ∧ v = undef)
theorem put_same {a : Act} {d : Tmp} (v : Value) (h : d < a.tmps.size) : (a.put (some d) v).tmps[d]? = some v := by simp [Act.put, h]
theorem put_other {a : Act} {x : Option Tmp} {d : Tmp} (v : Value) (h : x ≠ some d) : (a.put x v).tmps[d]? = a.tmps[d]? := by
  cases x with
  | none => rfl
  | some e =>
    have hne : e ≠ d := fun he => h (by rw [he])
    simp [Act.put, Array.getElem?_setIfInBounds_ne hne]
theorem put_size (a : Act) (x : Option Tmp) (v : Value) : (a.put x v).tmps.size = a.tmps.size := by cases x <;> simp [Act.put]
theorem put_defers (a : Act) (x : Option Tmp) (v : Value) : (a.put x v).defers = a.defers := by cases x <;> rfl
def fill : List Tmp → (Tmp → Value) → Act → Act
  | [], _, a => a
  | s :: r, xs, a => fill r xs (a.put (some s) (xs s))
theorem fill_size : ∀ (fs : List Tmp) (xs : Tmp → Value) (a : Act), (fill fs xs a).tmps.size = a.tmps.size ∧ (fill fs xs a).defers = a.defers
  | [], _, _ => ⟨rfl, rfl⟩
  | s :: r, xs, a => by
    obtain ⟨h1, h2⟩ := fill_size r xs (a.put (some s) (xs s))
    exact ⟨h1.trans (put_size ..), h2.trans (put_defers ..)⟩
theorem fill_out : ∀ (fs : List Tmp) (xs : Tmp → Value) (a : Act) (d : Tmp), d ∉ fs → (fill fs xs a).tmps[d]? = a.tmps[d]?
  | [], _, _, _, _ => rfl
  | s :: r, xs, a, d, h => by
    rw [List.mem_cons, not_or] at h
    exact (fill_out r xs _ d h.2).trans (put_other _ (by simpa using fun e => h.1 e.symm))
theorem fill_in : ∀ (fs : List Tmp) (xs : Tmp → Value) (a : Act) (d : Tmp), d ∈ fs → d < a.tmps.size → (fill fs xs a).tmps[d]? = some (xs d)
  | s :: r, xs, a, d, h, hlt => by
    by_cases hr : d ∈ r
    · exact fill_in r xs _ d hr (by rw [put_size]; exact hlt)
    · rcases List.mem_cons.1 h with rfl | h
      · exact (fill_out r xs _ d hr).trans (put_same _ hlt)
      · exact absurd h hr
/-- what is to be shown of one operation: it looks at no source; it is one; it looks at one; it is one and looks at others -/
def Ob (P : Program) (ops : Array Oper) (I : World → Prop) (fs : List Tmp) (FS : Tmp → Value → World → Prop) (o : Oper) (v : Value) (a : Act) : Prop :=
  ((∀ d ∈ o.looksAt ops, d ∉ fs) ∧ (∀ d, o.dst = some d → d ∉ fs) ∧ CalmIn P ops I o v a) ∨
  (∃ s, s ∈ fs ∧ o.dst = some s ∧ (∀ d ∈ o.looksAt ops, d ∉ fs) ∧ Region.wanted o (yielded ops a.tmps) = true ∧ ∀ w, I w → srcUpon P (FS s) w ((execOp a.eval o).run P w)) ∨
  (∃ s, s ∈ fs ∧ (∃ j, (ops[j]?).bind (·.dst) = some s ∧ o.after.any (fun e => Region.binds .any e && e.on == j) = true) ∧ (∀ d ∈ o.looksAt ops, d ∈ fs → d = s) ∧ (∀ d, o.dst = some d → d ∉ fs) ∧
    ∀ x w, I w → FS s x w → Region.wanted o (yielded ops (a.put (some s) x).tmps) = true ∧ calmUpon P w v ((execOp (a.put (some s) x).eval o).run P w)) ∨
  (∃ s R, s ∈ fs ∧ o.dst = some s ∧ (∀ r ∈ R, r ∈ fs ∧ ∃ j, (ops[j]?).bind (·.dst) = some r ∧ o.after.any (fun e => Region.binds .any e && e.on == j) = true) ∧ (∀ d ∈ o.looksAt ops, d ∈ fs → d ∈ R) ∧
    ∀ xs w, I w → (∀ r ∈ R, FS r (xs r) w) → Region.wanted o (yielded ops (fill R xs a).tmps) = true ∧ srcUpon P (FS s) w ((execOp (fill R xs a).eval o).run P w))
/-- the walk in the text's order -/
def wpF (P : Program) (ops : Array Oper) (I : World → Prop) (fs : List Tmp) (FS : Tmp → Value → World → Prop) (E : Act → Prop) : List Oper → Act → Prop
  | [], a => E a
  | o :: r, a => ∃ v, Ob P ops I fs FS o v a ∧ wpF P ops I fs FS E r (a.put o.dst v)
def lex : List Oper → List Value → Act → Nat → Act
  | o :: r, v :: vs, a, k + 1 => lex r vs (a.put o.dst v) k
  | _, _, a, _ => a
theorem lex_zero (l : List Oper) (vs : List Value) (a : Act) : lex l vs a 0 = a := by cases l <;> cases vs <;> rfl
section
variable {I : World → Prop} {fs : List Tmp} {FS : Tmp → Value → World → Prop} {E : Act → Prop}
theorem wpF_vals : ∀ (l : List Oper) (a : Act), wpF P ops I fs FS E l a → ∃ vs : List Value, vs.length = l.length ∧
    (∀ (k : Nat) o v, l[k]? = some o → vs[k]? = some v → Ob P ops I fs FS o v (lex l vs a k)) ∧ E (lex l vs a l.length)
  | [], a, h => ⟨[], rfl, by simp, h⟩
  | o :: r, a, ⟨v, hob, hr⟩ => by
    obtain ⟨vs, h1, h2, h3⟩ := wpF_vals r _ hr
    refine ⟨v :: vs, by simp [h1], fun k o' v' ho hv => ?_, h3⟩
    cases k with
    | zero =>
      simp only [List.getElem?_cons_zero, Option.some.injEq] at ho hv
      subst ho hv
      exact hob
    | succ k =>
      simp only [List.getElem?_cons_succ] at ho hv
      exact h2 k o' v' ho hv
end
theorem lex_size : ∀ (l : List Oper) (vs : List Value) (a : Act) (k : Nat), (lex l vs a k).tmps.size = a.tmps.size ∧ (lex l vs a k).defers = a.defers
  | o :: r, v :: vs, a, k + 1 => by
    obtain ⟨h1, h2⟩ := lex_size r vs (a.put o.dst v) k
    exact ⟨h1.trans (put_size ..), h2.trans (put_defers ..)⟩
  | [], _, _, _ => by simp [lex]
  | _ :: _, [], _, _ => by simp [lex]
  | _ :: _, _ :: _, _, 0 => by simp [lex]
theorem lex_out : ∀ (l : List Oper) (vs : List Value) (a : Act) (k : Nat) (d : Tmp), (∀ (j : Nat) o, l[j]? = some o → j < k → o.dst ≠ some d) → (lex l vs a k).tmps[d]? = a.tmps[d]?
  | o :: r, v :: vs, a, k + 1, d, h => by
    have h0 := h 0 o rfl (by omega)
    exact (lex_out r vs (a.put o.dst v) k d fun j o' hj hk => h (j + 1) o' (by simpa using hj) (by omega)).trans (put_other v h0)
  | [], _, _, _, _, _ => by simp [lex]
  | _ :: _, [], _, _, _, _ => by simp [lex]
  | _ :: _, _ :: _, _, 0, _, _ => by simp [lex]
theorem lex_in : ∀ (l : List Oper) (vs : List Value) (a : Act) (k j : Nat) (o : Oper) (d : Tmp) (v : Value), l[j]? = some o → j < k → vs[j]? = some v → o.dst = some d → d < a.tmps.size →
    (∀ (i : Nat) oi, l[i]? = some oi → i < k → i ≠ j → oi.dst ≠ some d) → (lex l vs a k).tmps[d]? = some v
  | o :: r, v :: vs, a, k + 1, 0, o', d, v', ho, _, hv, hd, hlt, hu => by
    simp only [List.getElem?_cons_zero, Option.some.injEq] at ho hv
    subst ho hv
    refine (lex_out r vs _ k d fun i oi hi hik => hu (i + 1) oi (by simpa using hi) (by omega) (by omega)).trans ?_
    rw [hd]
    exact put_same v hlt
  | o :: r, v :: vs, a, k + 1, j + 1, o', d, v', ho, hjk, hv, hd, hlt, hu => by
    simp only [List.getElem?_cons_succ] at ho hv
    exact lex_in r vs _ k j o' d v' ho (by omega) hv hd (by rw [put_size]; exact hlt) fun i oi hi hik hij => hu (i + 1) oi (by simpa using hi) (by omega) (by omega)
  | [], _, _, _, _, _, _, _, ho, _, _, _, _, _ => by simp at ho
  | _ :: _, [], _, _, _, _, _, _, _, _, hv, _, _, _ => by simp at hv
  | _ :: _, _ :: _, _, 0, _, _, _, _, _, hk, _, _, _, _ => by omega

/-- k waits for j -/
def seenB (md : Region.Mode) (ops : Array Oper) (k j : Nat) : Bool :=
  match ops[k]? with
  | some o => o.after.any fun e => Region.binds md e && e.on == j
  | none => false
/-- each operation waits for earlier ones alone; slots are written once; who looks at a slot waits for its writer, or the writer for him -/
def rgB (md : Region.Mode) (ops : Array Oper) (N : Nat) : Bool :=
  Region.noSelect ops && (List.range ops.size).all fun k =>
    match ops[k]? with
    | none => false
    | some o =>
      (match o.dst with | some d => decide (d < N) | none => true) && o.after.all (fun e => !Region.binds md e || decide (e.on < k)) &&
      (List.range ops.size).all fun j =>
        match ops[j]? with
        | none => false
        | some oj =>
          match oj.dst with
          | none => true
          | some d => (k == j || o.dst != some d) && (!(o.looksAt ops).contains d || (decide (j < k) && seenB md ops k j) || (decide (k < j) && seenB md ops j k))
structure RG (md : Region.Mode) (ops : Array Oper) (N : Nat) : Prop where
  sel : ∀ (j : Nat) (o : Oper) cs b, ops[j]? = some o → o.op ≠ .select cs b
  small : ∀ (k : Nat) o d, ops[k]? = some o → o.dst = some d → d < N
  back : ∀ (k : Nat) o, ops[k]? = some o → ∀ e ∈ o.after, Region.binds md e = true → e.on < k
  once : ∀ (k j : Nat) o oj d, ops[k]? = some o → ops[j]? = some oj → oj.dst = some d → k ≠ j → o.dst ≠ some d
  look : ∀ (k j : Nat) o oj d, ops[k]? = some o → ops[j]? = some oj → oj.dst = some d → d ∈ o.looksAt ops →
    (j < k ∧ ∃ e ∈ o.after, Region.binds md e = true ∧ e.on = j) ∨ (k < j ∧ ∃ e ∈ oj.after, Region.binds md e = true ∧ e.on = k)
theorem seenB_spec {k j : Nat} {o : Oper} (ho : ops[k]? = some o) (h : seenB md ops k j = true) : ∃ e ∈ o.after, Region.binds md e = true ∧ e.on = j := by
  simp only [seenB, ho] at h
  obtain ⟨e, he, hb⟩ := Array.any_eq_true'.1 h
  simp only [Bool.and_eq_true, beq_iff_eq] at hb
  exact ⟨e, he, hb.1, hb.2⟩
theorem rgB_spec {N : Nat} (h : rgB md ops N = true) : RG md ops N := by
  simp only [rgB, Bool.and_eq_true, List.all_eq_true, List.mem_range] at h
  obtain ⟨hs, h⟩ := h
  have at_ : ∀ (k : Nat) o, ops[k]? = some o → ((match o.dst with | some d => decide (d < N) | none => true) = true ∧ o.after.all (fun e => !Region.binds md e || decide (e.on < k)) = true) ∧
      ∀ (j : Nat) oj, ops[j]? = some oj → (match oj.dst with | none => true | some d => (k == j || o.dst != some d) && (!(o.looksAt ops).contains d || (decide (j < k) && seenB md ops k j) || (decide (k < j) && seenB md ops j k))) = true := fun k o ho => by
    have h1 := h k (Array.getElem?_eq_some_iff.1 ho).1
    simp only [ho, Bool.and_eq_true, List.all_eq_true, List.mem_range] at h1
    refine ⟨h1.1, fun j oj hj => ?_⟩
    have h2 := h1.2 j (Array.getElem?_eq_some_iff.1 hj).1
    simpa only [hj] using h2
  refine ⟨fun j o cs b hj => Region.noSelect_spec hs j o cs b hj, fun k o d ho hd => ?_, fun k o ho e he hb => ?_, fun k j o oj d ho hj hd hne => ?_, fun k j o oj d ho hj hd hl => ?_⟩
  · have := (at_ k o ho).1.1
    simpa [hd] using this
  · have := (at_ k o ho).1.2
    rw [Array.all_eq_true_iff_forall_mem] at this
    have := this e he
    simpa [hb] using this
  · have := (at_ k o ho).2 j oj hj
    simp only [hd, Bool.and_eq_true, Bool.or_eq_true, beq_iff_eq, hne, false_or, bne_iff_ne, ne_eq] at this
    exact this.1
  · have := (at_ k o ho).2 j oj hj
    simp only [hd, Bool.and_eq_true, Bool.or_eq_true, decide_eq_true_eq, Bool.not_eq_true'] at this
    rcases this.2 with (h1 | h1) | h1
    · have : (o.looksAt ops).contains d = true := by simpa using hl
      rw [this] at h1; cases h1
    · exact .inl ⟨h1.1, seenB_spec ho h1.2⟩
    · exact .inr ⟨h1.1, seenB_spec hj h1.2⟩

/-- two frames agree at the slots that an operation looks at -/
theorem exec_agree {o : Oper} {a b : Act} (hs : ∀ cs c, o.op ≠ .select cs c) (h : ∀ d ∈ o.looksAt ops, a.tmps[d]? = b.tmps[d]?) : execOp a.eval o = execOp b.eval o :=
  execOp_congr o hs fun x hx => by
    cases x with
    | tmp t =>
      have := h t (List.mem_append_left _ (List.mem_filterMap.2 ⟨.tmp t, by simpa using hx, rfl⟩))
      simp [Act.eval, this]
    | _ => rfl
theorem wanted_agree {o : Oper} {a b : Act} (h : ∀ d ∈ o.looksAt ops, a.tmps[d]? = b.tmps[d]?) : Region.wanted o (yielded ops a.tmps) = Region.wanted o (yielded ops b.tmps) := by
  unfold Region.wanted
  cases hg : o.guard with
  | none => rfl
  | some gw =>
    obtain ⟨g, want⟩ := gw
    have hy : yielded ops a.tmps g = yielded ops b.tmps g := by
      unfold yielded
      cases ht : (ops[g]?).bind (·.dst) with
      | none => rfl
      | some t =>
        have := h t (List.mem_append_right _ (by simp [hg, ht]))
        simp [this]
    simp only [hy]

/-! ### what an actual run has left so far -/
section
variable {l : List Oper} {vs : List Value} {fs : List Tmp} {FS : Tmp → Value → World → Prop} {I : World → Prop} {a0 : Act}
structure Inv (l : List Oper) (vs : List Value) (fs : List Tmp) (FS : Tmp → Value → World → Prop) (I : World → Prop) (a0 : Act) (listed : Array Bool) (b : Act) (w : World) : Prop where
  cls : I w
  size : b.tmps.size = a0.tmps.size
  defers : b.defers = a0.defers
  out : ∀ d, (∀ (j : Nat) o, l[j]? = some o → listed.getD j true = true → o.dst ≠ some d) → b.tmps[d]? = a0.tmps[d]?
  ins : ∀ (j : Nat) o d v, l[j]? = some o → listed.getD j true = true → o.dst = some d → vs[j]? = some v → (d ∈ fs → ∃ x, b.tmps[d]? = some x ∧ FS d x w) ∧ (d ∉ fs → b.tmps[d]? = some v)
  down : ∀ (j : Nat) o, l[j]? = some o → listed.getD j true = true → ∀ e ∈ o.after, Region.binds .any e = true → listed.getD e.on true = true
  lsize : listed.size = l.length
theorem getD_set_same (L : Array Bool) (i : Nat) : (L.setIfInBounds i true).getD i true = true := by
  rw [Array.getD_eq_getD_getElem?, Array.getElem?_setIfInBounds, if_pos rfl]
  split <;> rfl
theorem getD_set_far (L : Array Bool) {i j : Nat} (h : i ≠ j) : (L.setIfInBounds i true).getD j true = L.getD j true := by
  rw [Array.getD_eq_getD_getElem?, Array.getElem?_setIfInBounds, if_neg h, ← Array.getD_eq_getD_getElem?]
theorem getD_set_up (L : Array Bool) {i j : Nat} (h : L.getD j true = true) : (L.setIfInBounds i true).getD j true = true := by
  by_cases hij : i = j
  · subst hij; exact getD_set_same L i
  · rw [getD_set_far L hij]; exact h
theorem Inv.next {N : Nat} (hR : RG .any l.toArray N) (hN : N ≤ a0.tmps.size) (hI : Closed I) (hF : ∀ s x w w', FS s x w → Below w.heap.size w w' → FS s x w') {listed : Array Bool} {b : Act} {w w' : World} {i : Nat} {o : Oper} {u : Value}
    (h : Inv l vs fs FS I a0 listed b w) (ho : l[i]? = some o) (hp : ∀ e ∈ o.after, Region.binds .any e = true → listed.getD e.on true = true) (hb : Below w.heap.size w w')
    (hu : ∀ d, o.dst = some d → (d ∈ fs → FS d u w') ∧ (d ∉ fs → vs[i]? = some u)) : Inv l vs fs FS I a0 (listed.setIfInBounds i true) (b.put o.dst u) w' := by
  have ho' : l.toArray[i]? = some o := by simpa using ho
  refine ⟨hI w w' h.cls hb, (put_size ..).trans h.size, (put_defers ..).trans h.defers, fun d hd => ?_, fun j oj d v hj hlj hdj hv => ?_, fun j oj hj hlj e he hbe => ?_, by simpa using h.lsize⟩
  · rw [put_other u (hd i o ho (getD_set_same _ _))]
    exact h.out d fun j oj hj hlj => hd j oj hj (getD_set_up _ hlj)
  · by_cases hij : i = j
    · subst hij
      obtain rfl : o = oj := Option.some.inj (ho.symm.trans hj)
      obtain ⟨h1, h2⟩ := hu d hdj
      rw [hdj]
      have hlt : d < b.tmps.size := by rw [h.size]; exact Nat.lt_of_lt_of_le (hR.small i o d ho' hdj) hN
      refine ⟨fun hd => ⟨u, put_same u hlt, h1 hd⟩, fun hd => ?_⟩
      rw [put_same u hlt]
      exact (h2 hd).symm.trans hv
    · rw [getD_set_far _ hij] at hlj
      obtain ⟨h1, h2⟩ := h.ins j oj d v hj hlj hdj hv
      have hne : o.dst ≠ some d := hR.once i j o oj d ho' (by simpa using hj) hdj hij
      rw [put_other u hne]
      exact ⟨fun hd => let ⟨x, hx, hfx⟩ := h1 hd; ⟨x, hx, hF d x w w' hfx hb⟩, h2⟩
  · by_cases hij : i = j
    · subst hij
      obtain rfl : o = oj := Option.some.inj (ho.symm.trans hj)
      exact getD_set_up _ (hp e he hbe)
    · rw [getD_set_far _ hij] at hlj
      exact getD_set_up _ (h.down j oj hj hlj e he hbe)
/-- at what an operation looks at, the run and the walk agree -/
theorem Inv.agree {N : Nat} (hR : RG .any l.toArray N) (hN : N ≤ a0.tmps.size) (hlen : vs.length = l.length) {listed : Array Bool} {b : Act} {w : World} {k : Nat} {o : Oper}
    (h : Inv l vs fs FS I a0 listed b w) (ho : l[k]? = some o) (hun : listed.getD k true = false) (hp : ∀ e ∈ o.after, Region.binds .any e = true → listed.getD e.on true = true) {d : Tmp} (hd : d ∈ o.looksAt l.toArray) (hf : d ∉ fs) :
    (lex l vs a0 k).tmps[d]? = b.tmps[d]? := by
  have ho' : l.toArray[k]? = some o := by simpa using ho
  by_cases hw : ∃ (j : Nat) (oj : Oper), l[j]? = some oj ∧ oj.dst = some d
  · obtain ⟨j, oj, hj, hdj⟩ := hw
    have hj' : l.toArray[j]? = some oj := by simpa using hj
    rcases hR.look k j o oj d ho' hj' hdj hd with ⟨hjk, e, he, hbe, rfl⟩ | ⟨hkj, e, he, hbe, rfl⟩
    · obtain ⟨v, hv⟩ : ∃ v, vs[e.on]? = some v := ⟨_, List.getElem?_eq_getElem (by rw [hlen]; exact (List.getElem?_eq_some_iff.1 hj).1)⟩
      rw [lex_in l vs a0 k e.on oj d v hj hjk hv hdj (Nat.lt_of_lt_of_le (hR.small _ _ _ hj' hdj) hN) fun i oi hi _ hne => hR.once i e.on oi oj d (by simpa using hi) hj' hdj hne]
      exact ((h.ins e.on oj d v hj (hp e he hbe) hdj hv).2 hf).symm
    · have hjun : listed.getD j true = false := by
        cases hc : listed.getD j true with
        | false => rfl
        | true => rw [h.down j oj hj hc e he hbe] at hun; cases hun
      rw [lex_out l vs a0 _ d fun i oi hi hik hdi => hR.once i j oi oj d (by simpa using hi) hj' hdj (by omega) hdi]
      refine (h.out d fun i oi hi hli hdi => ?_).symm
      by_cases hij : i = j
      · subst hij; rw [hjun] at hli; cases hli
      · exact hR.once i j oi oj d (by simpa using hi) hj' hdj hij hdi
  · rw [lex_out l vs a0 k d fun i oi hi _ hdi => hw ⟨i, oi, hi, hdi⟩]
    exact (h.out d fun i oi hi _ hdi => hw ⟨i, oi, hi, hdi⟩).symm
theorem count_zero {L : Array Bool} (h : L.toList.count false = 0) (j : Nat) : L.getD j true = true := by
  rw [List.count_eq_zero] at h
  rw [Array.getD_eq_getD_getElem?]
  cases hc : L[j]? with
  | none => rfl
  | some x =>
    cases x with
    | true => rfl
    | false => exact absurd (Array.mem_toList_iff.2 (Array.mem_of_getElem? hc)) h
theorem count_set {L : Array Bool} {i : Nat} (h : L.getD i true = false) : (L.setIfInBounds i true).toList.count false + 1 = L.toList.count false := by
  have h1 : L.toList[i]? = some false := by
    rw [Array.getD_eq_getD_getElem?] at h
    cases hc : L[i]? with
    | none => rw [hc] at h; simp at h
    | some x => rw [hc] at h; simp at h; subst h; simpa using hc
  rw [Array.toList_setIfInBounds]
  generalize L.toList = M at h1
  clear h
  induction M generalizing i with
  | nil => simp at h1
  | cons y M ih =>
    cases i with
    | zero =>
      simp at h1
      subst h1
      simp
    | succ i =>
      have := ih (i := i) (by simpa using h1)
      rw [List.set_cons_succ, List.count_cons, List.count_cons, ← this]
      omega
theorem ready_all {N : Nat} (hR : RG .any l.toArray N) {listed : Array Bool} (hs : listed.size = l.length) (h : Region.ready .any l.toArray listed = []) : ∀ j, listed.getD j true = true := by
  intro j
  induction j using Nat.strongRecOn with
  | ind j ih =>
    cases hc : listed.getD j true with
    | true => rfl
    | false =>
      have hlt : j < l.length := by
        rcases Nat.lt_or_ge j l.length with h1 | h1
        · exact h1
        · rw [Array.getD_eq_getD_getElem?, Array.getElem?_eq_none (by omega)] at hc; simp at hc
      have ho : l.toArray[j]? = some l[j] := by simp [hlt]
      have : j ∈ Region.ready .any l.toArray listed := mem_ready.2 ⟨hc, l[j], ho, fun e he hb => by
        have hlt2 := hR.back j l[j] ho e he hb
        have := ih e.on hlt2
        rw [Array.getD_eq_getD_getElem?] at this ⊢
        rw [Array.getElem?_eq_getElem (show e.on < listed.size by omega)] at this ⊢
        simpa using this⟩
      rw [h] at this
      cases this

theorem any_of_F {N : Nat} {Q' : Exit → Act → World → Prop} (hR : RG .any l.toArray N) (hN : N ≤ a0.tmps.size) (hlen : vs.length = l.length) (hI : Closed I) (hF : ∀ s x w w', FS s x w → Below w.heap.size w w' → FS s x w')
    (hob : ∀ (k : Nat) o v, l[k]? = some o → vs[k]? = some v → Ob P l.toArray I fs FS o v (lex l vs a0 k))
    (hQ : ∀ (listed : Array Bool) b w, (∀ j, listed.getD j true = true) → Inv l vs fs FS I a0 listed b w → Q' .normal b w) :
    ∀ (fuel : Nat) (listed : Array Bool) (b : Act) (w : World), listed.toList.count false ≤ fuel → Inv l vs fs FS I a0 listed b w → wpAny P .any l.toArray Q' fuel listed b w
  | 0, listed, b, w, hc, h => by
    have hall := count_zero (L := listed) (by omega)
    refine ⟨?_, hQ listed b w hall h⟩
    rw [List.eq_nil_iff_forall_not_mem]
    intro i hi
    have := (mem_ready.1 hi).1
    rw [hall i] at this
    cases this
  | fuel + 1, listed, b, w, hc, h => by
    refine ⟨fun h0 => hQ listed b w (ready_all hR h.lsize h0) h, fun i hi => ?_⟩
    obtain ⟨hun, o, ho, hall⟩ := mem_ready.1 hi
    have ho2 : l[i]? = some o := by simpa using ho
    have hp : ∀ e ∈ o.after, Region.binds .any e = true → listed.getD e.on true = true := fun e he hb => by
      have h1 := hall e he hb
      rw [Array.getD_eq_getD_getElem?] at h1 ⊢
      cases hx : listed[e.on]? with
      | none => rfl
      | some y => rw [hx] at h1; simpa using h1
    obtain ⟨v, hv⟩ : ∃ v, vs[i]? = some v := ⟨_, List.getElem?_eq_getElem (by rw [hlen]; exact (List.getElem?_eq_some_iff.1 ho2).1)⟩
    have K : ∀ u w', Below w.heap.size w w' → (∀ d, o.dst = some d → (d ∈ fs → FS d u w') ∧ (d ∉ fs → vs[i]? = some u)) → wpAny P .any l.toArray Q' fuel (listed.setIfInBounds i true) (b.put o.dst u) w' := fun u w' hb hu =>
      any_of_F hR hN hlen hI hF hob hQ fuel _ _ _ (by have := count_set hun; omega) (h.next hR hN hI hF ho2 hp hb hu)
    have hsel : ∀ cs c, o.op ≠ .select cs c := fun cs c => hR.sel i o cs c ho
    have ag : ∀ d ∈ o.looksAt l.toArray, d ∉ fs → (lex l vs a0 i).tmps[d]? = b.tmps[d]? := fun d hd hf => h.agree hR hN hlen ho2 hun hp hd hf
    unfold Go.wpOp
    simp only [ho]
    rcases hob i o v ho2 hv with ⟨h1, h2, hcalm⟩ | ⟨s, hs, hds, h1, hwt, hsrc⟩ | ⟨s, hs, ⟨j, hj, hje⟩, h1, h2, huse⟩ | ⟨s, R, hs, hds, hRs, h1, hmix⟩
    · have he := exec_agree (ops := l.toArray) hsel fun d hd => ag d hd (h1 d hd)
      have hw := wanted_agree (ops := l.toArray) fun d hd => ag d hd (h1 d hd)
      have kv : ∀ w', Below w.heap.size w w' → wpAny P .any l.toArray Q' fuel (listed.setIfInBounds i true) (b.put o.dst v) w' := fun w' hb => K v w' hb fun d hd => ⟨fun hf => absurd hf (h2 d hd), fun _ => hv⟩
      rcases hcalm with ⟨hwt, hval⟩ | ⟨hwf, rfl⟩
      · rw [hw] at hwt
        rw [if_pos hwt]
        left
        have h3 := hval w h.cls
        rw [he] at h3
        unfold Oper.wp
        generalize (execOp b.eval o).run P w = r at h3
        cases r with
        | ok n w' =>
          cases n <;> simp only [calmUpon] at h3 <;> simp only [Oper.upon]
          case value u => obtain ⟨rfl, rfl⟩ := h3; exact kv _ (Below.refl _ _)
          case skip => obtain ⟨rfl, rfl⟩ := h3; exact kv _ (Below.refl _ _)
          case enter f args =>
            obtain ⟨rfl, hcc⟩ := h3
            exact hcc.mono fun e w'' ⟨he, hb⟩ => by subst he; exact kv _ hb
        | halt x w' => simp only [calmUpon] at h3
      · rw [hw] at hwf
        rw [hwf, if_neg (by simp)]
        exact kv w (Below.refl _ _)
    · have he := exec_agree (ops := l.toArray) hsel fun d hd => ag d hd (h1 d hd)
      have hw := wanted_agree (ops := l.toArray) fun d hd => ag d hd (h1 d hd)
      rw [hw] at hwt
      rw [if_pos hwt]
      left
      have h3 := hsrc w h.cls
      rw [he] at h3
      have kf : ∀ u w', FS s u w' → Below w.heap.size w w' → wpAny P .any l.toArray Q' fuel (listed.setIfInBounds i true) (b.put o.dst u) w' := fun u w' hf hb => K u w' hb fun d hd => by
        obtain rfl : d = s := Option.some.inj (hd.symm.trans hds)
        exact ⟨fun _ => hf, fun hnf => absurd hs hnf⟩
      unfold Oper.wp
      generalize (execOp b.eval o).run P w = r at h3
      cases r with
      | ok n w' =>
        cases n <;> simp only [srcUpon] at h3 <;> simp only [Oper.upon]
        case value u => exact kf u w' h3.1 h3.2
        case enter f args =>
          obtain ⟨rfl, hcc⟩ := h3
          exact hcc.mono fun e w'' ⟨u, he, hf, hb⟩ => by subst he; exact kf u w'' hf hb
      | halt x w' => simp only [srcUpon] at h3
    · obtain ⟨e, hee, heb⟩ := Array.any_eq_true'.1 hje
      simp only [Bool.and_eq_true, beq_iff_eq] at heb
      obtain ⟨hbe, rfl⟩ := heb
      obtain ⟨oj, hoj, hdj⟩ := Option.bind_eq_some_iff.1 hj
      have hoj2 : l[e.on]? = some oj := by simpa using hoj
      obtain ⟨vj, hvj⟩ : ∃ v, vs[e.on]? = some v := ⟨_, List.getElem?_eq_getElem (by rw [hlen]; exact (List.getElem?_eq_some_iff.1 hoj2).1)⟩
      obtain ⟨x, hbx, hfx⟩ := (h.ins e.on oj s vj hoj2 (hp e hee hbe) hdj hvj).1 hs
      have hslt : s < (lex l vs a0 i).tmps.size := by rw [(lex_size l vs a0 i).1]; exact Nat.lt_of_lt_of_le (hR.small _ _ _ hoj hdj) hN
      have ag2 : ∀ d ∈ o.looksAt l.toArray, ((lex l vs a0 i).put (some s) x).tmps[d]? = b.tmps[d]? := fun d hd => by
        by_cases hsd : s = d
        · subst hsd
          rw [put_same x hslt, hbx]
        · rw [put_other x (by simpa using hsd)]
          exact ag d hd fun hf => hsd (h1 d hd hf).symm
      obtain ⟨hwt, h3⟩ := huse x w h.cls hfx
      rw [wanted_agree (ops := l.toArray) ag2] at hwt
      rw [exec_agree (ops := l.toArray) hsel ag2] at h3
      have kv : ∀ w', Below w.heap.size w w' → wpAny P .any l.toArray Q' fuel (listed.setIfInBounds i true) (b.put o.dst v) w' := fun w' hb => K v w' hb fun d hd => ⟨fun hf => absurd hf (h2 d hd), fun _ => hv⟩
      rw [if_pos hwt]
      left
      unfold Oper.wp
      generalize (execOp b.eval o).run P w = r at h3
      cases r with
      | ok n w' =>
        cases n <;> simp only [calmUpon] at h3 <;> simp only [Oper.upon]
        case value u => obtain ⟨rfl, rfl⟩ := h3; exact kv _ (Below.refl _ _)
        case skip => obtain ⟨rfl, rfl⟩ := h3; exact kv _ (Below.refl _ _)
        case enter f args =>
          obtain ⟨rfl, hcc⟩ := h3
          exact hcc.mono fun e w'' ⟨he, hb⟩ => by subst he; exact kv _ hb
      | halt x w' => simp only [calmUpon] at h3

    · have got : ∀ r ∈ R, ∃ x, b.tmps[r]? = some x ∧ FS r x w ∧ r < (lex l vs a0 i).tmps.size := fun r hr => by
        obtain ⟨hrf, j, hj, hje⟩ := hRs r hr
        obtain ⟨e, hee, heb⟩ := Array.any_eq_true'.1 hje
        simp only [Bool.and_eq_true, beq_iff_eq] at heb
        obtain ⟨hbe, rfl⟩ := heb
        obtain ⟨oj, hoj, hdj⟩ := Option.bind_eq_some_iff.1 hj
        have hoj2 : l[e.on]? = some oj := by simpa using hoj
        obtain ⟨vj, hvj⟩ : ∃ v, vs[e.on]? = some v := ⟨_, List.getElem?_eq_getElem (by rw [hlen]; exact (List.getElem?_eq_some_iff.1 hoj2).1)⟩
        obtain ⟨x, hbx, hfx⟩ := (h.ins e.on oj r vj hoj2 (hp e hee hbe) hdj hvj).1 hrf
        exact ⟨x, hbx, hfx, by rw [(lex_size l vs a0 i).1]; exact Nat.lt_of_lt_of_le (hR.small _ _ _ hoj hdj) hN⟩
      have ag2 : ∀ d ∈ o.looksAt l.toArray, (fill R (fun s => b.tmps.getD s undef) (lex l vs a0 i)).tmps[d]? = b.tmps[d]? := fun d hd => by
        by_cases hdR : d ∈ R
        · obtain ⟨x, hbx, _, hlt⟩ := got d hdR
          rw [fill_in R _ _ d hdR hlt, hbx]
          simp [hbx]
        · rw [fill_out R _ _ d hdR]
          exact ag d hd fun hf => hdR (h1 d hd hf)
      obtain ⟨hwt, h3⟩ := hmix (fun s => b.tmps.getD s undef) w h.cls fun r hr => by
        obtain ⟨x, hbx, hfx, _⟩ := got r hr
        simpa [hbx] using hfx
      rw [wanted_agree (ops := l.toArray) ag2] at hwt
      rw [exec_agree (ops := l.toArray) hsel ag2] at h3
      rw [if_pos hwt]
      left
      have kf : ∀ u w', FS s u w' → Below w.heap.size w w' → wpAny P .any l.toArray Q' fuel (listed.setIfInBounds i true) (b.put o.dst u) w' := fun u w' hf hb => K u w' hb fun d hd => by
        obtain rfl : d = s := Option.some.inj (hd.symm.trans hds)
        exact ⟨fun _ => hf, fun hnf => absurd hs hnf⟩
      unfold Oper.wp
      generalize (execOp b.eval o).run P w = r at h3
      cases r with
      | ok n w' =>
        cases n <;> simp only [srcUpon] at h3 <;> simp only [Oper.upon]
        case value u => exact kf u w' h3.1 h3.2
        case enter f args =>
          obtain ⟨rfl, hcc⟩ := h3
          exact hcc.mono fun e w'' ⟨u, he, hf, hb⟩ => by subst he; exact kf u w'' hf hb
      | halt x w' => simp only [srcUpon] at h3

/-- ONE WALK IN THE TEXT's ORDER SERVES EVERY ORDER -/
theorem wp_region_F {id : Nat} {Q : Exit → Act → World → Prop} {a : Act} {w : World} {l : List Oper} (N : Nat) (fs : List Tmp) (FS : Tmp → Value → World → Prop) (I : World → Prop) (hm : P.follows .mixedOrders = true) (hB : rgB .any l.toArray N = true)
    (hfs : (fs.all fun s => l.any fun o => o.dst == some s) = true) (hN : N ≤ a.tmps.size) (hI : Closed I) (hF : ∀ s x w w', FS s x w → Below w.heap.size w w' → FS s x w') (hC : I w.drew)
    (h : wpF P l.toArray I fs FS (fun a' => ∀ xs w', I w' → (∀ s ∈ fs, FS s (xs s) w') → Q .normal (fill fs xs a') w') l a) : (Code.region id l.toArray true).wp P Q a w := by
  have hR := rgB_spec hB
  obtain ⟨vs, hlen, hob, hE⟩ := wpF_vals l a h
  refine wp_region_any hm ?_
  refine any_of_F (l := l) (vs := vs) (fs := fs) (FS := FS) (I := I) (a0 := a) hR hN hlen hI hF hob ?_ _ _ _ _ ?_ ?_
  · intro listed b w' hall hinv
    have hw : ∀ s ∈ fs, ∃ x, b.tmps[s]? = some x ∧ FS s x w' := fun s hs => by
      rw [List.all_eq_true] at hfs
      have h1 := hfs s hs
      rw [List.any_eq_true] at h1
      obtain ⟨o, ho, hd⟩ := h1
      obtain ⟨j, hj, rfl⟩ := List.getElem_of_mem ho
      have hd' : (l[j]).dst = some s := by simpa using hd
      obtain ⟨v, hv⟩ : ∃ v, vs[j]? = some v := ⟨_, List.getElem?_eq_getElem (by rw [hlen]; exact hj)⟩
      exact (hinv.ins j l[j] s v (List.getElem?_eq_getElem hj) (hall j) hd' hv).1 hs
    have hb : b = fill fs (fun s => b.tmps.getD s undef) (lex l vs a l.length) := by
      have ht : b.tmps = (fill fs (fun s => b.tmps.getD s undef) (lex l vs a l.length)).tmps := by
        apply Array.ext_getElem?
        intro d
        by_cases hd : d ∈ fs
        · obtain ⟨x, hx, _⟩ := hw d hd
          have hlt : d < (lex l vs a l.length).tmps.size := by
            rw [(lex_size l vs a l.length).1, ← hinv.size]
            exact (Array.getElem?_eq_some_iff.1 hx).1
          rw [fill_in fs _ _ d hd hlt, hx]
          simp [hx]
        · rw [fill_out fs _ _ d hd]
          by_cases hwr : ∃ (j : Nat) (oj : Oper), l[j]? = some oj ∧ oj.dst = some d
          · obtain ⟨j, oj, hj, hdj⟩ := hwr
            obtain ⟨v, hv⟩ : ∃ v, vs[j]? = some v := ⟨_, List.getElem?_eq_getElem (by rw [hlen]; exact (List.getElem?_eq_some_iff.1 hj).1)⟩
            have hj' : l.toArray[j]? = some oj := by simpa using hj
            rw [(hinv.ins j oj d v hj (hall j) hdj hv).2 hd]
            exact (lex_in l vs a l.length j oj d v hj (List.getElem?_eq_some_iff.1 hj).1 hv hdj (Nat.lt_of_lt_of_le (hR.small _ _ _ hj' hdj) hN) fun i oi hi _ hne => hR.once i j oi oj d (by simpa using hi) hj' hdj hne).symm
          · rw [lex_out l vs a l.length d fun i oi hi _ hdi => hwr ⟨i, oi, hi, hdi⟩]
            exact hinv.out d fun i oi hi _ hdi => hwr ⟨i, oi, hi, hdi⟩
      have hd : b.defers = (fill fs (fun s => b.tmps.getD s undef) (lex l vs a l.length)).defers := by
        rw [(fill_size ..).2, (lex_size ..).2]
        exact hinv.defers
      cases b
      simp only at ht hd
      rw [Act.mk.injEq]
      exact ⟨ht, hd⟩
    rw [hb]
    refine hE _ w' hinv.cls fun s hs => ?_
    obtain ⟨x, hx, hf⟩ := hw s hs
    simpa [hx] using hf
  · simp
  · refine ⟨hC, rfl, rfl, fun _ _ => rfl, fun j o d v hj hlj => ?_, fun j o hj hlj => ?_, by simp⟩
    all_goals
      have hlt := (List.getElem?_eq_some_iff.1 hj).1
      rw [Array.getD_eq_getD_getElem?] at hlj
      simp [hlt] at hlj
end
end
end Go.Proofs.YtmmffifndheafaaDoor

namespace Go.Proofs.YtmmffifndheafaaDoor
open Go.RowKit
section
variable {P : Program} {l : List Oper} {I : World → Prop} {fs : List Tmp} {FS : Tmp → Value → World → Prop} {E : Act → Prop} {o : Oper} {rest : List Oper} {a : Act}
def noB (ops : Array Oper) (fs : List Tmp) (o : Oper) : Bool := ((o.looksAt ops).all fun d => !fs.contains d) && (match o.dst with | some d => !fs.contains d | none => true)
theorem noB_spec (h : noB l.toArray fs o = true) : (∀ d ∈ o.looksAt l.toArray, d ∉ fs) ∧ (∀ d, o.dst = some d → d ∉ fs) := by
  simp only [noB, Bool.and_eq_true, List.all_eq_true, Bool.not_eq_true'] at h
  refine ⟨fun d hd hf => ?_, fun d hd hf => ?_⟩
  · have := h.1 d hd
    simp [hf] at this
  · have := h.2
    rw [hd] at this
    simp [hf] at this
/-- it looks at no memory and enters no function -/
theorem wpF_pure (hk : kindOf o = 0) (hn : noB l.toArray fs o = true) (h : wpQuiet P l.toArray (fun _ => True) (fun a' => wpF P l.toArray I fs FS E rest a') [o] a) : wpF P l.toArray I fs FS E (o :: rest) a := by
  obtain ⟨h1, h2⟩ := noB_spec hn
  unfold wpQuiet at h
  by_cases hw : Region.wanted o (yielded l.toArray a.tmps) = true
  · simp only [hw, if_true] at h
    obtain ⟨v, hv, hr⟩ := h
    refine ⟨v, .inl ⟨h1, h2, .inl ⟨hw, fun w _ => ?_⟩⟩, hr⟩
    have h3 := hv w trivial
    have h4 := pure_no_enter (P := P) (kind_pure hk) a.eval w
    unfold Oper.quietAt at h3
    generalize (execOp a.eval o).run P w = r at h3 h4
    cases r with
    | ok n w' =>
      cases n with
      | enter f args => exact absurd rfl (h4 w' f args)
      | value u => exact h3
      | skip => exact h3
      | _ => simp only [Oper.quietUpon] at h3
    | halt x w' => simp only [Oper.quietUpon] at h3
  · simp only [hw] at h
    exact ⟨undef, .inl ⟨h1, h2, .inr ⟨by simpa using hw, rfl⟩⟩, h⟩
/-- a call of one value -/
theorem wpF_call {f : FuncId} {args : Array Value} (v : Value) (hn : noB l.toArray fs o = true) (hw : Region.wanted o (yielded l.toArray a.tmps) = true) (hrun : ∀ w, (execOp a.eval o).run P w = .ok (.enter f args) w)
    (hc : ∀ w, I w → Calls P f args w fun e w'' => e = .returned v ∧ Below w.heap.size w w'') (h : wpF P l.toArray I fs FS E rest (a.put o.dst v)) : wpF P l.toArray I fs FS E (o :: rest) a := by
  obtain ⟨h1, h2⟩ := noB_spec hn
  refine ⟨v, .inl ⟨h1, h2, .inl ⟨hw, fun w hI => ?_⟩⟩, h⟩
  rw [hrun w]
  exact ⟨rfl, hc w hI⟩
/-- a load -/
theorem wpF_load {t : TypeId} {x : Operand} {ad : Addr} (v : Value) (hop : o.op = .load t x) (hn : noB l.toArray fs o = true) (hw : Region.wanted o (yielded l.toArray a.tmps) = true) (hx : a.eval x = .pointer (some ad))
    (hrun : ∀ w, I w → (Instr.loadAt t (.pointer (some ad))).run P w = .ok v w) (h : wpF P l.toArray I fs FS E rest (a.put o.dst v)) : wpF P l.toArray I fs FS E (o :: rest) a := by
  obtain ⟨h1, h2⟩ := noB_spec hn
  refine ⟨v, .inl ⟨h1, h2, .inl ⟨hw, fun w hI => ?_⟩⟩, h⟩
  unfold execOp
  simp only [hop, hx]
  rw [Sem.run_bind, hrun w hI]
  exact ⟨rfl, rfl⟩
/-- an operation that makes memory: its value is known by what it is good for -/
theorem wpF_src (s : Tmp) (hs : s ∈ fs) (hd : o.dst = some s) (hn : ((o.looksAt l.toArray).all fun d => !fs.contains d) = true) (hw : Region.wanted o (yielded l.toArray a.tmps) = true)
    (hrun : ∀ w, I w → ∃ u w', (execOp a.eval o).run P w = .ok (.value u) w' ∧ FS s u w' ∧ Below w.heap.size w w') (h : wpF P l.toArray I fs FS E rest (a.put o.dst undef)) : wpF P l.toArray I fs FS E (o :: rest) a := by
  refine ⟨undef, .inr (.inl ⟨s, hs, hd, fun d hd hf => ?_, hw, fun w hI => ?_⟩), h⟩
  · rw [List.all_eq_true] at hn
    have := hn d hd
    simp [hf] at this
  · obtain ⟨u, w', hr, h1, h2⟩ := hrun w hI
    rw [hr]
    exact ⟨h1, h2⟩
/-- a call that is handed such a value -/
theorem wpF_use (s : Tmp) (j : Nat) {f : FuncId} (args : Value → Array Value) (v : Value) (hs : s ∈ fs) (hj : (l[j]?).bind (·.dst) = some s) (hje : (o.after.any fun e => Region.binds .any e && e.on == j) = true)
    (hn : ((o.looksAt l.toArray).all fun d => !fs.contains d || d == s) = true) (hdst : (match o.dst with | some d => !fs.contains d | none => true) = true) (hw : ∀ x, Region.wanted o (yielded l.toArray (a.put (some s) x).tmps) = true)
    (hrun : ∀ x w, (execOp (a.put (some s) x).eval o).run P w = .ok (.enter f (args x)) w)
    (hc : ∀ x w, I w → FS s x w → Calls P f (args x) w fun e w'' => e = .returned v ∧ Below w.heap.size w w'') (h : wpF P l.toArray I fs FS E rest (a.put o.dst v)) : wpF P l.toArray I fs FS E (o :: rest) a := by
  refine ⟨v, .inr (.inr (.inl ⟨s, hs, ⟨j, by simpa using hj, hje⟩, fun d hd hf => ?_, fun d hd hf => ?_, fun x w hI hx => ⟨hw x, ?_⟩⟩)), h⟩
  · rw [List.all_eq_true] at hn
    have := hn d hd
    simpa [hf] using this
  · rw [hd] at hdst
    simp [hf] at hdst
  · rw [hrun x w]
    exact ⟨rfl, hc x w hI hx⟩
/-- a call that hands back a value that is known by what it is good for -/
theorem wpF_callsrc (s : Tmp) {f : FuncId} {args : Array Value} (hs : s ∈ fs) (hd : o.dst = some s) (hn : ((o.looksAt l.toArray).all fun d => !fs.contains d) = true) (hw : Region.wanted o (yielded l.toArray a.tmps) = true)
    (hrun : ∀ w, (execOp a.eval o).run P w = .ok (.enter f args) w) (hc : ∀ w, I w → Calls P f args w fun e w'' => ∃ u, e = .returned u ∧ FS s u w'' ∧ Below w.heap.size w w'') (h : wpF P l.toArray I fs FS E rest (a.put o.dst undef)) : wpF P l.toArray I fs FS E (o :: rest) a := by
  refine ⟨undef, .inr (.inl ⟨s, hs, hd, fun d hd hf => ?_, hw, fun w hI => ?_⟩), h⟩
  · rw [List.all_eq_true] at hn
    have := hn d hd
    simp [hf] at this
  · rw [hrun w]
    exact ⟨rfl, hc w hI⟩
/-- an operation that looks at such values (R) and yields such a value -/
theorem wpF_mix (s : Tmp) (R : List Tmp) (hs : s ∈ fs) (hd : o.dst = some s)
    (hR : (R.all fun r => fs.contains r && (List.range l.length).any fun j => (((l[j]?).bind (·.dst)) == some r) && o.after.any fun e => Region.binds .any e && e.on == j) = true)
    (hn : ((o.looksAt l.toArray).all fun d => !fs.contains d || R.contains d) = true) (hw : ∀ xs, Region.wanted o (yielded l.toArray (fill R xs a).tmps) = true)
    (hrun : ∀ xs w, I w → (∀ r ∈ R, FS r (xs r) w) → ∃ u w', (execOp (fill R xs a).eval o).run P w = .ok (.value u) w' ∧ FS s u w' ∧ Below w.heap.size w w') (h : wpF P l.toArray I fs FS E rest (a.put o.dst undef)) : wpF P l.toArray I fs FS E (o :: rest) a := by
  refine ⟨undef, .inr (.inr (.inr ⟨s, R, hs, hd, fun r hr => ?_, fun d hd hf => ?_, fun xs w hI hx => ⟨hw xs, ?_⟩⟩)), h⟩
  · rw [List.all_eq_true] at hR
    have := hR r hr
    simp only [Bool.and_eq_true, List.contains_iff_mem, List.any_eq_true, beq_iff_eq] at this
    obtain ⟨h1, j, _, h2, h3⟩ := this
    exact ⟨h1, j, by simpa using h2, h3⟩
  · rw [List.all_eq_true] at hn
    have := hn d hd
    simpa [hf] using this
  · obtain ⟨u, w', hr, h1, h2⟩ := hrun xs w hI hx
    rw [hr]
    exact ⟨h1, h2⟩
end
end Go.Proofs.YtmmffifndheafaaDoor

namespace Go.Proofs.YtmmffifndheafaaDoor
open Go.RowKit
set_option maxRecDepth 100000

/-- the line of a head, of its numerals -/
def lineB (a b c d e : ByteArray) : ByteArray := ({ data := #[118, 32] } : ByteArray) ++ a ++ { data := #[32, 107, 32] } ++ b ++ { data := #[32] } ++ c ++ { data := #[32] } ++ d ++ { data := #[47] } ++ e
/-- .. of its numbers -/
def lineZ (v k s i c : Int) : ByteArray := lineB ⟨(Lib.itoa v).toArray⟩ ⟨(Lib.itoa k).toArray⟩ ⟨(Lib.itoa s).toArray⟩ ⟨(Lib.itoa i).toArray⟩ ⟨(Lib.itoa c).toArray⟩

theorem nDigits_le {u : Nat} (h : u < 18446744073709551616) : Lib.nDigits u ≤ 20 := by
  rcases Nat.eq_zero_or_pos u with h0 | h0
  · subst h0; rw [Lib.nDigits_small (by omega)]; omega
  · have := Lib.numDigits_eq u h0 h
    split at this <;> omega
theorem itoa_len {n : Int} (h : -9223372036854775808 ≤ n ∧ n ≤ 9223372036854775807) : (⟨(Lib.itoa n).toArray⟩ : ByteArray).size ≤ 21 := by
  show (Lib.itoa n).toArray.size ≤ 21
  simp only [List.size_toArray]
  unfold Lib.itoa
  split
  · rw [List.length_cons, Lib.decDigits_length]; have := @nDigits_le n.natAbs (by omega); omega
  · rw [Lib.decDigits_length]; have := @nDigits_le n.toNat (by omega); omega
theorem dec_len {u : Nat} (h : u < 18446744073709551616) : (⟨(Lib.decDigits u).toArray⟩ : ByteArray).size ≤ 21 := by
  show (Lib.decDigits u).toArray.size ≤ 21
  simp only [List.size_toArray]
  rw [Lib.decDigits_length]; have := nDigits_le h; omega

set_option maxHeartbeats 4000000 in
theorem hline_any (v k s i c : Int) (hv : -9223372036854775808 ≤ v ∧ v ≤ 9223372036854775807) (hk : -9223372036854775808 ≤ k ∧ k ≤ 9223372036854775807) (hi : -9223372036854775808 ≤ i ∧ i ≤ 9223372036854775807) (hc : -9223372036854775808 ≤ c ∧ c ≤ 9223372036854775807)
    (hs : 0 ≤ s ∧ s ≤ 4294967295) (B : Nat) (w : World) (ht : Tens w B) (hB : B ≤ w.heap.size) :
    Calls Tryd.prog 9 #[hdV v k s i c] w fun e w' => e = .returned (.string (lineZ v k s i c)) ∧ Below w.heap.size w w' := by
  unfold hdV
  obtain ⟨w0, hw0⟩ : ∃ w0, w.alloc (.cells #[.int .i64 v, .int .i64 k, .int .u32 s, .int .i64 i, .int .i64 c] 24) = w0 := ⟨_, rfl⟩
  have hs0 : w0.heap.size = w.heap.size + 1 := by rw [← hw0]; simp
  have hb0 : Below w.heap.size w w0 := by rw [← hw0]; exact (Below.refl _ w).alloc (Nat.le_refl _) _
  have hd : ∀ W, Below w0.heap.size w0 W → W.cell? ⟨w.heap.size, 0, none⟩ = some (.int .i64 v) ∧ W.cell? ⟨w.heap.size, 1, none⟩ = some (.int .i64 k) ∧ W.cell? ⟨w.heap.size, 2, none⟩ = some (.int .u32 s) ∧ W.cell? ⟨w.heap.size, 3, none⟩ = some (.int .i64 i) ∧ W.cell? ⟨w.heap.size, 4, none⟩ = some (.int .i64 c) := fun W hW => by
    rw [← hw0] at hW; exact hd_cells hW
  have hT : ∀ W, Below w0.heap.size w0 W → Tens W B := fun W hW => (ht.below (hb0.mono hB)).below (hW.mono (by omega))
  have HW := Lib.hid hw0
  have cv := fun W hW => itoa_any v hv.1 hv.2 B W (hT W hW)
  have ck := fun W hW => itoa_any k hk.1 hk.2 B W (hT W hW)
  have ci := fun W hW => itoa_any i hi.1 hi.2 B W (hT W hW)
  have cc := fun W hW => itoa_any c hc.1 hc.2 B W (hT W hW)
  have lv := itoa_len hv
  have lk := itoa_len hk
  have li := itoa_len hi
  have lc := itoa_len hc
  clear hw0
  obtain ⟨u, rfl⟩ : ∃ u : Nat, s = (u : Int) := ⟨s.toNat, by omega⟩
  have hu : u < 18446744073709551616 := by omega
  have cs := fun W hW => fmtu_any u hu B W (hT W hW)
  have ls := dec_len hu
  have hz : lineZ v k (u : Int) i c = lineB ⟨(Lib.itoa v).toArray⟩ ⟨(Lib.itoa k).toArray⟩ ⟨(Lib.decDigits u).toArray⟩ ⟨(Lib.itoa i).toArray⟩ ⟨(Lib.itoa c).toArray⟩ := by unfold lineZ; rw [Lib.itoa_nonneg]
  rw [hz]
  unfold lineB
  clear hz
  generalize (⟨(Lib.itoa v).toArray⟩ : ByteArray) = tv at *
  generalize (⟨(Lib.itoa k).toArray⟩ : ByteArray) = tk at *
  generalize (⟨(Lib.itoa i).toArray⟩ : ByteArray) = ti at *
  generalize (⟨(Lib.itoa c).toArray⟩ : ByteArray) = tc at *
  generalize (⟨(Lib.decDigits u).toArray⟩ : ByteArray) = ts at *
  go_enter Tryd.func9, Tryd.ntmps9
  go_wp2_with fail
  rw [HW.out]
  refine wp_region_F 28 [] (fun _ _ _ => False) (fun W => Below w0.heap.size w0 W) (by kernel_rfl) (by kernel_rfl) (by rfl) (by simp) (fun W W' h hb => h.trans (hb.mono h.size)) (fun s v W W' h hb => h) (Below.refl _ _).drew ?_
  refine wpF_pure rfl rfl ?_; go_big_quiet_step (fail); refine wpQuiet_nil ?_
  refine wpF_load (.int .i64 v) rfl (by rfl) (by rfl) (by rfl) (fun W hW => by have := (hd W hW).1; simp [Instr.loadAt, go_sem, this]) ?_
  simp only [Act.put, List.setIfInBounds_toArray, List.set_cons_succ, List.set_cons_zero]
  refine wpF_call (f := 19) (args := #[.int .i64 v]) (.string tv) rfl rfl (fun x => by first | rfl | (simp [go_sem]; done)) (fun W hW => cv W hW) ?_
  simp only [Act.put, List.setIfInBounds_toArray, List.set_cons_succ, List.set_cons_zero]
  refine wpF_pure rfl rfl ?_; go_big_quiet_step (fail); refine wpQuiet_nil ?_
  refine wpF_pure rfl rfl ?_; go_big_quiet_step (fail); refine wpQuiet_nil ?_
  refine wpF_pure rfl rfl ?_; go_big_quiet_step (fail); refine wpQuiet_nil ?_
  refine wpF_load (.int .i64 k) rfl (by rfl) (by rfl) (by rfl) (fun W hW => by have := (hd W hW).2.1; simp [Instr.loadAt, go_sem, this]) ?_
  simp only [Act.put, List.setIfInBounds_toArray, List.set_cons_succ, List.set_cons_zero]
  refine wpF_call (f := 19) (args := #[.int .i64 k]) (.string tk) rfl rfl (fun x => by first | rfl | (simp [go_sem]; done)) (fun W hW => ck W hW) ?_
  simp only [Act.put, List.setIfInBounds_toArray, List.set_cons_succ, List.set_cons_zero]
  refine wpF_pure rfl rfl ?_; go_big_quiet_step (fail); refine wpQuiet_nil ?_
  refine wpF_pure rfl rfl ?_; go_big_quiet_step (fail); refine wpQuiet_nil ?_
  refine wpF_pure rfl rfl ?_; go_big_quiet_step (fail); refine wpQuiet_nil ?_
  refine wpF_load (.int .u32 (u : Int)) rfl (by rfl) (by rfl) (by rfl) (fun W hW => by have := (hd W hW).2.2.1; simp [Instr.loadAt, go_sem, this]) ?_
  simp only [Act.put, List.setIfInBounds_toArray, List.set_cons_succ, List.set_cons_zero]
  refine wpF_pure rfl rfl ?_; go_big_quiet_step (fail); refine wpQuiet_nil ?_
  refine wpF_call (f := 20) (args := #[.int .u64 (u : Int), .int .i64 10]) (.string ts) rfl rfl (fun x => by first | rfl | (simp [go_sem]; done)) (fun W hW => cs W hW) ?_
  simp only [Act.put, List.setIfInBounds_toArray, List.set_cons_succ, List.set_cons_zero]
  refine wpF_pure rfl rfl ?_; go_big_quiet_step (fail); refine wpQuiet_nil ?_
  refine wpF_pure rfl rfl ?_; go_big_quiet_step (fail); refine wpQuiet_nil ?_
  refine wpF_pure rfl rfl ?_; go_big_quiet_step (fail); refine wpQuiet_nil ?_
  refine wpF_load (.int .i64 i) rfl (by rfl) (by rfl) (by rfl) (fun W hW => by have := (hd W hW).2.2.2.1; simp [Instr.loadAt, go_sem, this]) ?_
  simp only [Act.put, List.setIfInBounds_toArray, List.set_cons_succ, List.set_cons_zero]
  refine wpF_call (f := 19) (args := #[.int .i64 i]) (.string ti) rfl rfl (fun x => by first | rfl | (simp [go_sem]; done)) (fun W hW => ci W hW) ?_
  simp only [Act.put, List.setIfInBounds_toArray, List.set_cons_succ, List.set_cons_zero]
  refine wpF_pure rfl rfl ?_; go_big_quiet_step (fail); refine wpQuiet_nil ?_
  refine wpF_pure rfl rfl ?_; go_big_quiet_step (fail); refine wpQuiet_nil ?_
  refine wpF_pure rfl rfl ?_; go_big_quiet_step (fail); refine wpQuiet_nil ?_
  refine wpF_load (.int .i64 c) rfl (by rfl) (by rfl) (by rfl) (fun W hW => by have := (hd W hW).2.2.2.2; simp [Instr.loadAt, go_sem, this]) ?_
  simp only [Act.put, List.setIfInBounds_toArray, List.set_cons_succ, List.set_cons_zero]
  refine wpF_call (f := 19) (args := #[.int .i64 c]) (.string tc) rfl rfl (fun x => by first | rfl | (simp [go_sem]; done)) (fun W hW => cc W hW) ?_
  simp only [Act.put, List.setIfInBounds_toArray, List.set_cons_succ, List.set_cons_zero]
  refine wpF_pure rfl rfl ?_; go_big_quiet_step (fail); refine wpQuiet_nil ?_
  refine wpF_pure rfl rfl ?_; go_big_quiet_step (fail); refine wpQuiet_nil ?_
  intro xs W hW _
  simp only [fill]
  go_wp2
  go_ret
  exact ⟨rfl, hb0.trans (hW.mono (by omega))⟩
end Go.Proofs.YtmmffifndheafaaDoor

namespace Go.Proofs.YtmmffifndheafaaDoor
open Go.RowKit
set_option maxRecDepth 100000

theorem line77 : lineZ 2 4 77 0 3 = { data := #[118, 32, 50, 32, 107, 32, 52, 32, 55, 55, 32, 48, 47, 51] } := by
  unfold lineZ
  rw [show (2 : Int) = ((2 : Nat) : Int) from rfl, show (4 : Int) = ((4 : Nat) : Int) from rfl, show (77 : Int) = ((77 : Nat) : Int) from rfl, show (0 : Int) = ((0 : Nat) : Int) from rfl, show (3 : Int) = ((3 : Nat) : Int) from rfl]
  rw [Lib.itoa_nonneg, Lib.itoa_nonneg, Lib.itoa_nonneg, Lib.itoa_nonneg, Lib.itoa_nonneg, Lib.decDigits_one (by omega), Lib.decDigits_one (by omega), Lib.decDigits_two (by omega) (by omega), Lib.decDigits_one (by omega), Lib.decDigits_one (by omega)]
  rfl

set_option maxHeartbeats 2000000 in
theorem known_any (B : Nat) (w : World) (ht : Tens w B) (hB : B ≤ w.heap.size) : Calls Tryd.prog 11 #[] w fun e w' => e = .returned (.bool true) ∧ Below w.heap.size w w' := by
  go_enter Tryd.func11, Tryd.ntmps11
  go_wp2_with fail
  refine (hbytes_any 2 4 258 0 3 (by omega) _).mono ?_
  rintro e w1 ⟨hr, hb1⟩
  rcases hr with ⟨h, _⟩ | ⟨_, g, hg, rfl, hn⟩
  · exact absurd (by decide) h
  have hblk : w1.heap[w.heap.size]? = some (.cells #[.int .i64 2, .int .i64 4, .int .u32 258, .int .i64 0, .int .i64 3] 24 (0, 0)) := (hb1.block _ (by simp)).trans (World.alloc_heap_new _ _)
  have d2 : w1.cell? ⟨w.heap.size, 2, none⟩ = some (.int .u32 258) := by simp [World.cell?, hblk]
  have f2 : w1.frozen? ⟨w.heap.size, 2, none⟩ = false := by simp [World.frozen?, hblk]
  have hblk2 := setCell_at (j := 2) (u := .int .u32 77) hblk
  simp only [List.setIfInBounds_toArray, List.set_cons_succ, List.set_cons_zero] at hblk2
  have hb01 : Below w.heap.size w w1 := ((Below.refl _ w).alloc (Nat.le_refl _) (.cells #[.int .i64 2, .int .i64 4, .int .u32 258, .int .i64 0, .int .i64 3] 24)).trans (hb1.mono (by simp))
  have hb02 := hb01.setCell (p := ⟨w.heap.size, 2, none⟩) (Nat.le_refl _) (.int .u32 77)
  have hs1 := hb1.size
  rw [World.size_alloc] at hs1 hg
  have hn2 : Nums .u8 (w1.setCell ⟨w.heap.size, 2, none⟩ (.int .u32 77)) w1.heap.size (some ⟨g, 0, none⟩) [2, 4, 2, 1, 0, 0, 0, 3] := fun _ => by
    obtain ⟨b, o, e, hb, hc⟩ := hn (by simp [hdB])
    injection e with e
    injection e with e1 e2
    subst e1 e2
    exact ⟨g, 0, rfl, hb, fun j z hj => (World.cell?_of_block (Below.heap_setCell w1 ⟨w.heap.size, 2, none⟩ _ _ (by simp only; omega))).trans (hc j z hj)⟩
  have HN := Lib.hid hn2
  have HB := Lib.hid hb02
  have HK := Lib.hid hblk2
  have hsz : (w1.setCell ⟨w.heap.size, 2, none⟩ (.int .u32 77)).heap.size = w1.heap.size := by simp [World.setCell]
  clear hn hn2 hb1 hb01 hb02 hblk2 hblk
  go_wp2_with fail
  generalize w1.setCell ⟨w.heap.size, 2, none⟩ (.int .u32 77) = w2 at *
  rw [← hsz] at HN hs1 ⊢
  clear hsz d2 f2 hg
  have ha := (Below.refl _ w2).alloc (Nat.le_refl _) (.cells #[.int .u8 2, .int .u8 4, .int .u8 2, .int .u8 1, .int .u8 0, .int .u8 0, .int .u8 0, .int .u8 3] 5)
  refine (same_len (w2.heap.size + 1) (some ⟨g, 0, none⟩) (some ⟨w2.heap.size, 0, none⟩) 8 8 8 8 [2, 4, 2, 1, 0, 0, 0, 3] [2, 4, 2, 1, 0, 0, 0, 3] _ rfl rfl rfl (by omega) ((HN.out.below ha).mono (by omega)) (Nums.new .u8 w2 5 [2, 4, 2, 1, 0, 0, 0, 3] _ rfl)).mono ?_
  rintro e w3 ⟨rfl, d, hw3⟩
  have hb3 : Below w2.heap.size w2 w3 := by rw [hw3]; exact below_drewN ha d
  have hblk3 := (hb3.block w.heap.size (by omega)).trans HK.out
  have HB3 := Lib.hid (HB.out.trans (hb3.mono (by omega)))
  have hT : Hid (Tens w3 B) := (ht.below (HB.out.mono hB)).below (hb3.mono (by omega))
  have d0 : w3.cell? ⟨w.heap.size, 0, none⟩ = some (.int .i64 2) := by simp [World.cell?, hblk3]
  have d1 : w3.cell? ⟨w.heap.size, 1, none⟩ = some (.int .i64 4) := by simp [World.cell?, hblk3]
  have d2 : w3.cell? ⟨w.heap.size, 2, none⟩ = some (.int .u32 77) := by simp [World.cell?, hblk3]
  have d3 : w3.cell? ⟨w.heap.size, 3, none⟩ = some (.int .i64 0) := by simp [World.cell?, hblk3]
  have d4 : w3.cell? ⟨w.heap.size, 4, none⟩ = some (.int .i64 3) := by simp [World.cell?, hblk3]
  have hs3 := hb3.size
  clear hw3 hb3 hblk3 ha HN HK HB
  go_wp2_with fail
  refine (hline_any 2 4 77 0 3 (by omega) (by omega) (by omega) (by omega) (by omega) B w3 hT.out (by omega)).mono ?_
  rintro e w4 ⟨rfl, hb4⟩
  rw [line77]
  have HF := Lib.hid (HB3.out.trans (hb4.mono (by omega)))
  clear hb4
  go_wp2
  go_ret
  exact ⟨rfl, HF.out⟩

theorem ret_bool {a b : Bool} (h : a = b) : Ending.returned (.bool a) = Ending.returned (.bool b) := by rw [h]
theorem last_any (v k s i c : Int) (hi : 0 ≤ i ∧ i ≤ 255) (w : World) :
    Calls Tryd.prog 15 #[hdV v k s i c] w fun e w' => e = .returned (.bool (i == c - 1)) ∧ Below w.heap.size w w' := by
  unfold hdV
  by_cases h : i < c
  · go_enter Tryd.func15, Tryd.ntmps15
    go_wp2
    go_ret
    exact ⟨ret_bool (by rw [Bool.eq_iff_iff]; simp; omega), (Below.refl _ w).alloc (Nat.le_refl _) _⟩
  · go_enter Tryd.func15, Tryd.ntmps15
    go_wp2
    go_ret
    exact ⟨ret_bool (by rw [Bool.eq_iff_iff]; simp; omega), (Below.refl _ w).alloc (Nat.le_refl _) _⟩

/-- whether two heads are alike but for the index -/
def mateZ (v k s c v' k' s' c' : Int) : Bool := decide (v = v' ∧ k = k' ∧ s = s' ∧ c = c')
theorem mates_any (v k s i c v' k' s' i' c' : Int) (w : World) :
    Calls Tryd.prog 17 #[hdV v k s i c, hdV v' k' s' i' c'] w fun e w' => e = .returned (.bool (mateZ v k s c v' k' s' c')) ∧ Below w.heap.size w w' := by
  unfold hdV
  go_enter Tryd.func17, Tryd.ntmps17
  go_wp2
  all_goals
    go_ret
    exact ⟨ret_bool (by simp [mateZ, *]), ((Below.refl _ w).alloc (Nat.le_refl _) _).alloc (by simp) _⟩
end Go.Proofs.YtmmffifndheafaaDoor

namespace Go.Proofs.YtmmffifndheafaaDoor
open Go.RowKit
set_option maxRecDepth 100000

theorem hparse_any (a : Option Addr) (n cap : Nat) (zs : List Int) (w : World) (hn : zs.length = n) (hz : Bytes zs) (h1 : Nums .u8 w w.heap.size a zs) :
    Calls Tryd.prog 12 #[.slice a n cap] w fun e w' => e = .returned (.tuple #[hdP (prs zs).1, .int .i64 (prs zs).2]) ∧ Below w.heap.size w w' := by
  subst hn
  rcases Nat.lt_trichotomy zs.length 8 with h | h | h
  · rw [prs_short h]; exact hparse_short a _ cap w h
  · rw [h]
    obtain ⟨z0, z1, z2, z3, z4, z5, z6, z7, rfl⟩ := eight h
    exact hparse_8 a cap z0 z1 z2 z3 z4 z5 z6 z7 w (fun x hx => by have := hz x hx; omega) h1
  · rw [prs_long h]; exact hparse_long a _ cap w h
theorem rparse_any (a : Option Addr) (n cap : Nat) (zs : List Int) (w : World) (hn : zs.length = n) (hz : Bytes zs) (h1 : Nums .u8 w w.heap.size a zs) :
    Calls Tryd.prog 16 #[.slice a n cap] w fun e w' => e = .returned (.tuple #[hdP (prs zs).1, .int .i64 (prs zs).2]) ∧ Below w.heap.size w w' := by
  subst hn
  rcases Nat.lt_trichotomy zs.length 8 with h | h | h
  · rw [prs_short h]; exact rparse_short a _ cap w h
  · rw [h]
    obtain ⟨z0, z1, z2, z3, z4, z5, z6, z7, rfl⟩ := eight h
    exact rparse_8 a cap z0 z1 z2 z3 z4 z5 z6 z7 w (fun x hx => by have := hz x hx; omega) h1
  · rw [prs_long h]; exact rparse_long a _ cap w h

/-- what is parsed is told by just these bytes -/
theorem prs_ok {zs : List Int} {v k s i c : Int} (hz : Bytes zs) (h : prs zs = ((v, k, s, i, c), 0)) : chk v k i c = 0 ∧ 0 ≤ s ∧ s ≤ 4294967295 ∧ hdB v k s i c = zs ∧ zs.length = 8 := by
  rcases Nat.lt_trichotomy zs.length 8 with h8 | h8 | h8
  · rw [prs_short h8] at h; cases h
  · obtain ⟨z0, z1, z2, z3, z4, z5, z6, z7, rfl⟩ := eight h8
    rw [prs_8] at h
    by_cases h0 : chk z0 z1 z6 z7 = 0
    · rw [if_pos h0] at h
      injection h with h h9
      injection h with e1 h; injection h with e2 h; injection h with e3 h; injection h with e4 e5
      subst e1 e2 e3 e4 e5
      have r2 := hz z2 (by simp); have r3 := hz z3 (by simp); have r4 := hz z4 (by simp); have r5 := hz z5 (by simp)
      simp only [le]
      refine ⟨h0, by omega, by omega, ?_, rfl⟩
      unfold hdB
      simp only [List.cons.injEq, and_true, true_and]
      omega
    · rw [if_neg h0] at h
      injection h with h h9
      exact absurd h9 h0
  · rw [prs_long h8] at h; cases h

set_option maxHeartbeats 4000000 in
theorem parses_go (a : Option Addr) (n m c : Nat) (es : List Int) (w : World) (hn : es.length = n) (hc : n ≤ c) (hz : Bytes es) (h1 : Nums .u8 w w.heap.size a es)
    (hm : min (n : Int) 20 = (m : Int)) (hmn : m ≤ n) (ht : Tens w w.heap.size) :
    Calls Tryd.prog 4 #[.slice a n c] w fun e w' => e = .returned (.bool true) ∧ Below w.heap.size w w' := by
  have hmc : (m : Int) ≤ (c : Int) := by omega
  have hlen : (es.take m).length = m := by rw [List.length_take]; omega
  have hzb := hz.take m
  have hnum := h1.take m
  generalize es.take m = zs at *
  clear hz h1 hn
  obtain ⟨⟨⟨v, k, s, i, d⟩, er⟩, hP⟩ : ∃ x, prs zs = x := ⟨_, rfl⟩
  have K1 := hparse_any a m c zs w hlen hzb hnum
  have K2 := fun W (hb : Below w.heap.size w W) => rparse_any a m c zs W hlen hzb ((hnum.below hb).mono hb.size)
  rw [hP] at K1
  simp only [hP, hdP] at K1 K2
  unfold hdV at K1 K2
  have HP := Lib.hid hP
  have HZ := Lib.hid hzb
  have HL := Lib.hid hlen
  clear hP hzb hlen
  by_cases h0 : er = 0
  · subst h0
    have hok := prs_ok HZ.out HP.out
    have HO := Lib.hid hok
    clear hok
    go_enter Tryd.func4, Tryd.ntmps4
    go_wp2_with fail
    refine K1.mono ?_
    rintro e w1 ⟨rfl, hb1⟩
    clear K1
    go_wp2_with fail
    have ha := (Below.refl _ w1).alloc (Nat.le_refl _) (.cells #[.int .i64 v, .int .i64 k, .int .u32 s, .int .i64 i, .int .i64 d] 24)
    have hb2 := hb1.trans (ha.mono hb1.size)
    refine (K2 _ hb2).mono ?_
    rintro e w2 ⟨rfl, hb3⟩
    have hs1 := hb1.size
    have hs2 := hb3.size
    rw [World.size_alloc] at hs2
    have hB : (w2.alloc (.cells #[.int .i64 v, .int .i64 k, .int .u32 s, .int .i64 i, .int .i64 d] 30)).heap[w1.heap.size]? = some (.cells #[.int .i64 v, .int .i64 k, .int .u32 s, .int .i64 i, .int .i64 d] 24 (0, 0)) := (Below.heap_alloc _ _ _ (by omega)).trans ((hb3.block _ (by simp)).trans (World.alloc_heap_new _ _))
    obtain ⟨d0, d1, d2, d3, d4⟩ := hd_block hB
    have hb4 := (hb2.trans (hb3.mono (by simp; omega))).alloc (by omega) (.cells #[.int .i64 v, .int .i64 k, .int .u32 s, .int .i64 i, .int .i64 d] 30)
    have HB := Lib.hid hb4
    clear K2 ha hb2 hb3 hb1 hB hb4
    go_wp2_with fail
    generalize w2.alloc (.cells #[.int .i64 v, .int .i64 k, .int .u32 s, .int .i64 i, .int .i64 d] 30) = W3 at HB d0 d1 d2 d3 d4 ⊢
    have HC := hbytes_any v k s i d ⟨HO.out.2.1, HO.out.2.2.1⟩ W3
    unfold hdV at HC
    refine HC.mono ?_
    rintro e W4 ⟨hr, hb5⟩
    clear HC d0 d1 d2 d3 d4
    rcases hr with ⟨h, _⟩ | ⟨_, g, hg, rfl, hn⟩
    · exact absurd HO.out.1 h
    rw [HO.out.2.2.2.1] at hn
    have HN := Lib.hid hn
    have HB4 := Lib.hid (HB.out.trans (hb5.mono HB.out.size))
    have hL8 := HL.out
    rw [HO.out.2.2.2.2] at hL8
    have Hm := Lib.hid hL8
    clear hn hb5 hg hL8
    have KN := known_any w.heap.size W4 (ht.below HB4.out) HB4.out.size
    go_wp2_with fail
    refine KN.mono ?_
    rintro e W5 ⟨rfl, hb6⟩
    clear KN
    have HB5 := Lib.hid (HB4.out.trans (hb6.mono HB4.out.size))
    have S5 := same_len W5.heap.size (some ⟨g, 0, none⟩) a 8 m 8 c zs zs W5 rfl (HL.out.trans Hm.out.symm) HL.out (by omega) ((HN.out.below hb6).mono hb6.size) ((hnum.below HB5.out).mono HB5.out.size)
    clear hb6
    go_wp2_with fail
    refine S5.mono ?_
    rintro e W6 ⟨rfl, q, hq⟩
    have HB6 : Hid (Below w.heap.size w W6) := by rw [hq]; exact below_drewN HB5.out q
    clear S5 hq
    go_wp2
    go_ret
    exact ⟨rfl, HB6.out⟩
  · have h2 : (er != 0) = true := by simpa using h0
    go_enter Tryd.func4, Tryd.ntmps4
    go_wp2_with fail
    refine K1.mono ?_
    rintro e w1 ⟨rfl, hb1⟩
    clear K1
    go_wp2_with fail
    have ha := (Below.refl _ w1).alloc (Nat.le_refl _) (.cells #[.int .i64 v, .int .i64 k, .int .u32 s, .int .i64 i, .int .i64 d] 24)
    have hb2 := hb1.trans (ha.mono hb1.size)
    refine (K2 _ hb2).mono ?_
    rintro e w2 ⟨rfl, hb3⟩
    have hs1 := hb1.size
    have hs2 := hb3.size
    rw [World.size_alloc] at hs2
    have hB : (w2.alloc (.cells #[.int .i64 v, .int .i64 k, .int .u32 s, .int .i64 i, .int .i64 d] 30)).heap[w1.heap.size]? = some (.cells #[.int .i64 v, .int .i64 k, .int .u32 s, .int .i64 i, .int .i64 d] 24 (0, 0)) := (Below.heap_alloc _ _ _ (by omega)).trans ((hb3.block _ (by simp)).trans (World.alloc_heap_new _ _))
    obtain ⟨d0, d1, d2, d3, d4⟩ := hd_block hB
    have hb4 := (hb2.trans (hb3.mono (by simp; omega))).alloc (by omega) (.cells #[.int .i64 v, .int .i64 k, .int .u32 s, .int .i64 i, .int .i64 d] 30)
    have HB := Lib.hid hb4
    clear K2 ha hb2 hb3 hb1 hB hb4
    go_wp2_with fail
    have KN := known_any w.heap.size _ (ht.below HB.out) HB.out.size
    refine KN.mono ?_
    rintro e w5 ⟨rfl, hb5⟩
    have HF := Lib.hid (HB.out.trans (hb5.mono HB.out.size))
    clear hb5 KN
    go_wp2
    go_ret
    exact ⟨rfl, HF.out⟩

theorem walk_parses (a0 : Option Addr) (len0 cap0 : Nat) (z0 : List Int) (w : World) (w0 : IsRow .u8 w a0 len0 cap0 z0) (ht : Tens w w.heap.size) :
    Calls Tryd.prog 4 #[.slice a0 len0 cap0] w fun e w' => e = .returned (.bool true) ∧ Below w.heap.size w w' := by
  obtain ⟨e0, l0, q0, m0, k0, r0⟩ := w0.elems
  exact parses_go a0 len0 (min len0 20) cap0 e0 w l0 q0 (bytes_of r0) k0 (by omega) (by omega) ht
end Go.Proofs.YtmmffifndheafaaDoor

namespace Go.Proofs.YtmmffifndheafaaDoor
open Go.RowKit
set_option maxRecDepth 100000

/-- one byte as a string -/
theorem conv_one (w : World) (z : Int) (d : UInt8) (h : z = (d.toNat : Int)) :
    (convert 25 9 (.slice (some ⟨w.heap.size, 0, none⟩) 1 1)).run Tryd.prog (w.alloc (.cells #[.int .u8 z] 5)) = .ok (.string ⟨#[d]⟩) (w.alloc (.cells #[.int .u8 z] 5)) := by
  have := run_convert_bytes_back (P := Tryd.prog) (w.alloc (.cells #[.int .u8 z] 5)) 25 9 5 ⟨w.heap.size, 0, none⟩ 1 [d] Tryd.underlying25 Tryd.underlying5 Tryd.underlying9 (fun j hj => by
    obtain rfl : j = 0 := by simpa using hj
    simp [Addr.add, h])
  exact this

/-- the digits that stand behind those of u -/
def Behind (u0 u : Nat) (B : ByteArray) : Prop := ∃ bs : List UInt8, B = ⟨bs.toArray⟩ ∧ Lib.decDigits u0 = Lib.decDigits u ++ bs
theorem Behind.size {u0 u : Nat} {B : ByteArray} (h0 : u0 < 18446744073709551616) (h : Behind u0 u B) : B.size ≤ 20 := by
  obtain ⟨bs, rfl, e⟩ := h
  have h1 := congrArg List.length e
  rw [List.length_append, Lib.decDigits_length] at h1
  have := nDigits_le h0
  show bs.toArray.size ≤ 20
  simp only [List.size_toArray]
  omega
theorem Behind.step {u0 u : Nat} {B : ByteArray} (h : Behind u0 u B) (hu : ¬ u < 10) : Behind u0 (u / 10) (({ data := #[UInt8.ofNat (48 + u % 10)] } : ByteArray) ++ B) := by
  obtain ⟨bs, rfl, e⟩ := h
  refine ⟨UInt8.ofNat (48 + u % 10) :: bs, ?_, ?_⟩
  · apply ByteArray.ext
    simp
  · rw [e, Lib.decDigits, dif_neg hu, List.append_assoc]; rfl
theorem Behind.last {u0 u : Nat} {B : ByteArray} (h : Behind u0 u B) (hu : u < 10) : (({ data := #[UInt8.ofNat (48 + u)] } : ByteArray) ++ B) = ⟨(Lib.decDigits u0).toArray⟩ := by
  obtain ⟨bs, rfl, e⟩ := h
  rw [e, Lib.decDigits_one hu]
  apply ByteArray.ext
  simp
theorem dig_nat {u : Nat} (hu : u < 10) : (48 + (u : Int)) = ((UInt8.ofNat (48 + u)).toNat : Int) := by
  rw [UInt8.toNat_ofNat']; omega

set_option maxHeartbeats 1000000 in
theorem rdigits_pos (u0 : Nat) (h0 : u0 ≤ 9223372036854775807) (w : World) :
    Calls Tryd.prog 21 #[.int .i64 (u0 : Int)] w fun e w' => e = .returned (.string ⟨(Lib.decDigits u0).toArray⟩) ∧ Below w.heap.size w w' := by
  have H0 := Lib.hid (show u0 < 18446744073709551616 by omega)
  go_enter Tryd.func21, Tryd.ntmps21
  go_wp2
  go_loopw [0, 4] (fun nv ov wr => ∃ (u : Nat) (B : ByteArray), u ≤ 9223372036854775807 ∧ nv = .int .i64 (u : Int) ∧ ov = .string B ∧ Hid (Behind u0 u B) ∧ Below w.heap.size w wr) (fun nv _ _ => (intOf nv).toNat)
  case atStart => exact ⟨u0, _, h0, rfl, rfl, ⟨[], rfl, by simp⟩, Below.refl _ _⟩
  case round =>
    obtain ⟨u, B, hu, rfl, rfl, HB, hb⟩ := hrel
    have hsz := HB.out.size H0.out
    by_cases h1 : u < 10
    · have h2 : ¬ (10 : Int) ≤ (u : Int) := by omega
      have hcv := conv_one wr (48 + (u : Int)) (UInt8.ofNat (48 + u)) (dig_nat h1)
      have HL := Lib.hid (HB.out.last h1)
      obtain ⟨d, hd⟩ : ∃ d, UInt8.ofNat (48 + u) = d := ⟨_, rfl⟩
      rw [hd] at hcv HL
      clear hd
      go_wp2
      go_ret
      exact ⟨congrArg (fun x => Ending.returned (.string x)) HL.out, hb.alloc hb.size _⟩
    · have h2 : (10 : Int) ≤ (u : Int) := by omega
      have h3 : ((u / 10 : Nat) : Int) = (u : Int) / 10 := by omega
      have hcv := conv_one wr (48 + (u : Int) % 10) (UInt8.ofNat (48 + u % 10)) (by rw [← dig_nat (by omega)]; omega)
      have HS := Lib.hid (HB.out.step h1)
      obtain ⟨d, hd⟩ : ∃ d, UInt8.ofNat (48 + u % 10) = d := ⟨_, rfl⟩
      rw [hd] at hcv HS
      clear hd
      go_wp2
      go_roundw
      case rel => exact ⟨u / 10, _, by omega, by rw [h3], rfl, HS, hb.alloc hb.size _⟩
      case measure => simp [intOf]; omega

/-- as Behind, of a number that has been turned down to nought -/
def Gone (u0 u : Nat) (B : ByteArray) : Prop := (0 < u → Behind u0 u B) ∧ (u = 0 → B = ⟨(Lib.decDigits u0).toArray⟩)
theorem Gone.step {u0 u : Nat} {B : ByteArray} (h : Gone u0 u B) (hu : 0 < u) : Gone u0 (u / 10) (({ data := #[UInt8.ofNat (48 + u % 10)] } : ByteArray) ++ B) := by
  have hb := h.1 hu
  by_cases h1 : u < 10
  · refine ⟨fun h2 => by omega, fun _ => ?_⟩
    rw [Nat.mod_eq_of_lt h1]
    exact hb.last h1
  · exact ⟨fun _ => hb.step h1, fun h2 => by omega⟩
theorem Gone.size {u0 u : Nat} {B : ByteArray} (h0 : u0 < 18446744073709551616) (h : Gone u0 u B) : B.size ≤ 20 := by
  rcases Nat.eq_zero_or_pos u with h1 | h1
  · rw [h.2 h1]
    show (Lib.decDigits u0).toArray.size ≤ 20
    simp only [List.size_toArray]
    rw [Lib.decDigits_length]; exact nDigits_le h0
  · exact (h.1 h1).size h0

set_option maxHeartbeats 1000000 in
theorem rdigits_neg (u0 : Nat) (hp : 0 < u0) (h0 : u0 ≤ 9223372036854775808) (w : World) :
    Calls Tryd.prog 21 #[.int .i64 (-(u0 : Int))] w fun e w' => e = .returned (.string ⟨(Lib.itoa (-(u0 : Int))).toArray⟩) ∧ Below w.heap.size w w' := by
  have H0 := Lib.hid (show u0 < 18446744073709551616 by omega)
  have HI := Lib.hid (Lib.itoa_neg u0 hp)
  have hneg : -(u0 : Int) < 0 := by omega
  go_enter Tryd.func21, Tryd.ntmps21
  go_wp2
  go_loopw [0, 3] (fun nv ov wr => ∃ (u : Nat) (B : ByteArray), u ≤ 9223372036854775808 ∧ nv = .int .i64 (-(u : Int)) ∧ ov = .string B ∧ Hid (Gone u0 u B) ∧ Below w.heap.size w wr) (fun nv _ _ => (-(intOf nv)).toNat)
  case atStart => exact ⟨u0, _, h0, rfl, rfl, ⟨fun _ => ⟨[], rfl, by simp⟩, fun h => by omega⟩, Below.refl _ _⟩
  case round =>
    obtain ⟨u, B, hu, rfl, rfl, HB, hb⟩ := hrel
    have hsz := HB.out.size H0.out
    by_cases h1 : u = 0
    · subst h1
      have h2 : ¬ (-((0 : Nat) : Int)) < 0 := by omega
      have HL := Lib.hid (HB.out.2 rfl)
      go_wp2
      go_ret
      exact ⟨congrArg (fun x => Ending.returned (.string x)) (by rw [HL.out, HI.out]; apply ByteArray.ext; simp), hb⟩
    · have h2 : -(u : Int) < 0 := by omega
      have h3 : ((u / 10 : Nat) : Int) = (u : Int) / 10 := by omega
      have HS := Lib.hid (HB.out.step (by omega))
      have hcv := conv_one wr (48 + (u : Int) % 10) (UInt8.ofNat (48 + u % 10)) (by rw [← dig_nat (by omega)]; omega)
      obtain ⟨d, hd⟩ : ∃ d, UInt8.ofNat (48 + u % 10) = d := ⟨_, rfl⟩
      rw [hd] at hcv HS
      clear hd
      go_wp2
      go_roundw
      case rel => exact ⟨u / 10, _, by omega, by rw [h3], rfl, HS, hb.alloc hb.size _⟩
      case measure => simp [intOf]; omega

theorem rdigits_any (n : Int) (h : -9223372036854775808 ≤ n ∧ n ≤ 9223372036854775807) (w : World) :
    Calls Tryd.prog 21 #[.int .i64 n] w fun e w' => e = .returned (.string ⟨(Lib.itoa n).toArray⟩) ∧ Below w.heap.size w w' := by
  by_cases h0 : n < 0
  · obtain ⟨u, rfl⟩ : ∃ u : Nat, n = -(u : Int) := ⟨n.natAbs, by omega⟩
    exact rdigits_neg u (by omega) (by omega) w
  · obtain ⟨u, rfl⟩ : ∃ u : Nat, n = (u : Int) := ⟨n.toNat, by omega⟩
    rw [Lib.itoa_nonneg]
    exact rdigits_pos u (by omega) w
end Go.Proofs.YtmmffifndheafaaDoor

namespace Go.Proofs.YtmmffifndheafaaDoor
open Go.RowKit
set_option maxRecDepth 100000

set_option maxHeartbeats 4000000 in
theorem rline_any (v k s i c : Int) (hv : -9223372036854775808 ≤ v ∧ v ≤ 9223372036854775807) (hk : -9223372036854775808 ≤ k ∧ k ≤ 9223372036854775807) (hi : -9223372036854775808 ≤ i ∧ i ≤ 9223372036854775807) (hc : -9223372036854775808 ≤ c ∧ c ≤ 9223372036854775807)
    (hs : 0 ≤ s ∧ s ≤ 4294967295) (w : World) :
    Calls Tryd.prog 10 #[hdV v k s i c] w fun e w' => e = .returned (.string (lineZ v k s i c)) ∧ Below w.heap.size w w' := by
  unfold hdV
  obtain ⟨w0, hw0⟩ : ∃ w0, w.alloc (.cells #[.int .i64 v, .int .i64 k, .int .u32 s, .int .i64 i, .int .i64 c] 30) = w0 := ⟨_, rfl⟩
  have hs0 : w0.heap.size = w.heap.size + 1 := by rw [← hw0]; simp
  have hb0 : Below w.heap.size w w0 := by rw [← hw0]; exact (Below.refl _ w).alloc (Nat.le_refl _) _
  have hd : ∀ W, Below w0.heap.size w0 W → W.cell? ⟨w.heap.size, 0, none⟩ = some (.int .i64 v) ∧ W.cell? ⟨w.heap.size, 1, none⟩ = some (.int .i64 k) ∧ W.cell? ⟨w.heap.size, 2, none⟩ = some (.int .u32 s) ∧ W.cell? ⟨w.heap.size, 3, none⟩ = some (.int .i64 i) ∧ W.cell? ⟨w.heap.size, 4, none⟩ = some (.int .i64 c) := fun W hW => by
    rw [← hw0] at hW; exact hd_cells hW
  have HW := Lib.hid hw0
  have cv := rdigits_any v hv
  have ck := rdigits_any k hk
  have cs := rdigits_any s (by omega)
  have ci := rdigits_any i hi
  have cc := rdigits_any c hc
  have lv := itoa_len hv
  have lk := itoa_len hk
  have ls := itoa_len (n := s) (by omega)
  have li := itoa_len hi
  have lc := itoa_len hc
  clear hw0
  unfold lineZ lineB
  generalize (⟨(Lib.itoa v).toArray⟩ : ByteArray) = tv at *
  generalize (⟨(Lib.itoa k).toArray⟩ : ByteArray) = tk at *
  generalize (⟨(Lib.itoa s).toArray⟩ : ByteArray) = ts at *
  generalize (⟨(Lib.itoa i).toArray⟩ : ByteArray) = ti at *
  generalize (⟨(Lib.itoa c).toArray⟩ : ByteArray) = tc at *
  go_enter Tryd.func10, Tryd.ntmps10
  go_wp2_with fail
  rw [HW.out]
  refine wp_region_F 28 [] (fun _ _ _ => False) (fun W => Below w0.heap.size w0 W) (by kernel_rfl) (by kernel_rfl) (by rfl) (by simp) (fun W W' h hb => h.trans (hb.mono h.size)) (fun s v W W' h hb => h) (Below.refl _ _).drew ?_
  refine wpF_pure rfl rfl ?_; go_big_quiet_step (fail); refine wpQuiet_nil ?_
  refine wpF_load (.int .i64 v) rfl (by rfl) (by rfl) (by rfl) (fun W hW => by have := (hd W hW).1; simp [Instr.loadAt, go_sem, this]) ?_
  simp only [Act.put, List.setIfInBounds_toArray, List.set_cons_succ, List.set_cons_zero]
  refine wpF_call (f := 21) (args := #[.int .i64 v]) (.string tv) rfl rfl (fun x => by first | rfl | (simp [go_sem]; done)) (fun W _ => cv W) ?_
  simp only [Act.put, List.setIfInBounds_toArray, List.set_cons_succ, List.set_cons_zero]
  refine wpF_pure rfl rfl ?_; go_big_quiet_step (fail); refine wpQuiet_nil ?_
  refine wpF_pure rfl rfl ?_; go_big_quiet_step (fail); refine wpQuiet_nil ?_
  refine wpF_pure rfl rfl ?_; go_big_quiet_step (fail); refine wpQuiet_nil ?_
  refine wpF_load (.int .i64 k) rfl (by rfl) (by rfl) (by rfl) (fun W hW => by have := (hd W hW).2.1; simp [Instr.loadAt, go_sem, this]) ?_
  simp only [Act.put, List.setIfInBounds_toArray, List.set_cons_succ, List.set_cons_zero]
  refine wpF_call (f := 21) (args := #[.int .i64 k]) (.string tk) rfl rfl (fun x => by first | rfl | (simp [go_sem]; done)) (fun W _ => ck W) ?_
  simp only [Act.put, List.setIfInBounds_toArray, List.set_cons_succ, List.set_cons_zero]
  refine wpF_pure rfl rfl ?_; go_big_quiet_step (fail); refine wpQuiet_nil ?_
  refine wpF_pure rfl rfl ?_; go_big_quiet_step (fail); refine wpQuiet_nil ?_
  refine wpF_pure rfl rfl ?_; go_big_quiet_step (fail); refine wpQuiet_nil ?_
  refine wpF_load (.int .u32 s) rfl (by rfl) (by rfl) (by rfl) (fun W hW => by have := (hd W hW).2.2.1; simp [Instr.loadAt, go_sem, this]) ?_
  simp only [Act.put, List.setIfInBounds_toArray, List.set_cons_succ, List.set_cons_zero]
  refine wpF_pure rfl rfl ?_; go_big_quiet_step (fail); refine wpQuiet_nil ?_
  refine wpF_call (f := 21) (args := #[.int .i64 s]) (.string ts) rfl rfl (fun x => by first | rfl | (simp [go_sem]; done)) (fun W _ => cs W) ?_
  simp only [Act.put, List.setIfInBounds_toArray, List.set_cons_succ, List.set_cons_zero]
  refine wpF_pure rfl rfl ?_; go_big_quiet_step (fail); refine wpQuiet_nil ?_
  refine wpF_pure rfl rfl ?_; go_big_quiet_step (fail); refine wpQuiet_nil ?_
  refine wpF_pure rfl rfl ?_; go_big_quiet_step (fail); refine wpQuiet_nil ?_
  refine wpF_load (.int .i64 i) rfl (by rfl) (by rfl) (by rfl) (fun W hW => by have := (hd W hW).2.2.2.1; simp [Instr.loadAt, go_sem, this]) ?_
  simp only [Act.put, List.setIfInBounds_toArray, List.set_cons_succ, List.set_cons_zero]
  refine wpF_call (f := 21) (args := #[.int .i64 i]) (.string ti) rfl rfl (fun x => by first | rfl | (simp [go_sem]; done)) (fun W _ => ci W) ?_
  simp only [Act.put, List.setIfInBounds_toArray, List.set_cons_succ, List.set_cons_zero]
  refine wpF_pure rfl rfl ?_; go_big_quiet_step (fail); refine wpQuiet_nil ?_
  refine wpF_pure rfl rfl ?_; go_big_quiet_step (fail); refine wpQuiet_nil ?_
  refine wpF_pure rfl rfl ?_; go_big_quiet_step (fail); refine wpQuiet_nil ?_
  refine wpF_load (.int .i64 c) rfl (by rfl) (by rfl) (by rfl) (fun W hW => by have := (hd W hW).2.2.2.2; simp [Instr.loadAt, go_sem, this]) ?_
  simp only [Act.put, List.setIfInBounds_toArray, List.set_cons_succ, List.set_cons_zero]
  refine wpF_call (f := 21) (args := #[.int .i64 c]) (.string tc) rfl rfl (fun x => by first | rfl | (simp [go_sem]; done)) (fun W _ => cc W) ?_
  simp only [Act.put, List.setIfInBounds_toArray, List.set_cons_succ, List.set_cons_zero]
  refine wpF_pure rfl rfl ?_; go_big_quiet_step (fail); refine wpQuiet_nil ?_
  refine wpF_pure rfl rfl ?_; go_big_quiet_step (fail); refine wpQuiet_nil ?_
  intro xs W hW _
  simp only [fill]
  go_wp2
  go_ret
  exact ⟨rfl, hb0.trans (hW.mono (by omega))⟩
end Go.Proofs.YtmmffifndheafaaDoor

namespace Go.Proofs.YtmmffifndheafaaDoor
open Go.RowKit

theorem wpList_append_any {P : Program} {w : World} {ops : Array Oper} {rest : List Oper} {o : Oper} {a : Act} {Q : Exit → Act → World → Prop} (hwt : Region.wanted o (yielded ops a.tmps) = true) (s x : Operand) (t : TypeId)
    (ho : o.op = .call { callee := .builtin .append, args := #[s, x], argTypes := #[t, t] })
    (base : Nat) (e : TypeId) (i : TypeInfo) (z : Value) (bytes : Nat) (ht : P.underlying t = some (.slice e)) (hi : P.info? e = some i) (hz : i.zero = some z) (hsize : i.size = 1) (hby : i.bytes = bytes) (hzs : z.cells.size = 1)
    (k : IntKind) (L zs : List Int) (v : Value) (hs : a.eval s = v) (hown : w.ownsRow base e 1 v L.length (L.map (Value.int k))) (A : Option Addr) (m c B : Nat) (hx : a.eval x = .slice A m c) (hm : zs.length = m) (hn : Nums k w B A zs)
    (h63 : L.length + m ≤ maxLen) (hbytes : (L.length + m) * bytes ≤ 140737488355328) (hbase : base ≤ w.heap.size)
    (h : ∀ v' w', w'.ownsRow base e 1 v' (L.length + zs.length) (L.map (Value.int k) ++ zs.map (Value.int k)) → w.grownBy w' v.ownBlock → wpList P ops Q rest (a.put o.dst v') w') : wpList P ops Q (o :: rest) a w := by
  subst hm
  simp only [wpList, hwt, if_true]
  left
  by_cases hz0 : zs = []
  · subst hz0
    have hv : ∃ b n cap, v = .slice b n cap ∧ n ≤ cap := by
      rcases hown.2 with ⟨rfl, _⟩ | ⟨g, cap, cur, rfl, _, _, hle, _⟩
      · exact ⟨_, _, _, rfl, Nat.le_refl _⟩
      · exact ⟨_, _, _, rfl, hle⟩
    obtain ⟨b, n, cap, rfl, hle⟩ := hv
    refine Lib.wp_append_run w s x t t ho _ _ hs hx _ w (run_append_nothing w t t o.type e i ht hi b n cap hle _ ?_) (h _ _ (by simpa using hown) ⟨rfl, rfl, rfl, Nat.le_refl _, fun _ _ _ => rfl⟩)
    cases A with
    | none => exact ⟨.inl ⟨e, ht⟩, fun _ => rfl, run_firstCells_none w i.size 0 0 c, run_firstCells_none w.drew i.size 0 0 c, by simp, fun _ h => by cases h⟩
    | some ad => exact Src.ofSlice w ht ad 0 c [] (by simp) (by simp) (fun _ h => by cases h)
  · obtain ⟨b1, o1, rfl, hb1, hc⟩ := hn hz0
    refine wp_append_own w s x t ho base e i z 1 bytes ht hi hz hsize hby hzs (by decide) v L.length _ hs hown ⟨b1, o1, none⟩ zs.length c (zs.map (Value.int k)) hx (by simp) (fun j u hj => ?_) (fun u hu => by obtain ⟨y, _, rfl⟩ := List.mem_map.1 hu; rfl) h63 hbytes hbase fun v' w' h1 h2 _ => h v' w' h1 h2
    rw [List.getElem?_map] at hj
    obtain ⟨y, hy, rfl⟩ := Option.map_eq_some_iff.1 hj
    rw [Addr.add_lit]
    exact hc j y hy

section
variable {e : TypeId} {k : IntKind} {w w1 w2 : World} {L zs : List Int} {v v' : Value}
theorem MadeK.more (h : MadeK e k w w1 L v) (hown : w2.ownsRow w.heap.size e 1 v' (L.length + zs.length) (L.map (Value.int k) ++ zs.map (Value.int k))) (hg : w1.grownBy w2 v.ownBlock) : MadeK e k w w2 (L ++ zs) v' :=
  ⟨by simpa using hown, h.2.grown hg (by have := h.2.size; omega) (fun g hk => (h.own_ge hk).1)⟩
/-- an empty literal -/
theorem MadeK.lit (e : TypeId) (k : IntKind) (h : Below w.heap.size w w1) : MadeK e k w (w1.alloc (.cells #[] e)) [] (.slice (some ⟨w1.heap.size, 0, none⟩) 0 0) :=
  ⟨World.ownsRow_made w1 #[] 0 h.size (Nat.zero_le _) rfl, h.alloc h.size _⟩
theorem MadeK.lit' {s : Nat} (e : TypeId) (k : IntKind) (hs : w1.heap.size = s) (h : Below w.heap.size w w1) : MadeK e k w (w1.alloc (.cells #[] e)) [] (.slice (some ⟨s, 0, none⟩) 0 0) := by
  subst hs; exact MadeK.lit e k h
/-- a store elsewhere, above -/
theorem MadeK.store {q : Addr} (h : MadeK e k w w1 L v) (hq : ∀ g, v.ownBlock = some g → g ≠ q.block) (hw : w.heap.size ≤ q.block) (u : Value) : MadeK e k w (w1.setCell q u) L v := by
  refine ⟨h.1.kept (row := some q.block) ⟨rfl, rfl, rfl, by simp [World.setCell], fun j _ hj => Below.heap_setCell _ _ _ _ (fun e => hj (by rw [e]))⟩ ?_, h.2.setCell hw u⟩
  right
  intro he
  exact hq _ he rfl
theorem MadeK.since {w0 : World} (h : MadeK e k w w1 L v) (hb : Below w0.heap.size w0 w) : MadeK e k w0 w1 L v := by
  have hs := hb.size
  refine ⟨⟨h.1.1, ?_⟩, hb.trans (h.2.mono hs)⟩
  rcases h.1.2 with h | ⟨g, cap, cur, hv, hg, rest⟩
  · exact .inl h
  · exact .inr ⟨g, cap, cur, hv, by omega, rest⟩
/-- the block of what was made -/
theorem MadeK.ge {A : Option Addr} {n c : Nat} (h : MadeK e k w w1 L (.slice A n c)) {q : Nat} (hq : blockOf A q) : w.heap.size ≤ q := by
  obtain ⟨o, s, rfl⟩ := hq
  exact (h.own_ge (g := q) rfl).1
end
end Go.Proofs.YtmmffifndheafaaDoor

namespace Go.Proofs.YtmmffifndheafaaDoor
open Go.RowKit
set_option maxRecDepth 100000

theorem made_later {w w1 w2 : World} {L : List Int} {v : Value} (h1 : w2.ownsRow w1.heap.size 5 1 v L.length (L.map (Value.int .u8))) (h2 : Below w1.heap.size w1 w2) (hb : Below w.heap.size w w1) : Made w w2 L v := by
  have hs := hb.size
  refine ⟨⟨h1.1, ?_⟩, hb.trans (h2.mono hs)⟩
  rcases h1.2 with h | ⟨g, cap, cur, hv, hg, rest⟩
  · exact .inl h
  · exact .inr ⟨g, cap, cur, hv, by omega, rest⟩

/-- so many bytes of a number, the lowest ones first -/
def wordL (n : Int) : Nat → List Int
  | 0 => []
  | k + 1 => n % 256 :: wordL (n / 256) k
theorem wordL_length (n : Int) (k : Nat) : (wordL n k).length = k := by
  induction k generalizing n with
  | zero => rfl
  | succ k ih => simp [wordL, ih]
set_option maxHeartbeats 800000 in
theorem word_any (n : Int) (size : Nat) (w : World) (h0 : 0 ≤ n) (h1 : n ≤ 4294967295) (hs : size ≤ 1000) :
    Calls Tryd.prog 25 #[.int .u32 n, .int .i64 size] w fun e w' => ∃ v, e = .returned v ∧ Made w w' (wordL n size) v := by
  obtain ⟨i0, hi, hz0, hz1, hz2⟩ := info_parts byteInfo
  go_enter Tryd.func25, Tryd.ntmps25
  go_wp2
  go_loopw [0, 5, 6] (fun x v i wr => ∃ (k j : Nat) (L : List Int) (y : Int), k + j = size ∧ i = .int .i64 k ∧ 0 ≤ y ∧ y ≤ 4294967295 ∧ x = .int .u32 y ∧ Hid (L ++ wordL y j = wordL n size) ∧ L.length = k ∧ Made w wr L v) (fun _ _ i _ => size - (intOf i).toNat)
  case atStart => exact ⟨0, size, [], n, by omega, rfl, h0, h1, rfl, rfl, rfl, Made.nil w⟩
  case round =>
    obtain ⟨k, j, L, y, hkj, rfl, hy0, hy1, rfl, HE, hL, hm⟩ := hrel
    cases j with
    | zero =>
      go_wp2
      go_ret
      have he := HE.out
      simp [wordL] at he
      subst he
      exact ⟨_, rfl, hm⟩
    | succ j =>
      subst hL
      have hlt : L.length < size := by omega
      have hsz := hm.2.size
      go_wp2_with (at_builtin; refine wpList_append_own _ rfl _ _ 25 rfl w.heap.size 5 i0 (.int .u8 0) 1 1 Tryd.underlying25 hi hz0 hz1 hz2 rfl (by decide) _ _ _ rfl (hm.1.alloc _) ⟨wr.heap.size, 0, none⟩ 1 1 [_] rfl rfl (cell_one_new _ _ _) ?c2 ?c3 ?c4 ?c5 ?_)
      case c2 => intro u hu; simp at hu; subst hu; rfl
      case c3 => unfold maxLen; omega
      case c4 => omega
      case c5 => simp; omega
      intro v' w1 hown' hgrow _
      have HM := Lib.hid (hm.app hown' hgrow rfl)
      clear hown' hgrow hm
      go_wp2
      go_roundw
      case rel => exact ⟨L.length + 1, j, L ++ [y % 256], y / 256, by omega, by go_num, by omega, by omega, rfl, by have := HE.out; simpa [Hid, wordL] using this, by simp, HM.out⟩
      case measure => simp [intOf]; omega
end Go.Proofs.YtmmffifndheafaaDoor
