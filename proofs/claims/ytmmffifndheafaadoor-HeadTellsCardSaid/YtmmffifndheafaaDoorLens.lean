/-
  A lens in memory, and the contracts of what makes it and of what only looks at it: New, Left, Place, Err, End, part, slices.Clone.
-/
import Derived.Test.YtmmffifndheafaaDoorIn
import Derived.Test.YtmmffifndheafaaDoorPut
import Derived.WalkSpells
import Derived.Lib.SliceRun
import Derived.Deep.OwnRows
namespace Go.Proofs.YtmmffifndheafaaDoor
open Go.RowKit Go.Deep
set_option maxRecDepth 100000

/-- block b is a lens of the bytes zs, at place p, with error e; its bytes lie in a block from lo on, below b -/
def LensAt (w : World) (lo b : Nat) (zs : List Int) (p e : Nat) : Prop :=
  ∃ A cap, w.heap[b]? = some (.cells #[.slice A zs.length cap, .int .i64 p, .int .i64 e] 63 (0, 0)) ∧ NumsIn .u8 w lo b A zs ∧ zs.length ≤ cap ∧ p ≤ zs.length ∧ lo ≤ b
section
variable {w w' : World} {lo b : Nat} {zs : List Int} {p e p' e' : Nat}
theorem LensAt.lt (h : LensAt w lo b zs p e) : b < w.heap.size := by
  obtain ⟨A, cap, hb, _⟩ := h
  exact (Array.getElem?_eq_some_iff.1 hb).1
theorem LensAt.lo_le (h : LensAt w lo b zs p e) : lo ≤ b := by
  obtain ⟨A, cap, _, _, _, _, h⟩ := h
  exact h
theorem LensAt.place (h : LensAt w lo b zs p e) : p ≤ zs.length := by
  obtain ⟨A, cap, _, _, _, h, _⟩ := h
  exact h
theorem LensAt.keeps (h : LensAt w lo b zs p e) (hk : Keeps lo (b + 1) w w') : LensAt w' lo b zs p e := by
  obtain ⟨A, cap, hb, hn, h1, h2, h3⟩ := h
  exact ⟨A, cap, (hk.2 b h3 (Nat.lt_succ_self b)).trans hb, hn.keeps ⟨hk.1, fun k h4 h5 => hk.2 k h4 (by omega)⟩, h1, h2, h3⟩
theorem LensAt.below (h : LensAt w lo b zs p e) (hb : Below w.heap.size w w') : LensAt w' lo b zs p e := by
  have hl := h.lt
  exact h.keeps ⟨hb.size, fun k _ h2 => hb.block k (by omega)⟩
theorem LensAt.off {S : Nat → Prop} (h : LensAt w lo b zs p e) (hf : Off S w w') (hS : ∀ k, lo ≤ k → k ≤ b → ¬ S k) : LensAt w' lo b zs p e := by
  have hl := h.lt
  exact h.keeps ⟨hf.size, fun k h1 h2 => hf.block k (by omega) (hS k h1 (by omega))⟩
theorem LensAt.open (h : LensAt w lo b zs p e) : ∃ A cap, w.heap[b]? = some (.cells #[.slice A zs.length cap, .int .i64 p, .int .i64 e] 63 (0, 0)) ∧ w.cell? ⟨b, 0, none⟩ = some (.slice A zs.length cap) ∧ w.cell? ⟨b, 1, none⟩ = some (.int .i64 p) ∧ w.cell? ⟨b, 2, none⟩ = some (.int .i64 e) ∧
    w.frozen? ⟨b, 1, none⟩ = false ∧ w.frozen? ⟨b, 2, none⟩ = false ∧ NumsIn .u8 w lo b A zs ∧ zs.length ≤ cap ∧ p ≤ zs.length ∧ lo ≤ b := by
  obtain ⟨A, cap, hb, hn, h1, h2, h3⟩ := h
  exact ⟨A, cap, hb, by simp [World.cell?, hb], by simp [World.cell?, hb], by simp [World.cell?, hb], by simp [World.frozen?, hb], by simp [World.frozen?, hb], hn, h1, h2, h3⟩
/-- its place moves -/
theorem LensAt.move (h : LensAt w lo b zs p e) (hp : p' ≤ zs.length) : LensAt (w.setCell ⟨b, 1, none⟩ (.int .i64 p')) lo b zs p' e := by
  obtain ⟨A, cap, hb, hn, h1, h2, h3⟩ := h
  refine ⟨A, cap, by rw [setCell_at hb]; simp, hn.keeps ⟨by simp [World.setCell], fun k h4 h5 => Below.heap_setCell _ _ _ _ (by simp; omega)⟩, h1, hp, h3⟩
/-- it has an error -/
theorem LensAt.fail (h : LensAt w lo b zs p e) (e' : Nat) : LensAt (w.setCell ⟨b, 2, none⟩ (.int .i64 e')) lo b zs p e' := by
  obtain ⟨A, cap, hb, hn, h1, h2, h3⟩ := h
  refine ⟨A, cap, by rw [setCell_at hb]; simp, hn.keeps ⟨by simp [World.setCell], fun k h4 h5 => Below.heap_setCell _ _ _ _ (by simp; omega)⟩, h1, h2, h3⟩
end

/-- slices.Clone of bytes -/
theorem cloneK_any (a : Option Addr) (n cap : Nat) (zs : List Int) (w : World) (hn : zs.length = n) (hl : n ≤ 1000000000) (h1 : Nums .u8 w w.heap.size a zs) :
    Calls Tryd.prog 29 #[.slice a n cap] w fun e w' => ∃ v, e = .returned v ∧ MadeK 5 .u8 w w' zs v := by
  subst hn
  obtain ⟨i0, hi, hz0, hz1, hz2⟩ := info_parts byteInfo
  cases a with
  | none =>
    have : zs = [] := by
      apply Classical.byContradiction
      intro hn
      obtain ⟨b, off, e, _⟩ := h1 hn
      cases e
    subst this
    have hq := fun w => Lib.run_eql_slice_nil (P := Tryd.prog) w 25 5 none 0 cap 0 0 Tryd.underlying25
    go_enter Tryd.func29, Tryd.ntmps29
    go_wp2
    go_ret
    exact ⟨_, rfl, MadeK.nil _ _ (Below.refl _ _)⟩
  | some x =>
    have hq := fun w => Lib.run_eql_slice_nil (P := Tryd.prog) w 25 5 (some x) zs.length cap 0 0 Tryd.underlying25
    have hnews : ∀ j u, (zs.map (Value.int .u8))[j]? = some u → (w.alloc (.cells #[] 5)).cell? (x.add j) = some u := by
      intro j u hj
      rw [List.getElem?_map] at hj
      cases hc : zs[j]? with
      | none => rw [hc] at hj; simp at hj
      | some c =>
        rw [hc] at hj
        simp only [Option.map_some, Option.some.injEq] at hj
        subst hj
        obtain ⟨b, off, e, hb, hcell⟩ := h1.open hc
        injection e with e
        subst e
        have := (World.cell?_alloc_lt w (.cells #[] 5) ⟨b, off + j, none⟩ hb).trans hcell
        by_cases h0 : j = 0
        · subst h0; simpa [Addr.add] using this
        · simpa [Addr.add, h0] using this
    have hown : (w.alloc (.cells #[] 5)).ownsRow w.heap.size 5 1 (.slice (some ⟨w.heap.size, 0, none⟩) 0 0) 0 [] :=
      ⟨rfl, .inr ⟨w.heap.size, 0, #[], rfl, Nat.le_refl _, heap_alloc_new w _, Nat.le_refl _, by simp, rfl, rfl⟩⟩
    go_enter Tryd.func29, Tryd.ntmps29
    go_wp2_with (at_builtin; refine wpList_append_own _ rfl (.tmp 5) (.tmp 6) 25 rfl w.heap.size 5 i0 (.int .u8 0) 1 1 Tryd.underlying25 hi hz0 hz1 hz2 rfl (by decide) _ _ _ rfl hown x zs.length cap (zs.map (Value.int .u8)) rfl (by simp) hnews ?_ ?_ ?_ ?_ ?_; (intro u hu; simp at hu; obtain ⟨c, _, rfl⟩ := hu; rfl); (unfold maxLen; omega); omega; (simp); intro v' w1 hown1 hgrow1 _)
    go_ret
    refine ⟨_, rfl, by simpa using hown1, ?_⟩
    exact ((Below.refl w.heap.size w).alloc (Nat.le_refl _) _).grown hgrow1 (by simp) (fun g hk => by have hk : some w.heap.size = some g := hk; injection hk with hk; omega)

theorem lens_new (w w1 : World) (zs : List Int) (A : Option Addr) (c : Nat) (h : MadeK 5 .u8 w w1 zs (.slice A zs.length c)) (hc : zs.length ≤ c) :
    LensAt (w1.alloc (.cells #[.slice A zs.length c, .int .i64 0, .int .i64 0] 63)) w.heap.size w1.heap.size zs 0 0 :=
  ⟨A, c, heap_alloc_new w1 _, h.numsIn.keeps (Keeps.of_below ((Below.refl _ w1).alloc (Nat.le_refl _) _)), hc, Nat.zero_le _, h.2.size⟩
theorem lnew_any (a : Option Addr) (n cap : Nat) (zs : List Int) (w : World) (hn : zs.length = n) (hl : n ≤ 1000000000) (h1 : Nums .u8 w w.heap.size a zs) :
    Calls Tryd.prog 22 #[.slice a n cap] w fun e w' => ∃ b, e = .returned (.pointer (some ⟨b, 0, none⟩)) ∧ LensAt w' w.heap.size b zs 0 0 ∧ Below w.heap.size w w' := by
  subst hn
  have HC := cloneK_any a _ cap zs w rfl hl h1
  clear h1
  go_enter Tryd.func22, Tryd.ntmps22
  go_wp2_with (go_at_call 29; refine HC.mono ?_; rintro e w1 ⟨v, rfl, hm⟩; obtain ⟨A, c, rfl, hc, _⟩ := hm.slice; have HM := Lib.hid hm; clear hm)
  go_ret
  exact ⟨_, rfl, lens_new w w1 zs A c HM.out hc, HM.out.2.alloc HM.out.2.size _⟩

section
variable (lo b : Nat) (zs : List Int) (p e : Nat) (w : World)
theorem lerr_any (h : LensAt w lo b zs p e) : Calls Tryd.prog 45 #[.pointer (some ⟨b, 0, none⟩)] w fun r w' => r = .returned (.int .i64 e) ∧ w = w' := by
  obtain ⟨A, cap, _, c0, c1, c2, _⟩ := h.open
  clear h
  go_enter Tryd.func45, Tryd.ntmps45
  go_wp2
  go_ret
  exact ⟨rfl, rfl⟩
/-- what End tells -/
def endOf (zs : List Int) (p e : Nat) : Nat := if e ≠ 0 then e else if p < zs.length then 3 else 0
end

theorem lerr_nil (w : World) : Calls Tryd.prog 45 #[.pointer none] w fun r w' => r = .returned (.int .i64 1) ∧ w = w' := by
  go_enter Tryd.func45, Tryd.ntmps45
  go_wp2
  go_ret
  exact ⟨rfl, rfl⟩
/-- the first n bytes -/
theorem part_ok (a : Option Addr) (len cap : Nat) (n : Int) (w : World) (h0 : 0 ≤ n) (h1 : n ≤ len) (hc : len ≤ cap) :
    Calls Tryd.prog 38 #[.slice a len cap, .int .i64 n] w fun e w' => e = .returned (.tuple #[.slice a n.toNat n.toNat, .int .i64 0]) ∧ w = w' := by
  have h2 : ¬ (len : Int) < n := by omega
  have h3 : ¬ n < 0 := by omega
  have h4 : n ≤ (cap : Int) := by omega
  go_enter Tryd.func38, Tryd.ntmps38
  go_wp2
  go_ret2
  exact ⟨by simp, rfl⟩
theorem part_neg (a : Option Addr) (len cap : Nat) (n : Int) (w : World) (h0 : n < 0) :
    Calls Tryd.prog 38 #[.slice a len cap, .int .i64 n] w fun e w' => e = .returned (.tuple #[.slice none 0 0, .int .i64 5]) ∧ w = w' := by
  go_enter Tryd.func38, Tryd.ntmps38
  go_wp2
  go_ret2
  exact ⟨rfl, rfl⟩
theorem part_more (a : Option Addr) (len cap : Nat) (n : Int) (w : World) (h1 : (len : Int) < n) :
    Calls Tryd.prog 38 #[.slice a len cap, .int .i64 n] w fun e w' => e = .returned (.tuple #[.slice none 0 0, .int .i64 4]) ∧ w = w' := by
  have h3 : ¬ n < 0 := by omega
  go_enter Tryd.func38, Tryd.ntmps38
  go_wp2
  go_ret2
  exact ⟨rfl, rfl⟩
end Go.Proofs.YtmmffifndheafaaDoor
