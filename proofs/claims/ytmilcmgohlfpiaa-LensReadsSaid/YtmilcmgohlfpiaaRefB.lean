/-
  Contracts of the document's Raw and Field of layer 3.
-/
import Derived.Test.YtmilcmgohlfpiaaRef3
import Derived.Test.YtmilcmgohlfpiaaApp
namespace Go.Proofs.Ytmilcmgohlfpiaa
open Go.RowKit
set_option maxRecDepth 100000

/-- what the document's read of bytes answers -/
def RefB (A : Option Addr) (n c p e : Nat) (y : List Int × Nat × Nat) (w : World) (r : Ending) (w' : World) : Prop :=
  ∃ A2 c2, r = .returned (.tuple #[RefL A n c (placeOf p e y.2.1) (errOf e y.2.2), .slice A2 (ansB e y.1).length c2]) ∧ NumsIn .u8 w' w.heap.size w'.heap.size A2 (ansB e y.1) ∧ Below w.heap.size w w'
section
variable {A : Option Addr} {n c p e : Nat} {y : List Int × Nat × Nat} {w w1 w' : World}
theorem RefB.err (he : e ≠ 0) (hb : Below w.heap.size w w') : RefB A n c p e y w (.returned (.tuple #[RefL A n c p e, .slice none 0 0])) w' :=
  ⟨none, 0, by simp [placeOf, errOf, ansB, he], fun hn => absurd (by simp [ansB, he]) hn, hb⟩
theorem RefB.bad (h0 : y.1 = []) (h1 : y.2.1 = 0) (hb : Below w.heap.size w w') : RefB A n c p 0 y w (.returned (.tuple #[RefL A n c p y.2.2, .slice none 0 0])) w' :=
  ⟨none, 0, by simp [placeOf, errOf, ansB, h0, h1], fun hn => absurd (by simp [ansB, h0]) hn, hb⟩
theorem RefB.ok {q : Int} {A2 : Option Addr} {m c2 : Nat} (h0 : y.2.2 = 0) (hq : q = ((p + y.2.1 : Nat) : Int)) (hm : m = y.1.length) (hn : NumsIn .u8 w' w.heap.size w'.heap.size A2 y.1) (hb : Below w.heap.size w w') :
    RefB A n c p 0 y w (.returned (.tuple #[.agg #[.slice A n c, .int .i64 q, .int .i64 0], .slice A2 m c2])) w' := by
  subst hq hm
  exact ⟨A2, c2, by simp [placeOf, errOf, ansB, h0], by simpa [ansB] using hn, hb⟩
end
/-- the lens's block, once its place has moved, and the block of the result -/
structure RawB (b0 b1 : Nat) (A : Option Addr) (n c p e : Nat) (w : World) : Prop where
  c0 : w.cell? ⟨b0, 0, none⟩ = some (.slice A n c)
  c1 : w.cell? ⟨b0, 1, none⟩ = some (.int .i64 p)
  c2 : w.cell? ⟨b0, 2, none⟩ = some (.int .i64 e)
  f1 : w.frozen? ⟨b0, 1, none⟩ = false
  m0 : ∀ q, (w.setCell ⟨b0, 1, none⟩ q).cell? ⟨b0, 0, none⟩ = some (.slice A n c)
  m1 : ∀ q, (w.setCell ⟨b0, 1, none⟩ q).cell? ⟨b0, 1, none⟩ = some q
  m2 : ∀ q, (w.setCell ⟨b0, 1, none⟩ q).cell? ⟨b0, 2, none⟩ = some (.int .i64 e)
  d0 : ∀ q, (w.setCell ⟨b0, 1, none⟩ q).cell? ⟨b1, 0, none⟩ = some (.slice none 0 0)
  d1 : ∀ q, (w.setCell ⟨b0, 1, none⟩ q).cell? ⟨b1, 1, none⟩ = some (.int .i64 (0 : Nat))
  d2 : ∀ q, (w.setCell ⟨b0, 1, none⟩ q).cell? ⟨b1, 2, none⟩ = some (.int .i64 (0 : Nat))
  g0 : ∀ q, (w.setCell ⟨b0, 1, none⟩ q).frozen? ⟨b1, 0, none⟩ = false
  g1 : ∀ q, (w.setCell ⟨b0, 1, none⟩ q).frozen? ⟨b1, 1, none⟩ = false
  g2 : ∀ q, (w.setCell ⟨b0, 1, none⟩ q).frozen? ⟨b1, 2, none⟩ = false
  k0 : ∀ q v0 v1 v2, ((((w.setCell ⟨b0, 1, none⟩ q).setCell ⟨b1, 0, none⟩ v0).setCell ⟨b1, 1, none⟩ v1).setCell ⟨b1, 2, none⟩ v2).cell? ⟨b1, 0, none⟩ = some v0
  k1 : ∀ q v0 v1 v2, ((((w.setCell ⟨b0, 1, none⟩ q).setCell ⟨b1, 0, none⟩ v0).setCell ⟨b1, 1, none⟩ v1).setCell ⟨b1, 2, none⟩ v2).cell? ⟨b1, 1, none⟩ = some v1
  k2 : ∀ q v0 v1 v2, ((((w.setCell ⟨b0, 1, none⟩ q).setCell ⟨b1, 0, none⟩ v0).setCell ⟨b1, 1, none⟩ v1).setCell ⟨b1, 2, none⟩ v2).cell? ⟨b1, 2, none⟩ = some v2
theorem rawB_of {w w2 : World} {A : Option Addr} {n c p e : Nat} (hb : Below ((w.alloc (RefC A n c p e)).alloc (RefC none 0 0 0 0)).heap.size ((w.alloc (RefC A n c p e)).alloc (RefC none 0 0 0 0)) w2) : RawB w.heap.size (w.heap.size + 1) A n c p e w2 := by
  have h0 : ((w.alloc (RefC A n c p e)).alloc (RefC none 0 0 0 0)).heap[w.heap.size]? = some (.cells #[.slice A n c, .int .i64 p, .int .i64 e] 27 (0, 0)) := by
    rw [two_blocks]; exact heap_alloc_new w _
  have h1 : ((w.alloc (RefC A n c p e)).alloc (RefC none 0 0 0 0)).heap[w.heap.size + 1]? = some (.cells #[.slice none 0 0, .int .i64 (0 : Nat), .int .i64 (0 : Nat)] 27 (0, 0)) := by
    have := heap_alloc_new (w.alloc (RefC A n c p e)) (RefC none 0 0 0 0)
    rwa [World.size_alloc] at this
  have a0 := (hb.block _ (by simp; omega)).trans h0
  have a1 := (hb.block _ (by simp)).trans h1
  have s0 : ∀ q, (w2.setCell ⟨w.heap.size, 1, none⟩ q).heap[w.heap.size]? = some (.cells #[.slice A n c, q, .int .i64 e] 27 (0, 0)) := fun q => by rw [setCell_at a0]; rfl
  have s1 : ∀ q, (w2.setCell ⟨w.heap.size, 1, none⟩ q).heap[w.heap.size + 1]? = some (.cells #[.slice none 0 0, .int .i64 (0 : Nat), .int .i64 (0 : Nat)] 27 (0, 0)) := fun q => (Below.heap_setCell _ _ _ _ (by simp)).trans a1
  have R := fun q => resB_of (s1 q)
  exact ⟨by simp [World.cell?, a0], by simp [World.cell?, a0], by simp [World.cell?, a0], by simp [World.frozen?, a0], fun q => by simp [World.cell?, s0 q], fun q => by simp [World.cell?, s0 q], fun q => by simp [World.cell?, s0 q],
    fun q => by simp [World.cell?, s1 q], fun q => by simp [World.cell?, s1 q], fun q => by simp [World.cell?, s1 q], fun q => (R q).f0, fun q => (R q).f1, fun q => (R q).f2, fun q => (R q).k0, fun q => (R q).k1, fun q => (R q).k2⟩
theorem below_set4 {w w2 : World} {b0 b : Nat} {q v0 v1 v2 : Value} (h : Below w.heap.size w w2) (h0 : w.heap.size ≤ b0) (hb : w.heap.size ≤ b) : Below w.heap.size w ((((w2.setCell ⟨b0, 1, none⟩ q).setCell ⟨b, 0, none⟩ v0).setCell ⟨b, 1, none⟩ v1).setCell ⟨b, 2, none⟩ v2) :=
  below_set3 (h.setCell (p := ⟨b0, 1, none⟩) h0 _) hb
theorem nums_set4 {k : IntKind} {w2 : World} {lo s b0 b : Nat} {q v0 v1 v2 : Value} {a : Option Addr} {zs : List Int} (h : NumsIn k w2 s w2.heap.size a zs) (h0 : b0 < s) (hb : b < s) (hlo : lo ≤ s) :
    NumsIn k ((((w2.setCell ⟨b0, 1, none⟩ q).setCell ⟨b, 0, none⟩ v0).setCell ⟨b, 1, none⟩ v1).setCell ⟨b, 2, none⟩ v2) lo ((((w2.setCell ⟨b0, 1, none⟩ q).setCell ⟨b, 0, none⟩ v0).setCell ⟨b, 1, none⟩ v1).setCell ⟨b, 2, none⟩ v2).heap.size a zs := by
  have hs : ((((w2.setCell ⟨b0, 1, none⟩ q).setCell ⟨b, 0, none⟩ v0).setCell ⟨b, 1, none⟩ v1).setCell ⟨b, 2, none⟩ v2).heap.size = w2.heap.size := by simp [World.setCell]
  rw [hs]
  refine (h.keeps ⟨by rw [hs]; exact Nat.le_refl _, fun k h1 _ => ?_⟩).lower hlo
  rw [Below.heap_setCell _ _ _ _ (by simp; omega), Below.heap_setCell _ _ _ _ (by simp; omega), Below.heap_setCell _ _ _ _ (by simp; omega), Below.heap_setCell _ _ _ _ (by simp; omega)]

set_option maxHeartbeats 1000000 in
theorem rraw_any (A : Option Addr) (n c p e : Nat) (l : List Int) (m : Int) (w : World) (hn : l.length = n) (hcn : n ≤ c) (hl : n ≤ 1000000000) (hp : p ≤ n) (h1 : Nums .u8 w w.heap.size A l) :
    Calls Try.prog 17 #[RefL A n c p e, .int .i64 m] w fun r w' => RefB A n c p e (rawR (l.drop p) m) w r w' := by
  obtain ⟨i0, hi, hz0, hz1, hz2⟩ := info_parts byteInfo
  by_cases he : e = 0
  · subst he
    have HF := fun e' w => rfail_any A n c p 0 e' w
    have hdl : (l.drop p).length = n - p := by rw [List.length_drop, hn]
    by_cases hneg : m < 0
    · have HR : Hid (rawR (l.drop p) m = ([], 0, 5)) := by show _ = _; unfold rawR; rw [if_pos hneg]
      clear h1
      go_enter Try.func17, Try.ntmps17
      go_wp2_with (go_at_call 42; refine (HF 5 _).mono ?_; rintro e w1 ⟨rfl, hb⟩; obtain ⟨d0, d1, d2, hrb, hbb⟩ := ref_blocks A n c p 0 w rfl hb; obtain ⟨_, g0, g1, g2, k0, k1, k2⟩ := hrb; have HB := Lib.hid hbb; clear hb hbb)
      refine bodyPost_ret (by simp [results, Try.results17, go_sem, k0, k1, k2]; try rfl) rfl ?_
      exact by rw [HR.out]; exact RefB.bad rfl rfl (below_set3 HB.out (by omega))
    · by_cases hmore : (n : Int) - p < m
      · have HR : Hid (rawR (l.drop p) m = ([], 0, 4)) := by show _ = _; unfold rawR; rw [if_neg hneg, if_pos (by rw [hdl]; omega)]
        clear h1
        go_enter Try.func17, Try.ntmps17
        go_wp2_with (go_at_call 42; refine (HF 4 _).mono ?_; rintro e w1 ⟨rfl, hb⟩; obtain ⟨d0, d1, d2, hrb, hbb⟩ := ref_blocks A n c p 0 w rfl hb; obtain ⟨_, g0, g1, g2, k0, k1, k2⟩ := hrb; have HB := Lib.hid hbb; clear hb hbb)
        refine bodyPost_ret (by simp [results, Try.results17, go_sem, k0, k1, k2]; try rfl) rfl ?_
        exact by rw [HR.out]; exact RefB.bad rfl rfl (below_set3 HB.out (by omega))
      · have HR : Hid (rawR (l.drop p) m = ((l.drop p).take m.toNat, m.toNat, 0)) := by show _ = _; unfold rawR; rw [if_neg hneg, if_neg (by rw [hdl]; omega)]
        obtain ⟨k, rfl⟩ := Int.eq_ofNat_of_zero_le (show 0 ≤ m by omega)
        rw [Int.toNat_natCast] at HR
        have hd := (h1.drop (i := p) (cap := c) (by omega)).take k
        obtain ⟨A', hA'⟩ : ∃ A', (if c = p then A else Option.map (fun x => x.add p) A) = A' := ⟨_, rfl⟩
        rw [hA'] at hd
        obtain ⟨wb, hwb⟩ : ∃ wb, wb = (w.alloc (RefC A n c p 0)).alloc (RefC none 0 0 0 0) := ⟨_, rfl⟩
        have hbb : Below w.heap.size w wb := by rw [hwb]; exact ((Below.refl _ w).alloc (Nat.le_refl _) _).alloc (by simp) _
        have hsb : wb.heap.size = w.heap.size + 1 + 1 := by rw [hwb]; simp
        have hLit := MadeK.lit' (w := wb) (w1 := wb) 5 .u8 hsb (Below.refl _ _)
        have hD := (hd.below hbb).below ((Below.refl _ wb).alloc (B := w.heap.size) hbb.size (.cells #[] 5))
        have hlen : ((l.drop p).take k).length = k := by rw [List.length_take, hdl]; omega
        rw [hwb] at hLit hD
        have HLit := Lib.hid hLit
        have HD := Lib.hid hD
        have HBB := Lib.hid hbb
        have HSB := Lib.hid hsb
        have HWB := Lib.hid hwb
        have HK : Hid (((l.drop p).take k).length = p + k - p) := by show _ = _; rw [hlen]; omega
        have hkn : k ≤ n := by omega
        have g1 : (p : Int) + (k : Int) ≤ (c : Int) := by omega
        have g2 : (p : Int) + (k : Int) - (p : Int) = (k : Int) := by omega
        have g3 : p + k - p = k := by omega
        clear h1 hd hD hLit hbb hsb hwb hdl hlen
        go_enter Try.func17, Try.ntmps17
        go_wp2_with (at_builtin; refine wpList_append_any rfl (.tmp 25) (.tmp 34) 22 rfl _ 5 i0 (.int .u8 0) 1 Try.underlying22 hi hz0 hz1 hz2 rfl .u8 [] ((l.drop p).take k) _ rfl HLit.out.1 A' (p + k - p) (c - p) _ rfl HK.out HD.out ?c1 ?c2 HLit.out.2.size ?_; rotate_left 2; intro v1 w1 hown hg; have HM1 : Hid (MadeK 5 .u8 wb w1 ((l.drop p).take k) v1) := (by have h := HLit.out.more hown hg; rwa [← HWB.out, List.nil_append] at h); clear hown hg HLit HD; obtain ⟨A2, c2, rfl, _, _⟩ := HM1.out.slice; have RB := rawB_of (w := w) (A := A) (n := n) (c := c) (p := p) (e := 0) (HWB.out ▸ HM1.out.2); obtain ⟨x0, x1, x2, x3, m0, m1, m2, d0, d1, d2, g0', g1', g2', k0, k1, k2⟩ := RB)
        · refine bodyPost_ret (by simp [results, Try.results17, go_sem, k0, k1, k2]; try rfl) rfl ?_
          rw [HR.out]
          exact RefB.ok rfl (Int.natCast_add p k).symm (by simp [hn]) (nums_set4 (lo := w.heap.size) HM1.out.numsIn (by rw [HSB.out]; omega) (by rw [HSB.out]; omega) HBB.out.size) (below_set4 (HBB.out.trans (HM1.out.2.mono HBB.out.size)) (Nat.le_refl _) (Nat.le_succ _))
        all_goals first
          | (unfold maxLen; omega)
          | ((try simp only [List.length_nil]); (try unfold maxLen); omega)
  · have h3 : ¬ (e : Int) = 0 := by omega
    have h4 : ((e : Int) != 0) = true := by simp; omega
    go_enter Try.func17, Try.ntmps17
    go_wp2
    go_returns
    exact RefB.err he (((Below.refl _ w).alloc (Nat.le_refl _) _).alloc (by simp) _)
end Go.Proofs.Ytmilcmgohlfpiaa
