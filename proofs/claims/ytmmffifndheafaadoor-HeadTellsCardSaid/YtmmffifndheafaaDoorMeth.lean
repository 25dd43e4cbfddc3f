/-
  Contracts of a lens's reads: word, U8, U16, U32, Number, Signed, Raw, Field, Rest.
-/
import Derived.Test.YtmmffifndheafaaDoorRdA
import Derived.Test.YtmmffifndheafaaDoorRdB
import Derived.Test.YtmmffifndheafaaDoorRdW
import Derived.Test.YtmmffifndheafaaDoorWordC
namespace Go.Proofs.YtmmffifndheafaaDoor
open Go.RowKit
set_option maxRecDepth 100000

/-- place and error behind a read -/
def placeOf (p e : Nat) (size : Nat) : Nat := if e = 0 then p + size else p
def errOf (e err : Nat) : Nat := if e = 0 then err else e
def ansI (e : Nat) (x : Int) : Int := if e = 0 then x else 0
def ansB (e : Nat) (L : List Int) : List Int := if e = 0 then L else []
/-- what a read that answers a number leaves -/
def ReadI (k : IntKind) (lo b : Nat) (zs : List Int) (p e : Nat) (x : Int × Nat × Nat) (w : World) (r : Ending) (w' : World) : Prop :=
  r = .returned (.int k (ansI e x.1)) ∧ LensAt w' lo b zs (placeOf p e x.2.1) (errOf e x.2.2) ∧ Off (fun j => j = b) w w'
/-- what a read that answers bytes leaves -/
def ReadB (lo b : Nat) (zs : List Int) (p e : Nat) (x : List Int × Nat × Nat) (w : World) (r : Ending) (w' : World) : Prop :=
  (∃ A c, r = .returned (.slice A (ansB e x.1).length c) ∧ (ansB e x.1).length ≤ c ∧ NumsIn .u8 w' w.heap.size w'.heap.size A (ansB e x.1)) ∧ LensAt w' lo b zs (placeOf p e x.2.1) (errOf e x.2.2) ∧ Off (fun j => j = b) w w'

section
variable {k : IntKind} {lo b : Nat} {zs : List Int} {p e : Nat} {x : Int × Nat × Nat} {y : List Int × Nat × Nat} {w w0 w' : World} {r : Ending}
theorem ReadI.later (h : ReadI k lo b zs p e x w r w') (hb : Below w0.heap.size w0 w) : ReadI k lo b zs p e x w0 r w' :=
  ⟨h.1, h.2.1, (Off.of_below hb).trans h.2.2 fun _ _ h => h⟩
theorem ReadB.later (h : ReadB lo b zs p e y w r w') (hb : Below w0.heap.size w0 w) : ReadB lo b zs p e y w0 r w' := by
  obtain ⟨⟨A, c, h1, h2, h3⟩, h4, h5⟩ := h
  exact ⟨⟨A, c, h1, h2, h3.lower hb.size⟩, h4, (Off.of_below hb).trans h5 fun _ _ h => h⟩
theorem ReadI.err (h : LensAt w lo b zs p e) (he : e ≠ 0) : ReadI k lo b zs p e x w (.returned (.int k 0)) w :=
  ⟨by simp [ansI, he], by simpa [placeOf, errOf, he] using h, Off.refl _ _⟩
theorem ReadB.err (h : LensAt w lo b zs p e) (he : e ≠ 0) : ReadB lo b zs p e y w (.returned (.slice none 0 0)) w :=
  ⟨⟨none, 0, by simp [ansB, he], by simp [ansB, he], fun hn => absurd (by simp [ansB, he]) hn⟩, by simpa [placeOf, errOf, he] using h, Off.refl _ _⟩
theorem ReadI.ok {w1 : World} (h : LensAt w lo b zs p 0) (h0 : x.2.2 = 0) (hs : p + x.2.1 ≤ zs.length) (hb : Below w.heap.size w w1) : ReadI k lo b zs p 0 x w (.returned (.int k x.1)) (w1.setCell ⟨b, 1, none⟩ (.int .i64 (p + x.2.1))) := by
  refine ⟨by simp [ansI], ?_, (Off.of_below (S := fun j => j = b) hb).setCell (p := ⟨b, 1, none⟩) rfl _⟩
  have := (h.below hb).move hs
  rw [Int.natCast_add] at this
  simpa [placeOf, errOf, h0] using this
theorem ReadI.bad {w1 : World} (h : LensAt w lo b zs p 0) (h0 : x.1 = 0) (h1 : x.2.1 = 0) (hb : Below w.heap.size w w1) : ReadI k lo b zs p 0 x w (.returned (.int k 0)) (w1.setCell ⟨b, 2, none⟩ (.int .i64 x.2.2)) := by
  refine ⟨by simp [ansI, h0], ?_, (Off.of_below (S := fun j => j = b) hb).setCell (p := ⟨b, 2, none⟩) rfl _⟩
  have := (h.below hb).fail x.2.2
  simpa [placeOf, errOf, h1] using this
theorem NumsIn.set {w1 : World} {A : Option Addr} {L : List Int} {s : Nat} (h : NumsIn .u8 w1 s w1.heap.size A L) (hb : b < s) (o : Nat) (v : Value) : NumsIn .u8 (w1.setCell ⟨b, o, none⟩ v) s (w1.setCell ⟨b, o, none⟩ v).heap.size A L := by
  have h2 := h.keeps (B := w1.setCell ⟨b, o, none⟩ v) ⟨by simp [World.setCell], fun k h4 h5 => Below.heap_setCell _ _ _ _ (by simp; omega)⟩
  exact h2.mono (by simp [World.setCell])
theorem ReadB.ok {w1 : World} {v : Value} (h : LensAt w lo b zs p 0) (h0 : y.2.2 = 0) (hs : p + y.2.1 ≤ zs.length) (hm : MadeK 5 .u8 w w1 y.1 v) : ReadB lo b zs p 0 y w (.returned v) (w1.setCell ⟨b, 1, none⟩ (.int .i64 (p + y.2.1))) := by
  refine ⟨?_, ?_, (Off.of_below (S := fun j => j = b) hm.2).setCell (p := ⟨b, 1, none⟩) rfl _⟩
  · obtain ⟨A, c, rfl, hc, _⟩ := hm.slice
    exact ⟨A, c, by simp [ansB], by simpa [ansB] using hc, by simpa [ansB] using hm.numsIn.set h.lt 1 _⟩
  · have := (h.below hm.2).move hs
    rw [Int.natCast_add] at this
    simpa [placeOf, errOf, h0] using this
theorem ReadB.bad {w1 : World} (h : LensAt w lo b zs p 0) (h0 : y.1 = []) (h1 : y.2.1 = 0) (hb : Below w.heap.size w w1) : ReadB lo b zs p 0 y w (.returned (.slice none 0 0)) (w1.setCell ⟨b, 2, none⟩ (.int .i64 y.2.2)) := by
  refine ⟨⟨none, 0, by simp [ansB, h0], by simp [ansB, h0], fun hn => absurd (by simp [ansB, h0]) hn⟩, ?_, (Off.of_below (S := fun j => j = b) hb).setCell (p := ⟨b, 2, none⟩) rfl _⟩
  have := (h.below hb).fail y.2.2
  simpa [placeOf, errOf, h1] using this
end
theorem numR_err {l : List Int} {m : Int} (h : (numR l m).2.2 ≠ 0) : (numR l m).1 = 0 ∧ (numR l m).2.1 = 0 := by
  revert h; unfold numR; split; (intro _; exact ⟨rfl, rfl⟩); split; (intro _; exact ⟨rfl, rfl⟩); intro h; exact absurd rfl h
theorem sigR_err {l : List Int} {m1 m : Int} (h : (sigR l m1 m).2.2 ≠ 0) : (sigR l m1 m).1 = 0 ∧ (sigR l m1 m).2.1 = 0 := by
  revert h; unfold sigR; split; (intro _; exact ⟨rfl, rfl⟩); split; (intro _; exact ⟨rfl, rfl⟩); intro h; exact absurd rfl h
theorem wordR_err {l : List Int} {m : Nat} (h : (wordR l m).2.2 ≠ 0) : (wordR l m).1 = 0 ∧ (wordR l m).2.1 = 0 := by
  revert h; unfold wordR; split; (intro _; exact ⟨rfl, rfl⟩); intro h; exact absurd rfl h
theorem rawR_err {l : List Int} {m : Int} (h : (rawR l m).2.2 ≠ 0) : (rawR l m).1 = [] ∧ (rawR l m).2.1 = 0 := by
  revert h; unfold rawR; split; (intro _; exact ⟨rfl, rfl⟩); split; (intro _; exact ⟨rfl, rfl⟩); intro h; exact absurd rfl h
theorem fldR_err {l : List Int} {m : Int} (h : (fldR l m).2.2 ≠ 0) : (fldR l m).1 = [] ∧ (fldR l m).2.1 = 0 := by
  revert h; unfold fldR; split; (intro _; exact ⟨rfl, rfl⟩); split; (intro _; exact ⟨rfl, rfl⟩); split; (intro _; exact ⟨rfl, rfl⟩); intro h; exact absurd rfl h
theorem drop_fit {zs : List Int} {p s : Nat} (h : s ≤ (zs.drop p).length) (hp : p ≤ zs.length) : p + s ≤ zs.length := by rw [List.length_drop] at h; omega
theorem drop_bytes {zs : List Int} (hz : ∀ x ∈ zs, 0 ≤ x ∧ x ≤ 255) (p : Nat) : ∀ x ∈ zs.drop p, 0 ≤ x ∧ x ≤ 255 := fun x hx => hz x (List.mem_of_mem_drop hx)

section
variable (lo b : Nat) (zs : List Int) (p e : Nat) (w : World)
theorem rdW_any (c m : Nat) (hm : m ≤ 4) (h : LensAt w lo b zs p e) (hl : zs.length ≤ 1000000000) (hz : ∀ x ∈ zs, 0 ≤ x ∧ x ≤ 255) (hcl : c < w.heap.size) (hc : w.cell? ⟨c, 0, none⟩ = some (.int .i64 m)) :
    Calls Tryd.prog 36 #[.pointer (some ⟨b, 0, none⟩), .func (.func 37) #[] #[.pointer (some ⟨c, 0, none⟩)]] w fun r w' => ReadI .u32 lo b zs p e (wordR (zs.drop p) m) w r w' := by
  by_cases he : e = 0
  · subst he
    have HC : ∀ n A cap, Nums .u8 (w.drewN n) b A (zs.drop p) → zs.length - p ≤ cap → Calls Tryd.prog 37 #[.slice A (zs.length - p) cap, .pointer (some ⟨c, 0, none⟩)] (w.drewN n) fun r w' => ClosI .u32 (wordR (zs.drop p) m) r ∧ Below w.heap.size w w' := fun n A cap hn hcp =>
      (wordc_any A (zs.length - p) cap c (zs.drop p) m (w.drewN n) (by simp) hcp hm (drop_bytes hz p) (hn.mono (Nat.le_of_lt h.lt)) hcl hc).mono fun r w' ⟨h1, h2⟩ => ⟨h1, (below_drewN (Below.refl _ _) n).trans h2⟩
    by_cases h0 : (wordR (zs.drop p) m).2.2 = 0
    · refine (rdW_ok lo b zs p w c h hl (wordR (zs.drop p) m).2.1 (drop_fit (wordR_le m) h.place) (fun v _ => v = .int .u32 (wordR (zs.drop p) m).1) (fun n A cap hn hc2 => (HC n A cap hn hc2).mono ?_)).mono ?_
      · rintro r w' ⟨⟨v, s, rfl, hv⟩, hb⟩
        obtain ⟨rfl, rfl⟩ := hv h0
        exact ⟨_, by rw [h0]; rfl, hb, rfl⟩
      · rintro r w' ⟨v, w1, rfl, rfl, hb, rfl⟩
        exact ReadI.ok h h0 (drop_fit (wordR_le m) h.place) hb
    · refine (rdW_bad lo b zs p w c h hl (wordR (zs.drop p) m).2.2 h0 (fun _ _ => True) (fun n A cap hn hc2 => (HC n A cap hn hc2).mono ?_)).mono ?_
      · rintro r w' ⟨⟨v, s, rfl, _⟩, hb⟩
        exact ⟨_, _, rfl, hb, trivial⟩
      · rintro r w' ⟨rfl, v, w1, _, hb, rfl⟩
        exact ReadI.bad h (wordR_err h0).1 (wordR_err h0).2 hb
  · refine (rdW_err lo b zs p e w _ h he).mono ?_
    rintro r w' ⟨rfl, rfl⟩
    exact ReadI.err h he
end
end Go.Proofs.YtmmffifndheafaaDoor
