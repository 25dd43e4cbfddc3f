/-
  Words for the walk of PenWrites: the pen, and the document's pen beside it.
-/
import Derived.Test.YtajeefnogdledaaFull
import Derived.Test.YtajeefnogdledaaQ3
import Derived.Deep.DeepCutAuto
import Derived.Deep.RegionWith
import Derived.Deep.RegionHeld3
namespace Go.Proofs.Ytajeefnogdledaa
open Go.RowKit
set_option maxRecDepth 100000

/-- the pen; the document's pen in block mb; both wrote L -/
structure WS (w0 : World) (mb g : Nat) (A : Option Addr) (cM : Nat) (room : Int) (L : List Int) (f : Bool) (x : World) : Prop where
  pen : PenAt x w0.heap.size g room L f
  gB : w0.heap.size ≤ g
  base : Below w0.heap.size w0 x
  m : x.heap[mb]? = some (.cells #[.slice A L.length cM, .int .i64 room, .bool f] 27 (0, 0))
  mB : w0.heap.size ≤ mb
  mp : ¬ penS w0.heap.size g mb
  row : Nums .u8 x x.heap.size A L
  off : L ≠ [] → ∀ q, blockOf A q → ¬ penS w0.heap.size g q ∧ q ≠ mb
section
variable {w0 x y : World} {mb g : Nat} {A : Option Addr} {cM : Nat} {room : Int} {L : List Int} {f : Bool}
theorem WS.lt (h : WS w0 mb g A cM room L f x) : mb < x.heap.size := (Array.getElem?_eq_some_iff.1 h.m).1
theorem WS.later (h : WS w0 mb g A cM room L f x) (hb : Below x.heap.size x y) : WS w0 mb g A cM room L f y :=
  ⟨h.pen.below hb, h.gB, h.base.trans (hb.mono h.base.size), by rw [hb.block mb h.lt]; exact h.m, h.mB, h.mp, (h.row.below hb).mono hb.size, h.off⟩
theorem WS.cells (h : WS w0 mb g A cM room L f x) : x.cell? ⟨mb, 0, none⟩ = some (.slice A L.length cM) ∧ x.cell? ⟨mb, 1, none⟩ = some (.int .i64 room) ∧ x.cell? ⟨mb, 2, none⟩ = some (.bool f) ∧ x.frozen? ⟨mb, 0, none⟩ = false ∧ x.frozen? ⟨mb, 1, none⟩ = false ∧ x.frozen? ⟨mb, 2, none⟩ = false := by
  have hm := h.m
  exact ⟨by simp [World.cell?, hm], by simp [World.cell?, hm], by simp [World.cell?, hm], frozen_of hm, frozen_of hm, frozen_of hm⟩
end
def WI (w0 : World) (mb : Nat) (room : Int) (L : List Int) (f : Bool) (x : World) : Prop := ∃ g A cM, WS w0 mb g A cM room L f x
theorem WI.start {w0 w1 : World} {room : Int} (hp : PenAt w1 w0.heap.size w0.heap.size room [] false) (hb : Below w0.heap.size w0 w1) : WI w0 w1.heap.size room [] false (w1.alloc (.cells #[.slice none 0 0, .int .i64 room, .bool false] 27)) := by
  have ha : Below w1.heap.size w1 (w1.alloc (.cells #[.slice none 0 0, .int .i64 room, .bool false] 27)) := (Below.refl _ _).alloc (Nat.le_refl _) _
  have hlt := hp.lt
  refine ⟨w0.heap.size, none, 0, hp.below ha, Nat.le_refl _, hb.trans (ha.mono hb.size), heap_alloc_new w1 _, hb.size, ?_, Nums.nil, fun h => absurd rfl h⟩
  rintro (h | h) <;> omega
theorem WI.base {w0 x : World} {mb : Nat} {room : Int} {L : List Int} {f : Bool} (h : WI w0 mb room L f x) : Below w0.heap.size w0 x := by
  obtain ⟨g, A, cM, h⟩ := h
  exact h.base
/-- what is so in the world in which the document's pen writes: behind 'cut' the act has been laid in a block of its own -/
theorem lay_facts {w0 w1 W : World} {mb g : Nat} {A : Option Addr} {cM : Nat} {room : Int} {L : List Int} {f : Bool} {k N : Int} {AL AS AB : Option Addr} {nL cL nS cS nB cB : Nat} (h : WS w0 mb g A cM room L f w1)
    (hW : w1.alloc (.cells #[.int .i64 k, .int .u32 N, .slice AL nL cL, .slice AS nS cS, .slice AB nB cB] 32) = W) :
    W.heap[w1.heap.size]? = some (.cells #[.int .i64 k, .int .u32 N, .slice AL nL cL, .slice AS nS cS, .slice AB nB cB] 32 (0, 0)) ∧ WS w0 mb g A cM room L f W ∧ Below w1.heap.size w1 W ∧ w1.heap.size < W.heap.size := by
  subst hW
  have ha : Below w1.heap.size w1 (w1.alloc (.cells #[.int .i64 k, .int .u32 N, .slice AL nL cL, .slice AS nS cS, .slice AB nB cB] 32)) := (Below.refl _ _).alloc (Nat.le_refl _) _
  exact ⟨heap_alloc_new w1 _, h.later ha, ha, by simp⟩
theorem act_cells {W : World} {ab : Nat} {k N : Int} {AL AS AB : Option Addr} {nL cL nS cS nB cB : Nat} (h : W.heap[ab]? = some (.cells #[.int .i64 k, .int .u32 N, .slice AL nL cL, .slice AS nS cS, .slice AB nB cB] 32 (0, 0))) :
    W.cell? ⟨ab, 0, none⟩ = some (.int .i64 k) ∧ W.cell? ⟨ab, 1, none⟩ = some (.int .u32 N) ∧ W.cell? ⟨ab, 2, none⟩ = some (.slice AL nL cL) ∧ W.cell? ⟨ab, 3, none⟩ = some (.slice AS nS cS) ∧ W.cell? ⟨ab, 4, none⟩ = some (.slice AB nB cB) := by
  refine ⟨?_, ?_, ?_, ?_, ?_⟩ <;> rw [World.cell?, h] <;> rfl
/-- the document's pen behind its write, in block g9 -/
structure NR (W : World) (A : Option Addr) (L : List Int) (g9 : Nat) (A' : Option Addr) (c' : Nat) (room : Int) (L' : List Int) (f' : Bool) (x : World) : Prop where
  base : Below W.heap.size W x
  g9B : W.heap.size ≤ g9
  m : x.heap[g9]? = some (.cells #[.slice A' L'.length c', .int .i64 room, .bool f'] 27 (0, 0))
  row : Nums .u8 x x.heap.size A' L'
  src : (A' = A ∧ L' = L) ∨ ∀ q, blockOf A' q → W.heap.size ≤ q
/-- no struct yet -/
def Z27 : Obj := .cells #[.slice none 0 0, .int .i64 0, .bool false] 27
section
variable {W wx wy wz : World} {B g9 : Nat} {A A' A2 : Option Addr} {c' cM n2 c2 : Nat} {room : Int} {L L' zs : List Int} {f f' : Bool} {d : ActD} {v : Value}
theorem NR.ofAlloc (hb : Below W.heap.size W wz) (hn : Nums .u8 wz wz.heap.size A' L') (hs : (A' = A ∧ L' = L) ∨ ∀ q, blockOf A' q → W.heap.size ≤ q) :
    NR W A L wz.heap.size A' c' room L' f' (wz.alloc (.cells #[.slice A' L'.length c', .int .i64 room, .bool f'] 27)) :=
  ⟨hb.alloc hb.size _, hb.size, heap_alloc_new wz _, (hn.below ((Below.refl _ _).alloc (Nat.le_refl _) _)).mono (by simp), hs⟩
theorem NR.ofSet (hb : Below W.heap.size W wz) (hg : W.heap.size ≤ g9) (hz : wz.heap[g9]? = some (.cells #[.slice none 0 0, .int .i64 0, .bool false] 27 (0, 0))) (hA : Nums .u8 W W.heap.size A L)
    (hn : Nums .u8 wz wz.heap.size A' L') (hs : (A' = A ∧ L' = L) ∨ ∀ q, blockOf A' q → g9 < q) :
    NR W A L g9 A' c' room L' f' (((wz.setCell ⟨g9, 0, none⟩ (.slice A' L'.length c')).setCell ⟨g9, 1, none⟩ (.int .i64 room)).setCell ⟨g9, 2, none⟩ (.bool f')) := by
  have hO : Off (fun k => k = g9) wz (((wz.setCell ⟨g9, 0, none⟩ (.slice A' L'.length c')).setCell ⟨g9, 1, none⟩ (.int .i64 room)).setCell ⟨g9, 2, none⟩ (.bool f')) := (((Off.refl (fun k => k = g9) wz).setCell (p := ⟨g9, 0, none⟩) rfl _).setCell (p := ⟨g9, 1, none⟩) rfl _).setCell (p := ⟨g9, 2, none⟩) rfl _
  refine ⟨hb.trans (hO.below (fun k hk => by subst hk; exact hg) hb.size), hg, ?_, (hn.off hO ?_).mono hO.size, ?_⟩
  · rw [setCell_at (setCell_at (setCell_at hz))]; rfl
  · intro hne q hq he
    subst he
    rcases hs with ⟨rfl, rfl⟩ | hs
    · obtain ⟨b1, o1, e, hlt, _⟩ := hA hne
      obtain ⟨o, s, hq⟩ := hq
      rw [hq] at e; injection e with e; injection e with e
      omega
    · exact absurd (hs _ hq) (Nat.lt_irrefl _)
  · rcases hs with hs | hs
    · exact .inl hs
    · exact .inr fun q hq => by have := hs q hq; omega
theorem z_facts (h : wz.heap[g9]? = some (.cells #[.slice none 0 0, .int .i64 0, .bool false] 27 (0, 0))) : wz.cell? ⟨g9, 0, none⟩ = some (.slice none 0 0) ∧ wz.cell? ⟨g9, 1, none⟩ = some (.int .i64 0) ∧ wz.cell? ⟨g9, 2, none⟩ = some (.bool false) ∧ wz.frozen? ⟨g9, 0, none⟩ = false ∧ wz.frozen? ⟨g9, 1, none⟩ = false ∧ wz.frozen? ⟨g9, 2, none⟩ = false :=
  ⟨by simp [World.cell?, h], by simp [World.cell?, h], by simp [World.cell?, h], frozen_of h, frozen_of h, frozen_of h⟩
/-- the act's bytes, in a world behind W -/
theorem bytes_in (hX : Below W.heap.size W wx) (hB : B ≤ W.heap.size) (ha : ActAt W B d v) (hok : d.ok) (hs : d.short) :
    Calls Try.prog 10 #[v] wx fun e wb => ∃ A2 n2 c2, e = .returned (.slice A2 n2 c2) ∧ (actBytes d).length = n2 ∧ Nums .u8 wb wb.heap.size A2 (actBytes d) ∧ Below W.heap.size W wb ∧ Below wx.heap.size wx wb :=
  (bytes_any wx B d v (Nat.le_trans hB hX.size) (ha.kept (hX.mono hB)) hok hs).mono fun _ _ ⟨A2, n2, c2, h1, h2, h3, h4⟩ => ⟨A2, n2, c2, h1, h2, h3, hX.trans (h4.mono hX.size), h4⟩
/-- the document's Raw, in a world behind W -/
theorem raw_in (hX : Below W.heap.size W wy) (h0 : 0 ≤ room) (h1 : room ≤ 9223372036854775807) (hL : Nums .u8 W W.heap.size A L) (hz : zs.length = n2) (hb : L.length + n2 ≤ 1000000000) (hZ : Nums .u8 wy wy.heap.size A2 zs) :
    Calls Try.prog 9 #[.agg #[.slice A L.length cM, .int .i64 room, .bool f], .slice A2 n2 c2] wy fun e wz => ∃ A' c', e = .returned (.tuple #[.agg #[.slice A' (bytesNext room L f zs).length c', .int .i64 room, .bool (fullNext room L f n2)], .int .i64 (codeOf (fullNext room L f n2))]) ∧
      Nums .u8 wz wz.heap.size A' (bytesNext room L f zs) ∧ Below W.heap.size W wz ∧ Below wy.heap.size wy wz ∧ ((A' = A ∧ bytesNext room L f zs = L) ∨ ∀ q, blockOf A' q → wy.heap.size ≤ q) := by
  subst hz
  exact (rraw_any A A2 L.length cM zs.length c2 room L zs f wy h0 h1 rfl rfl hb ((hL.below hX).mono hX.size) hZ).mono fun _ _ ⟨A', c', q1, q2, q3, q4⟩ => ⟨A', c', q1, q2, hX.trans (q3.mono hX.size), q3, q4⟩
/-- .. where the struct's block was laid ahead of both calls -/
theorem bytes_A (hB : B ≤ W.heap.size) (ha : ActAt W B d v) (hok : d.ok) (hs : d.short) :
    Calls Try.prog 10 #[v] (W.alloc (.cells #[.slice none 0 0, .int .i64 0, .bool false] 27)).drew fun e wb => ∃ A2 n2 c2, e = .returned (.slice A2 n2 c2) ∧ (actBytes d).length = n2 ∧ Hid (Nums .u8 wb wb.heap.size A2 (actBytes d)) ∧ Hid (Below W.heap.size W wb) ∧ Hid (wb.heap[W.heap.size]? = some (.cells #[.slice none 0 0, .int .i64 0, .bool false] 27 (0, 0))) ∧ W.heap.size < wb.heap.size :=
  (bytes_in (W := W) (wx := (W.alloc (.cells #[.slice none 0 0, .int .i64 0, .bool false] 27)).drew) ((Below.refl _ W).alloc (Nat.le_refl _) _).drew hB ha hok hs).mono fun _ _ ⟨A2, n2, c2, h1, h2, h3, h4, h5⟩ =>
    have hlt : W.heap.size < (W.alloc (.cells #[.slice none 0 0, .int .i64 0, .bool false] 27)).drew.heap.size := by simp
    ⟨A2, n2, c2, h1, h2, h3, h4, (h5.block _ hlt).trans (heap_alloc_new W _), Nat.lt_of_lt_of_le hlt h5.size⟩
theorem bytes_B (hB : B ≤ W.heap.size) (ha : ActAt W B d v) (hok : d.ok) (hs : d.short) :
    Calls Try.prog 10 #[v] W.drew fun e wb => ∃ A2 n2 c2, e = .returned (.slice A2 n2 c2) ∧ (actBytes d).length = n2 ∧ Hid (Nums .u8 wb wb.heap.size A2 (actBytes d)) ∧ Hid (Below W.heap.size W wb) :=
  (bytes_in (W := W) (Below.refl _ W).drew hB ha hok hs).mono fun _ _ ⟨A2, n2, c2, h1, h2, h3, h4, _⟩ => ⟨A2, n2, c2, h1, h2, h3, h4⟩
theorem raw_A (hX : Below W.heap.size W wy) (h0 : 0 ≤ room) (h1 : room ≤ 9223372036854775807) (hL : Nums .u8 W W.heap.size A L) (hz : zs.length = n2) (hb : L.length + n2 ≤ 1000000000) (hZ : Nums .u8 wy wy.heap.size A2 zs) (hg : wy.heap[W.heap.size]? = some (.cells #[.slice none 0 0, .int .i64 0, .bool false] 27 (0, 0))) (hlt : W.heap.size < wy.heap.size) :
    Calls Try.prog 9 #[.agg #[.slice A L.length cM, .int .i64 room, .bool f], .slice A2 n2 c2] wy fun e wz => ∃ A' c', e = .returned (.tuple #[.agg #[.slice A' (bytesNext room L f zs).length c', .int .i64 room, .bool (fullNext room L f n2)], .int .i64 (codeOf (fullNext room L f n2))]) ∧
      wz.cell? ⟨W.heap.size, 0, none⟩ = some (.slice none 0 0) ∧ wz.cell? ⟨W.heap.size, 1, none⟩ = some (.int .i64 0) ∧ wz.cell? ⟨W.heap.size, 2, none⟩ = some (.bool false) ∧ wz.frozen? ⟨W.heap.size, 0, none⟩ = false ∧ wz.frozen? ⟨W.heap.size, 1, none⟩ = false ∧ wz.frozen? ⟨W.heap.size, 2, none⟩ = false ∧ Hid (NR W A L W.heap.size A' c' room (bytesNext room L f zs) (fullNext room L f n2) (((wz.setCell ⟨W.heap.size, 0, none⟩ (.slice A' (bytesNext room L f zs).length c')).setCell ⟨W.heap.size, 1, none⟩ (.int .i64 room)).setCell ⟨W.heap.size, 2, none⟩ (.bool (fullNext room L f n2)))) :=
  (raw_in (c2 := c2) (cM := cM) (f := f) hX h0 h1 hL hz hb hZ).mono fun _ _ ⟨A', c', q1, q2, q3, q4, q5⟩ =>
    have hzz := (q4.block _ hlt).trans hg
    have ⟨z0, z1, z2, z3, z4, z5⟩ := z_facts hzz
    ⟨A', c', q1, z0, z1, z2, z3, z4, z5, NR.ofSet q3 (Nat.le_refl _) hzz hL q2 (q5.imp id fun h q hq => Nat.lt_of_lt_of_le hlt (h q hq))⟩
theorem raw_B (hX : Below W.heap.size W wy) (h0 : 0 ≤ room) (h1 : room ≤ 9223372036854775807) (hL : Nums .u8 W W.heap.size A L) (hz : zs.length = n2) (hb : L.length + n2 ≤ 1000000000) (hZ : Nums .u8 wy wy.heap.size A2 zs) :
    Calls Try.prog 9 #[.agg #[.slice A L.length cM, .int .i64 room, .bool f], .slice A2 n2 c2] (wy.alloc (.cells #[.slice none 0 0, .int .i64 0, .bool false] 27)) fun e wz => ∃ A' c', e = .returned (.tuple #[.agg #[.slice A' (bytesNext room L f zs).length c', .int .i64 room, .bool (fullNext room L f n2)], .int .i64 (codeOf (fullNext room L f n2))]) ∧
      wz.cell? ⟨wy.heap.size, 0, none⟩ = some (.slice none 0 0) ∧ wz.cell? ⟨wy.heap.size, 1, none⟩ = some (.int .i64 0) ∧ wz.cell? ⟨wy.heap.size, 2, none⟩ = some (.bool false) ∧ wz.frozen? ⟨wy.heap.size, 0, none⟩ = false ∧ wz.frozen? ⟨wy.heap.size, 1, none⟩ = false ∧ wz.frozen? ⟨wy.heap.size, 2, none⟩ = false ∧ Hid (NR W A L wy.heap.size A' c' room (bytesNext room L f zs) (fullNext room L f n2) (((wz.setCell ⟨wy.heap.size, 0, none⟩ (.slice A' (bytesNext room L f zs).length c')).setCell ⟨wy.heap.size, 1, none⟩ (.int .i64 room)).setCell ⟨wy.heap.size, 2, none⟩ (.bool (fullNext room L f n2)))) :=
  have ha : Below wy.heap.size wy (wy.alloc (.cells #[.slice none 0 0, .int .i64 0, .bool false] 27)) := (Below.refl _ wy).alloc (Nat.le_refl _) _
  have hlt : wy.heap.size < (wy.alloc (.cells #[.slice none 0 0, .int .i64 0, .bool false] 27)).heap.size := by simp
  (raw_in (c2 := c2) (cM := cM) (f := f) (hX.trans (ha.mono hX.size)) h0 h1 hL hz hb ((hZ.below ha).mono ha.size)).mono fun _ _ ⟨A', c', q1, q2, q3, q4, q5⟩ =>
    have hzz := (q4.block _ hlt).trans (heap_alloc_new wy _)
    have ⟨z0, z1, z2, z3, z4, z5⟩ := z_facts hzz
    ⟨A', c', q1, z0, z1, z2, z3, z4, z5, NR.ofSet q3 hX.size hzz hL q2 (q5.imp id fun h q hq => Nat.lt_of_lt_of_le hlt (h q hq))⟩
theorem raw_C (hX : Below W.heap.size W wy) (h0 : 0 ≤ room) (h1 : room ≤ 9223372036854775807) (hL : Nums .u8 W W.heap.size A L) (hz : zs.length = n2) (hb : L.length + n2 ≤ 1000000000) (hZ : Nums .u8 wy wy.heap.size A2 zs) :
    Calls Try.prog 9 #[.agg #[.slice A L.length cM, .int .i64 room, .bool f], .slice A2 n2 c2] wy fun e wz => ∃ A' c', e = .returned (.tuple #[.agg #[.slice A' (bytesNext room L f zs).length c', .int .i64 room, .bool (fullNext room L f n2)], .int .i64 (codeOf (fullNext room L f n2))]) ∧
      Hid (NR W A L wz.heap.size A' c' room (bytesNext room L f zs) (fullNext room L f n2) (wz.alloc (.cells #[.slice A' (bytesNext room L f zs).length c', .int .i64 room, .bool (fullNext room L f n2)] 27))) :=
  (raw_in (c2 := c2) (cM := cM) (f := f) hX h0 h1 hL hz hb hZ).mono fun _ _ ⟨A', c', q1, q2, q3, _, q5⟩ => ⟨A', c', q1, NR.ofAlloc q3 q2 (q5.imp id fun h q hq => Nat.le_trans hX.size (h q hq))⟩
theorem WS.cellsZ {w0 : World} {mb g : Nat} (h : WS w0 mb g A cM room L f W) (hb : Below W.heap.size W wy) : (wy.alloc (.cells #[.slice none 0 0, .int .i64 0, .bool false] 27)).cell? ⟨mb, 0, none⟩ = some (.slice A L.length cM) ∧ (wy.alloc (.cells #[.slice none 0 0, .int .i64 0, .bool false] 27)).cell? ⟨mb, 1, none⟩ = some (.int .i64 room) ∧ (wy.alloc (.cells #[.slice none 0 0, .int .i64 0, .bool false] 27)).cell? ⟨mb, 2, none⟩ = some (.bool f) ∧ wy.cell? ⟨mb, 0, none⟩ = some (.slice A L.length cM) ∧ wy.cell? ⟨mb, 1, none⟩ = some (.int .i64 room) ∧ wy.cell? ⟨mb, 2, none⟩ = some (.bool f) := by
  obtain ⟨a0, a1, a2, _⟩ := (h.later hb).cells
  obtain ⟨b0, b1, b2, _⟩ := ((h.later hb).later ((Below.refl _ wy).alloc (Nat.le_refl _) (.cells #[.slice none 0 0, .int .i64 0, .bool false] 27))).cells
  exact ⟨b0, b1, b2, a0, a1, a2⟩
theorem act_cellsZ {ab : Nat} {k N : Int} {AL AS AB : Option Addr} {nL cL nS cS nB cB : Nat} (h : W.heap[ab]? = some (.cells #[.int .i64 k, .int .u32 N, .slice AL nL cL, .slice AS nS cS, .slice AB nB cB] 32 (0, 0))) :
    (W.alloc (.cells #[.slice none 0 0, .int .i64 0, .bool false] 27)).cell? ⟨ab, 0, none⟩ = some (.int .i64 k) ∧ (W.alloc (.cells #[.slice none 0 0, .int .i64 0, .bool false] 27)).cell? ⟨ab, 1, none⟩ = some (.int .u32 N) ∧ (W.alloc (.cells #[.slice none 0 0, .int .i64 0, .bool false] 27)).cell? ⟨ab, 2, none⟩ = some (.slice AL nL cL) ∧ (W.alloc (.cells #[.slice none 0 0, .int .i64 0, .bool false] 27)).cell? ⟨ab, 3, none⟩ = some (.slice AS nS cS) ∧ (W.alloc (.cells #[.slice none 0 0, .int .i64 0, .bool false] 27)).cell? ⟨ab, 4, none⟩ = some (.slice AB nB cB) :=
  act_cells ((Below.heap_alloc W _ ab (Array.getElem?_eq_some_iff.1 h).1).trans h)
theorem NR.cells (h : NR W A L g9 A' c' room L' f' wx) : wx.cell? ⟨g9, 0, none⟩ = some (.slice A' L'.length c') ∧ wx.cell? ⟨g9, 1, none⟩ = some (.int .i64 room) ∧ wx.cell? ⟨g9, 2, none⟩ = some (.bool f') := by
  have hm := h.m
  exact ⟨by simp [World.cell?, hm], by simp [World.cell?, hm], by simp [World.cell?, hm]⟩
/-- 'm = next': the document's pen is laid into its own block -/
def storeM (mb : Nat) (A' : Option Addr) (n c' : Nat) (room : Int) (f' : Bool) (x : World) : World := ((x.setCell ⟨mb, 0, none⟩ (.slice A' n c')).setCell ⟨mb, 1, none⟩ (.int .i64 room)).setCell ⟨mb, 2, none⟩ (.bool f')
theorem storeM_off (mb : Nat) (A' : Option Addr) (n c' : Nat) (room : Int) (f' : Bool) (x : World) : Off (fun k => k = mb) x (storeM mb A' n c' room f' x) :=
  (((Off.refl (fun k => k = mb) x).setCell (p := ⟨mb, 0, none⟩) rfl _).setCell (p := ⟨mb, 1, none⟩) rfl _).setCell (p := ⟨mb, 2, none⟩) rfl _
theorem do_in {w0 : World} {mb g : Nat} (hr0 : 0 ≤ room) (hr1 : room ≤ 9223372036854775807) (hl : L.length + 1000 ≤ 1000000000) (h : WS w0 mb g A cM room L f W) (hn : NR W A L g9 A' c' room (bytesNext room L f (actBytes d)) (fullNext room L f (actBytes d).length) wx)
    (ha : ActAt W w0.heap.size d v) (hok : d.ok) (hs : d.short) :
    Calls Try.prog 11 #[.pointer (some ⟨w0.heap.size, 0, none⟩), v] (storeM mb A' (bytesNext room L f (actBytes d)).length c' room (fullNext room L f (actBytes d).length) wx) fun e w5 => e = .returned (.int .i64 (codeOf (fullNext room L f (actBytes d).length))) ∧
      ∃ g', WS w0 mb g' A' c' room (bytesNext room L f (actBytes d)) (fullNext room L f (actBytes d).length) w5 := by
  obtain ⟨L', hL'⟩ : ∃ L', bytesNext room L f (actBytes d) = L' := ⟨_, rfl⟩
  obtain ⟨f', hf'⟩ : ∃ f', fullNext room L f (actBytes d).length = f' := ⟨_, rfl⟩
  rw [hL', hf'] at hn ⊢
  have hO := storeM_off mb A' L'.length c' room f' wx
  have hmW := h.lt
  have hbW := h.pen.lt
  have hgW := h.pen.glt
  have hsx := hn.base.size
  have hbx : Below w0.heap.size w0 wx := h.base.trans (hn.base.mono h.base.size)
  have hb4 : Below w0.heap.size wx (storeM mb A' L'.length c' room f' wx) := hO.below (fun k hk => by subst hk; exact h.mB) hbx.size
  have pen4 := (h.pen.below hn.base).off hO (fun e => h.mp (.inl e.symm)) (fun e => h.mp (.inr e.symm))
  have hm4 : (storeM mb A' L'.length c' room f' wx).heap[mb]? = some (.cells #[.slice A' L'.length c', .int .i64 room, .bool f'] 27 (0, 0)) := by
    have hmx := (hn.base.block mb hmW).trans h.m
    unfold storeM
    rw [setCell_at (setCell_at (setCell_at hmx))]; rfl
  have hq : L' ≠ [] → ∀ q, blockOf A' q → ¬ penS w0.heap.size g q ∧ q ≠ mb := by
    intro hne q hqA
    rcases hn.src with ⟨rfl, rfl⟩ | hf
    · exact h.off hne q hqA
    · have := hf q hqA
      refine ⟨?_, by omega⟩
      rintro (hp | hp) <;> omega
  have row4 : Nums .u8 (storeM mb A' L'.length c' room f' wx) wx.heap.size A' L' := hn.row.off hO fun hne q hqA e => (hq hne q hqA).2 e
  refine (do_any w0.heap.size g room L f _ w0.heap.size d v pen4 hr0 hr1 hl (Nat.le_refl _) h.gB (ha.kept ((hn.base.mono h.base.size).trans hb4)) hok hs).mono fun e w5 ⟨he, g', q1, q2, q3⟩ => ?_
  rw [hL', hf'] at q1
  rw [hf'] at he
  have hs4 : wx.heap.size ≤ (storeM mb A' L'.length c' room f' wx).heap.size := hO.size
  refine ⟨he, g', q1, by have := h.gB; have := h.base.size; rcases q3 with q3 | q3 <;> omega, (hbx.trans hb4).trans (q2.below ?_ (by have := hbx.size; omega)), (q2.block mb (by omega) h.mp).trans hm4, h.mB, ?_, (row4.off q2 fun hne q hqA => (hq hne q hqA).1).mono (by have := q2.size; omega), ?_⟩
  · have := h.gB
    rintro k (rfl | rfl) <;> omega
  · rintro (hp | hp)
    · exact h.mp (.inl hp)
    · rcases q3 with q3 | q3
      · exact h.mp (.inr (hp.trans q3))
      · omega
  · intro hne q hqA
    refine ⟨?_, (hq hne q hqA).2⟩
    rintro (hp | hp)
    · exact (hq hne q hqA).1 (.inl hp)
    · rcases q3 with q3 | q3
      · exact (hq hne q hqA).1 (.inr (hp.trans q3))
      · obtain ⟨b1, o1, e1, hlt, _⟩ := hn.row hne
        obtain ⟨o, s, hqA⟩ := hqA
        rw [hqA] at e1; injection e1 with e1; injection e1 with e1
        omega
theorem bytes_fam {w0 x y : World} {mb g : Nat} {e : Ending} {v : Value} (h : WS w0 mb g A cM room L f x) (he : e = .returned v) (hm : Made x y L v) : ∃ v, e = .returned v ∧ (∃ A2 c2, v = .slice A2 L.length c2) ∧ WS w0 mb g A cM room L f y ∧ ∀ A2 c2, v = .slice A2 L.length c2 → Nums .u8 y y.heap.size A2 L := by
  obtain ⟨A2, c2, rfl, _, hn⟩ := hm.slice
  refine ⟨_, he, ⟨A2, c2, rfl⟩, h.later hm.2, fun A3 c3 h3 => ?_⟩
  injection h3 with h3
  subst h3
  exact hn
/-- the copy's first byte may be turned -/
theorem bump {w0 x y : World} {mb g : Nat} {v : Value} (h : WS w0 mb g A cM room L f x) (hm : Made x y L v) (hne : L ≠ []) :
    ∃ gb c3 z, v = .slice (some ⟨gb, 0, none⟩) L.length c3 ∧ y.cell? ⟨gb, 0, none⟩ = some (.int .u8 z) ∧ y.frozen? ⟨gb, 0, none⟩ = false ∧ ∀ u, WS w0 mb g A cM room L f (y.setCell ⟨gb, 0, none⟩ u) := by
  obtain ⟨z, zs, rfl⟩ : ∃ z zs, L = z :: zs := by
    cases L with
    | nil => exact absurd rfl hne
    | cons z zs => exact ⟨z, zs, rfl⟩
  rcases hm.1.2 with ⟨_, h0⟩ | ⟨gb, cap, cur, rfl, hg, hh, _⟩
  · simp at h0
  · have hc := hm.1.cells (g := gb) rfl 0 (.int .u8 z) rfl
    rw [Addr.add_lit] at hc
    exact ⟨gb, cap, z, rfl, hc, frozen_of hh, fun u => h.later (hm.2.setCell hg u)⟩
end
end Go.Proofs.Ytajeefnogdledaa
