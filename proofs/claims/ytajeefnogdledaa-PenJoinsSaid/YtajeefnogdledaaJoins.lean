/-
  The walk of PenJoins: three pens.
-/
import Derived.Test.YtajeefnogdledaaFull
namespace Go.Proofs.Ytajeefnogdledaa
open Go.RowKit
set_option maxRecDepth 100000

theorem MadeK.after {e : TypeId} {k : IntKind} {w w1 w2 : World} {L : List Int} {v : Value} (h : MadeK e k w w1 L v) (hb : Below w1.heap.size w1 w2) : MadeK e k w w2 L v := by
  refine ⟨⟨h.1.1, ?_⟩, h.2.trans (hb.mono h.2.size)⟩
  rcases h.1.2 with h1 | ⟨g, cap, cur, hv, hg, hh, rest⟩
  · exact .inl h1
  · exact .inr ⟨g, cap, cur, hv, hg, by rw [hb.block g (Array.getElem?_eq_some_iff.1 hh).1]; exact hh, rest⟩

/-- two pens have no block in common -/
def Disj (b1 g1 b2 g2 : Nat) : Prop := ∀ k, penS b1 g1 k → ¬ penS b2 g2 k
theorem Disj.next {b1 g1 b2 g2 g1' n : Nat} (h : Disj b1 g1 b2 g2) (hg : g1' = g1 ∨ n ≤ g1') (hb2 : b2 < n) (hg2 : g2 < n) : Disj b1 g1' b2 g2 := by
  intro k hk hk2
  rcases hg with rfl | hg
  · exact h k hk hk2
  · rcases hk with rfl | rfl
    · exact h k (.inl rfl) hk2
    · rcases hk2 with rfl | rfl <;> omega
theorem Disj.symm {b1 g1 b2 g2 : Nat} (h : Disj b1 g1 b2 g2) : Disj b2 g2 b1 g1 := fun k h2 h1 => h k h1 h2
structure JS (w0 : World) (bx bY bz gx gy gz : Nat) (LX LY LZ : List Int) (x : World) : Prop where
  px : PenAt x bx gx 20000 LX false
  py : PenAt x bY gy 20000 LY false
  pz : PenAt x bz gz 40000 LZ false
  dxy : Disj bx gx bY gy
  dxz : Disj bx gx bz gz
  dyz : Disj bY gy bz gz
  bx : w0.heap.size ≤ bx
  bY : w0.heap.size ≤ bY
  bz : w0.heap.size ≤ bz
  gx : w0.heap.size ≤ gx
  gy : w0.heap.size ≤ gy
  gz : w0.heap.size ≤ gz
  below : Below w0.heap.size w0 x
section
variable {w0 x y : World} {bx bY bz gx gy gz : Nat} {LX LY LZ new : List Int} {e : Ending}
theorem JS.size (h : JS w0 bx bY bz gx gy gz LX LY LZ x) : w0.heap.size ≤ x.heap.size := h.below.size
theorem JS.later (h : JS w0 bx bY bz gx gy gz LX LY LZ x) (hb : Below x.heap.size x y) : JS w0 bx bY bz gx gy gz LX LY LZ y :=
  ⟨h.px.below hb, h.py.below hb, h.pz.below hb, h.dxy, h.dxz, h.dyz, h.bx, h.bY, h.bz, h.gx, h.gy, h.gz, h.below.trans (hb.mono h.size)⟩
theorem next_of {b g : Nat} {room : Int} {L : List Int} (hr : WroteR b g room L false new x e y) (hl : (L.length : Int) + new.length ≤ room) : e = .returned (.int .i64 0) ∧ ∃ g', PenAt y b g' room (L ++ new) false ∧ Off (penS b g) x y ∧ (g' = g ∨ x.heap.size ≤ g') := by
  obtain ⟨he, g', h1, h2, h3⟩ := hr
  have hf := fullNext_no hl
  rw [hf] at he h1
  rw [bytesNext, hf] at h1
  exact ⟨he, g', h1, h2, h3⟩
theorem pen_off {b g b2 g2 : Nat} {room : Int} {L : List Int} {f : Bool} (h : PenAt x b2 g2 room L f) (hf : Off (penS b g) x y) (hd : Disj b g b2 g2) : PenAt y b2 g2 room L f :=
  h.off hf (fun h1 => hd _ h1 (.inl rfl)) (fun h1 => hd _ h1 (.inr rfl))
theorem off_base {b g : Nat} (hf : Off (penS b g) x y) (hb : Below w0.heap.size w0 x) (h1 : w0.heap.size ≤ b) (h2 : w0.heap.size ≤ g) : Below w0.heap.size w0 y :=
  hb.trans (hf.below (by rintro k (rfl | rfl) <;> assumption) hb.size)
theorem ge_next {g g' B : Nat} (hg : g' = g ∨ x.heap.size ≤ g') (h : B ≤ g) (hs : B ≤ x.heap.size) : B ≤ g' := by
  rcases hg with rfl | hg
  · exact h
  · omega
theorem JS.wx (h : JS w0 bx bY bz gx gy gz LX LY LZ x) (hr : WroteR bx gx 20000 LX false new x e y) (hl : LX.length + new.length ≤ 20000) : e = .returned (.int .i64 0) ∧ ∃ gx', JS w0 bx bY bz gx' gy gz (LX ++ new) LY LZ y := by
  obtain ⟨he, g', h1, h2, h3⟩ := next_of hr (by omega)
  exact ⟨he, g', h1, pen_off h.py h2 h.dxy, pen_off h.pz h2 h.dxz, h.dxy.next h3 h.py.lt h.py.glt, h.dxz.next h3 h.pz.lt h.pz.glt, h.dyz, h.bx, h.bY, h.bz, ge_next h3 h.gx h.size, h.gy, h.gz, off_base h2 h.below h.bx h.gx⟩
theorem JS.wy (h : JS w0 bx bY bz gx gy gz LX LY LZ x) (hr : WroteR bY gy 20000 LY false new x e y) (hl : LY.length + new.length ≤ 20000) : e = .returned (.int .i64 0) ∧ ∃ gy', JS w0 bx bY bz gx gy' gz LX (LY ++ new) LZ y := by
  obtain ⟨he, g', h1, h2, h3⟩ := next_of hr (by omega)
  exact ⟨he, g', pen_off h.px h2 h.dxy.symm, h1, pen_off h.pz h2 h.dyz, (h.dxy.symm.next h3 h.px.lt h.px.glt).symm, h.dxz, h.dyz.next h3 h.pz.lt h.pz.glt, h.bx, h.bY, h.bz, h.gx, ge_next h3 h.gy h.size, h.gz, off_base h2 h.below h.bY h.gy⟩
theorem JS.wz (h : JS w0 bx bY bz gx gy gz LX LY LZ x) (hr : WroteR bz gz 40000 LZ false new x e y) (hl : LZ.length + new.length ≤ 40000) : e = .returned (.int .i64 0) ∧ ∃ gz', JS w0 bx bY bz gx gy gz' LX LY (LZ ++ new) y := by
  obtain ⟨he, g', h1, h2, h3⟩ := next_of hr (by omega)
  exact ⟨he, g', pen_off h.px h2 h.dxz.symm, pen_off h.py h2 h.dyz.symm, h1, h.dxy, (h.dxz.symm.next h3 h.px.lt h.px.glt).symm, (h.dyz.symm.next h3 h.py.lt h.py.glt).symm, h.bx, h.bY, h.bz, h.gx, h.gy, ge_next h3 h.gz h.size, off_base h2 h.below h.bz h.gz⟩
end
theorem wrote_size {x y : World} {b g : Nat} {room : Int} {L new : List Int} {f : Bool} {e : Ending} (h : WroteR b g room L f new x e y) : x.heap.size ≤ y.heap.size := by
  obtain ⟨_, g', _, h2, _⟩ := h
  exact h2.size
/-- three pens, whatever blocks their bytes lie in -/
def J3 (w0 : World) (bx bY bz : Nat) (LX LY LZ : List Int) (x : World) : Prop := ∃ gx gy gz, JS w0 bx bY bz gx gy gz LX LY LZ x
section
variable {w0 x y : World} {bx bY bz : Nat} {LX LY LZ : List Int} {d : ActD} {v : Value}
theorem J3.later (h : J3 w0 bx bY bz LX LY LZ x) (hb : Below x.heap.size x y) : J3 w0 bx bY bz LX LY LZ y := by
  obtain ⟨gx, gy, gz, h⟩ := h
  exact ⟨gx, gy, gz, h.later hb⟩
theorem J3.base (h : J3 w0 bx bY bz LX LY LZ x) : Below w0.heap.size w0 x := by
  obtain ⟨gx, gy, gz, h⟩ := h
  exact h.below
theorem J3.dox (h : J3 w0 bx bY bz LX LY LZ x) (ha : ActAt x w0.heap.size d v) (hok : d.ok) (hs : d.short) (hl : LX.length + 410 ≤ 20000) :
    Calls Try.prog 11 #[.pointer (some ⟨bx, 0, none⟩), v] x fun e y => e = .returned (.int .i64 0) ∧ J3 w0 bx bY bz (LX ++ actBytes d) LY LZ y ∧ x.heap.size ≤ y.heap.size := by
  obtain ⟨gx, gy, gz, h⟩ := h
  have hnb := actBytes_length hok hs
  refine (do_any bx gx 20000 LX false x w0.heap.size d v h.px (by decide) (by decide) (by omega) h.bx h.gx ha hok hs).mono fun e y hr => ?_
  obtain ⟨he, gx', h'⟩ := h.wx hr (by omega)
  exact ⟨he, ⟨gx', gy, gz, h'⟩, wrote_size hr⟩
theorem J3.doy (h : J3 w0 bx bY bz LX LY LZ x) (ha : ActAt x w0.heap.size d v) (hok : d.ok) (hs : d.short) (hl : LY.length + 410 ≤ 20000) :
    Calls Try.prog 11 #[.pointer (some ⟨bY, 0, none⟩), v] x fun e y => e = .returned (.int .i64 0) ∧ J3 w0 bx bY bz LX (LY ++ actBytes d) LZ y ∧ x.heap.size ≤ y.heap.size := by
  obtain ⟨gx, gy, gz, h⟩ := h
  have hnb := actBytes_length hok hs
  refine (do_any bY gy 20000 LY false x w0.heap.size d v h.py (by decide) (by decide) (by omega) h.bY h.gy ha hok hs).mono fun e y hr => ?_
  obtain ⟨he, gy', h'⟩ := h.wy hr (by omega)
  exact ⟨he, ⟨gx, gy', gz, h'⟩, wrote_size hr⟩
theorem J3.doz (h : J3 w0 bx bY bz LX LY LZ x) (ha : ActAt x w0.heap.size d v) (hok : d.ok) (hs : d.short) (hl : LZ.length + 410 ≤ 40000) :
    Calls Try.prog 11 #[.pointer (some ⟨bz, 0, none⟩), v] x fun e y => e = .returned (.int .i64 0) ∧ J3 w0 bx bY bz LX LY (LZ ++ actBytes d) y ∧ x.heap.size ≤ y.heap.size := by
  obtain ⟨gx, gy, gz, h⟩ := h
  have hnb := actBytes_length hok hs
  refine (do_any bz gz 40000 LZ false x w0.heap.size d v h.pz (by decide) (by decide) (by omega) h.bz h.gz ha hok hs).mono fun e y hr => ?_
  obtain ⟨he, gz', h'⟩ := h.wz hr (by omega)
  exact ⟨he, ⟨gx, gy, gz', h'⟩, wrote_size hr⟩
theorem J3.start {w1 w2 w3 : World} (hx : PenAt w1 w0.heap.size w0.heap.size 20000 [] false) (h1 : Below w0.heap.size w0 w1) (hy : PenAt w2 w1.heap.size w1.heap.size 20000 [] false) (h2 : Below w1.heap.size w1 w2) (hz : PenAt w3 w2.heap.size w2.heap.size 40000 [] false) (h3 : Below w2.heap.size w2 w3) :
    J3 w0 w0.heap.size w1.heap.size w2.heap.size [] [] [] w3 := by
  have a1 := hx.lt
  have a2 := hy.lt
  have s1 := h1.size
  have s2 := h2.size
  refine ⟨_, _, _, (hx.below h2).below h3, hy.below h3, hz, ?_, ?_, ?_, by omega, by omega, by omega, by omega, by omega, by omega, (h1.trans (h2.mono (by omega))).trans (h3.mono (by omega))⟩ <;>
  · rintro k (rfl | rfl) (h | h) <;> omega
/-- the three pens' ends -/
theorem J3.errs (h : J3 w0 bx bY bz LX LY LZ x) : Calls Try.prog 16 #[.pointer (some ⟨bx, 0, none⟩)] x (fun e y => e = .returned (.int .i64 0) ∧ x = y) ∧ Calls Try.prog 16 #[.pointer (some ⟨bY, 0, none⟩)] x (fun e y => e = .returned (.int .i64 0) ∧ x = y) ∧ Calls Try.prog 16 #[.pointer (some ⟨bz, 0, none⟩)] x (fun e y => e = .returned (.int .i64 0) ∧ x = y) := by
  obtain ⟨gx, gy, gz, h⟩ := h
  exact ⟨err_any _ _ _ _ _ _ h.px, err_any _ _ _ _ _ _ h.py, err_any _ _ _ _ _ _ h.pz⟩
theorem J3.lens (h : J3 w0 bx bY bz LX LY LZ x) : Calls Try.prog 14 #[.pointer (some ⟨bx, 0, none⟩)] x (fun e y => e = .returned (.int .i64 LX.length) ∧ x = y) ∧ Calls Try.prog 14 #[.pointer (some ⟨bY, 0, none⟩)] x (fun e y => e = .returned (.int .i64 LY.length) ∧ x = y) := by
  obtain ⟨gx, gy, gz, h⟩ := h
  exact ⟨len_any _ _ _ _ _ _ h.px, len_any _ _ _ _ _ _ h.py⟩
theorem J3.bytes (h : J3 w0 bx bY bz LX LY LZ x) (hx : LX.length ≤ 100000) (hy : LY.length ≤ 100000) (hz : LZ.length ≤ 100000) : Calls Try.prog 13 #[.pointer (some ⟨bx, 0, none⟩)] x (fun e y => ∃ v, e = .returned v ∧ Made x y LX v) ∧ Calls Try.prog 13 #[.pointer (some ⟨bY, 0, none⟩)] x (fun e y => ∃ v, e = .returned v ∧ Made x y LY v) ∧ Calls Try.prog 13 #[.pointer (some ⟨bz, 0, none⟩)] x (fun e y => ∃ v, e = .returned v ∧ Made x y LZ v) := by
  obtain ⟨gx, gy, gz, h⟩ := h
  exact ⟨Bytes_any _ _ _ _ _ _ h.px (by omega), Bytes_any _ _ _ _ _ _ h.py (by omega), Bytes_any _ _ _ _ _ _ h.pz (by omega)⟩
theorem J3.left (h : J3 w0 bx bY bz LX LY LZ x) (hz : LZ.length ≤ 100000) : Calls Try.prog 15 #[.pointer (some ⟨bz, 0, none⟩)] x (fun e y => e = .returned (.int .i64 (40000 - LZ.length)) ∧ ∃ n, y = x.drewN n) := by
  obtain ⟨gx, gy, gz, h⟩ := h
  exact Left_any _ _ _ _ _ h.pz (by decide) (by decide) (by omega)
end
end Go.Proofs.Ytajeefnogdledaa
