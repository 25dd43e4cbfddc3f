/-
  Words for memory: behind j rounds of a loop that counts in a box; numbers beside a record that turns. No program is imported.
-/
import Derived.Test.YtnbhiamnoapmlaaKpC
namespace Go.Proofs.Ytnbhiamnoapmlaa
open Go.RowKit

theorem cells_of_cell {W : World} {p : Addr} {v : Value} (h : W.cell? p = some v) : ∃ o : Obj, W.heap[p.block]? = some o ∧ o.isCells = true := by
  unfold World.cell? at h
  cases ho : W.heap[p.block]? with
  | none => simp [ho] at h
  | some o => exact ⟨o, rfl, by cases o <;> simp_all [Obj.isCells]⟩
theorem Nums.putObj {k : IntKind} {V : World} {B l : Nat} {a : Option Addr} {zs : List Int} {o : Obj} (h : Nums k V B a zs) (ho : V.heap[l]? = some o) (hc : o.isCells = false) (o' : Obj) : Nums k (V.putObj l o') B a zs := fun hn => by
  obtain ⟨b, off, e, hb, hcl⟩ := h hn
  refine ⟨b, off, e, hb, fun j c hj => ?_⟩
  have h1 := hcl j c hj
  obtain ⟨o2, h2, h3⟩ := cells_of_cell h1
  refine (World.cell?_of_block (World.putObj_heap_other (fun e => ?_))).trans h1
  simp only at h2 e
  subst e
  rw [ho] at h2
  injection h2 with h2
  subst h2
  rw [hc] at h3; cases h3
theorem off_below {S : Nat → Prop} {w V V' : World} (h : Off S w V) (hb : Below w.heap.size V V') : Off S w V' :=
  ⟨hb.os.trans h.os, hb.tape.trans h.tape, hb.output.trans h.output, Nat.le_trans h.size hb.size, fun k hk hn => (hb.block k hk).trans (h.block k hk hn)⟩
/-- behind j rounds of the law's loop: the box b holds j, all else is as it was -/
def Ld (w : World) (b : Nat) (t : TypeId) (j : Nat) (V : World) : Prop := Boxed V b t (.int .i64 ((j : Nat) : Int)) ∧ Off (fun k => k = b) w V
theorem Ld.below {w V V' : World} {b : Nat} {t : TypeId} {j : Nat} (h : Ld w b t j V) (hb : b < w.heap.size) (hB : Below w.heap.size V V') : Ld w b t j V' :=
  ⟨(hB.block b hb).trans h.1, off_below h.2 hB⟩
theorem Ld.next {w V V1 : World} {b : Nat} {t : TypeId} {j : Nat} (h : Ld w b t j V) (hb : b < w.heap.size) (h1 : Below w.heap.size V V1) : Ld w b t (j + 1) (V1.setCell ⟨b, 0, none⟩ (.int .i64 ((j : Int) + 1))) :=
  ⟨by have := Boxed.set (.int .i64 ((j : Int) + 1)) ((h1.block b hb).trans h.1 : Boxed V1 b t _); rw [Int.natCast_succ]; exact this, (off_below h.2 h1).setCell (p := ⟨b, 0, none⟩) rfl _⟩
theorem Ld.keepS {S : Nat → Prop} {V : World} {b : Nat} (hb : ¬ S b) (v : Value) : KeepS S V (V.setCell ⟨b, 0, none⟩ v) := (KeepS.refl S V).set hb v
end Go.Proofs.Ytnbhiamnoapmlaa
