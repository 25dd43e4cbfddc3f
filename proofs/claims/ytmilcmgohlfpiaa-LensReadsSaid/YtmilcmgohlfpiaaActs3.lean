/-
  The reads of LensReads that came in as an argument: from what an argument reads as to its cells.
-/
import Derived.Test.YtmilcmgohlfpiaaReads
import Derived.ProofKit
import Derived.OpenShut
import Derived.Deep.Slices
import Derived.ChangeSame
namespace Go.Proofs.Ytmilcmgohlfpiaa
open Go.RowKit Go.ChangeShapes Go.WideShapes Go.Deep
set_option maxRecDepth 100000

section
variable {H : Type} {enc : TypeId × Value → H} {w : World}
theorem row_of {T E : TypeId} {k : IntKind} {fuel : Nat} {v : Value} {x : DataW H × List MemPlace} (ht : Try.prog.underlying T = some (.slice E)) (he : Try.prog.underlying E = some (.int k)) (hc : Try.prog.cellsOf E = 1)
    (h : DataW.trod enc Try.prog w 0 (fun _ => true) true fuel T [v] = some x) : ∃ a n c es, v = .slice a n c ∧ es.length = n ∧ n ≤ c ∧ Nums k w w.heap.size a es ∧ ∀ z ∈ es, (Lit.int k z).wf = true := by
  rcases open_ints ht he hc h with ⟨hcs, _⟩ | ⟨a, l, c, zs, hcs, _, hl, hm, hz, _, hcell, hwz⟩
  · injection hcs with hcs
    exact ⟨none, 0, 0, [], hcs, rfl, Nat.le_refl _, Nums.nil, fun z hz => by cases hz⟩
  · injection hcs with hcs
    obtain ⟨es, h1, h2, h3, h4, h5⟩ := IsRow.elems (k := k) (w := w) (a := some a) (len := l) (cap := c) (zs := zs) (.inr ⟨_, rfl, hl, hm, by simpa using hz, hcell, hwz⟩)
    exact ⟨some a, l, c, es, hcs, h1, h2, h4, h5⟩
/-- one read's cells -/
theorem act_of {fuel : Nat} {cs : List Value} {x : DataW H × List MemPlace} (h : DataW.trod enc Try.prog w 0 (fun _ => true) true fuel 30 cs = some x) :
    ∃ d : ActD, cs = [.int .i64 d.kind, .int .i64 d.N, .int .u64 d.most, .int .i64 d.least, .int .i64 d.high] ∧ d.ok := by
  obtain ⟨xs, n, _, _, hlen, hxl, hf⟩ := DataW.trod_struct Try.underlying30 h
  have h5 : Try.prog.cellsOf 30 = 5 := by kernel_rfl
  have k0 : Try.prog.cellsOf 3 = 1 := by kernel_rfl
  have k2 : Try.prog.cellsOf 28 = 1 := by kernel_rfl
  have k3 : Try.prog.cellsOf 2 = 1 := by kernel_rfl
  rw [h5] at hlen
  match cs, hlen with
  | [c0, c1, c2, c3, c4], _ =>
    have hx : ∀ i, i < 5 → ∃ y, xs[i]? = some y := fun i hi => ⟨_, List.getElem?_eq_getElem (by rw [hxl]; exact hi)⟩
    obtain ⟨y0, e0⟩ := hx 0 (by decide)
    obtain ⟨y1, e1⟩ := hx 1 (by decide)
    obtain ⟨y2, e2⟩ := hx 2 (by decide)
    obtain ⟨y3, e3⟩ := hx 3 (by decide)
    obtain ⟨y4, e4⟩ := hx 4 (by decide)
    have f0 : DataW.trod enc Try.prog w 0 (fun _ => true) true n 3 (([c0, c1, c2, c3, c4].drop 0).take (Try.prog.cellsOf 3)) = some y0 := (hf 0 _ rfl).trans e0
    rw [k0] at f0
    have f1 : DataW.trod enc Try.prog w 0 (fun _ => true) true n 3 (([c0, c1, c2, c3, c4].drop 1).take (Try.prog.cellsOf 3)) = some y1 := (hf 1 _ rfl).trans e1
    rw [k0] at f1
    have f2 : DataW.trod enc Try.prog w 0 (fun _ => true) true n 28 (([c0, c1, c2, c3, c4].drop 2).take (Try.prog.cellsOf 28)) = some y2 := (hf 2 _ rfl).trans e2
    rw [k2] at f2
    have f3 : DataW.trod enc Try.prog w 0 (fun _ => true) true n 2 (([c0, c1, c2, c3, c4].drop 3).take (Try.prog.cellsOf 2)) = some y3 := (hf 3 _ rfl).trans e3
    rw [k3] at f3
    have f4 : DataW.trod enc Try.prog w 0 (fun _ => true) true n 2 (([c0, c1, c2, c3, c4].drop 4).take (Try.prog.cellsOf 2)) = some y4 := (hf 4 _ rfl).trans e4
    rw [k3] at f4
    obtain ⟨kd, g0, _, _⟩ := DataW.trod_int Try.underlying3 f0
    obtain ⟨N, g1, _, hN⟩ := DataW.trod_int Try.underlying3 f1
    obtain ⟨mo, g2, _, _⟩ := DataW.trod_int Try.underlying28 f2
    obtain ⟨le, g3, _, _⟩ := DataW.trod_int Try.underlying2 f3
    obtain ⟨hi, g4, _, _⟩ := DataW.trod_int Try.underlying2 f4
    injection g0 with g0
    injection g1 with g1
    injection g2 with g2
    injection g3 with g3
    injection g4 with g4
    subst g0 g1 g2 g3 g4
    refine ⟨⟨kd, N, mo, le, hi⟩, rfl, ?_⟩
    have h := hN
    simp [Lit.wf] at h
    exact h
theorem add_zero' (a : Addr) : a.add 0 = a := by unfold Addr.add; rw [if_pos rfl]
theorem acts_of {fuel : Nat} {A : Option Addr} {len cap : Nat} {x : DataW H × List MemPlace} (h : DataW.trod enc Try.prog w 0 (fun _ => true) true fuel 23 [.slice A len cap] = some x) :
    ∃ ds : List ActD, ds.length = len ∧ len ≤ 9223372036854775807 ∧ ActRow w A ds := by
  rcases open_slice Try.underlying23 h with ⟨hcs, _⟩ | ⟨a, l, c, m, n, D, Pl, hcs, _, hl, hm, hmm, _, hi⟩
  · injection hcs with hcs
    injection hcs with h1 h2 h3
    subst h1 h2 h3
    exact ⟨[], rfl, by decide, fun i d hd => by simp at hd⟩
  · injection hcs with hcs
    injection hcs with h1 h2 h3
    subst h1 h2 h3
    have h5 : Try.prog.cellsOf 30 = 5 := by kernel_rfl
    have hmc : m = cap := by simpa using hmm
    have key : ∀ i, ∃ d : ActD, i < len → d.ok ∧ ∃ b o, some a = some (⟨b, o, none⟩ : Addr) ∧ b < w.heap.size ∧ w.cell? ⟨b, o + i * 5, none⟩ = some (.int .i64 d.kind) ∧ w.cell? ⟨b, o + i * 5 + 1, none⟩ = some (.int .i64 d.N) ∧ w.cell? ⟨b, o + i * 5 + 2, none⟩ = some (.int .u64 d.most) ∧
        w.cell? ⟨b, o + i * 5 + 3, none⟩ = some (.int .i64 d.least) ∧ w.cell? ⟨b, o + i * 5 + 4, none⟩ = some (.int .i64 d.high) := by
      intro i
      by_cases hil : i < len
      · obtain ⟨cs', hc', ht'⟩ := hi i (by omega)
        rw [h5] at hc'
        obtain ⟨d, rfl, hok⟩ := act_of ht'
        obtain ⟨_, _, hcell⟩ := World.cells?_some hc'
        obtain ⟨cs0, hc0, ht0⟩ := hi 0 (by omega)
        rw [h5] at hc0
        obtain ⟨d0, rfl, _⟩ := act_of ht0
        have hz := (World.cells?_some hc0).2.2 0 (by decide)
        rw [Nat.zero_mul, add_zero', add_zero'] at hz
        obtain ⟨b, o, sp⟩ := a
        have hsp : sp = none := World.cell?_spot hz
        subst hsp
        have hcj : ∀ j v, j < 5 → [Value.int .i64 d.kind, .int .i64 d.N, .int .u64 d.most, .int .i64 d.least, .int .i64 d.high][j]? = some v → w.cell? ⟨b, o + i * 5 + j, none⟩ = some v := fun j v hj hv => by
          have h0 := hcell j hj
          rw [Addr.add_lit, Addr.add_lit, hv] at h0
          exact h0
        have c0 := hcj 0 _ (by decide) rfl
        exact ⟨d, fun _ => ⟨hok, b, o, rfl, block_of_cell c0, c0, hcj 1 _ (by decide) rfl, hcj 2 _ (by decide) rfl, hcj 3 _ (by decide) rfl, hcj 4 _ (by decide) rfl⟩⟩
      · exact ⟨⟨0, 0, 0, 0, 0⟩, fun h => absurd h hil⟩
    obtain ⟨f, hf⟩ := Classical.axiomOfChoice key
    refine ⟨(List.range len).map f, by simp, by unfold maxLen at hm; omega, fun i d hd => ?_⟩
    rw [List.getElem?_map] at hd
    obtain ⟨j, hj, rfl⟩ := Option.map_eq_some_iff.1 hd
    have hil : i < len := by
      rcases Nat.lt_or_ge i len with h | h
      · exact h
      · rw [List.getElem?_eq_none (by simpa using h)] at hj; simp at hj
    have hji : i < len ∧ j = i := by
      rw [List.getElem?_range hil] at hj
      exact ⟨hil, by injection hj with hj; exact hj.symm⟩
    obtain ⟨hlt, rfl⟩ := hji
    exact hf j hlt
end
end Go.Proofs.Ytmilcmgohlfpiaa
