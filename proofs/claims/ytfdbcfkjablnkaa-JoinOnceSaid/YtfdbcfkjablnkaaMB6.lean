/-
  A part of the texts of one proof, put together: FrA.
-/
import Derived.Deep.Slices
import Derived.ChangeSame
import Derived.Test.YtfdbcfkjablnkaaMB5
namespace Go.Proofs.Ytfdbcfkjablnkaa
open Go.RowKit Go.ChangeShapes Go.WideShapes Go.Deep
set_option maxRecDepth 100000

def i64Ok (z : Int) : Prop := -9223372036854775808 ≤ z ∧ z ≤ 9223372036854775807
/-- its numbers are numbers of its kinds -/
structure Fr.Wf (f : Fr) : Prop where
  v : i64Ok f.v
  k : i64Ok f.k
  i : i64Ok f.i
  c : i64Ok f.c
section
variable {H : Type} {enc : TypeId × Value → H} {w : World}
theorem row_of {T E : TypeId} {k : IntKind} {fuel : Nat} {v : Value} {x : DataW H × List MemPlace} (ht : Try.prog.underlying T = some (.slice E)) (he : Try.prog.underlying E = some (.int k)) (hc : Try.prog.cellsOf E = 1)
    (h : DataW.trod enc Try.prog w 0 (fun _ => true) true fuel T [v] = some x) : ∃ a n c es, v = .slice a n c ∧ es.length = n ∧ n ≤ c ∧ Nums k w w.heap.size a es ∧ ∀ z ∈ es, (Lit.int k z).wf = true := by
  rcases open_ints ht he hc h with ⟨hcs, _⟩ | ⟨a, l, c, zs, hcs, _, hl, hm, hz, _, hcell, hwz⟩
  · injection hcs with hcs
    exact ⟨none, 0, 0, [], hcs, rfl, Nat.le_refl _, Nums.nil, fun z hz => by cases hz⟩
  · injection hcs with hcs
    obtain ⟨es, h1, h2, h3, h4, h5⟩ := IsRow.elems (k := k) (w := w) (a := some a) (len := l) (cap := c) (zs := zs) (.inr ⟨_, rfl, hl, hm, by simpa using hz, hcell, hwz⟩)
    exact ⟨some a, l, c, es, hcs, h1, h2, h4, h5⟩
theorem row_short {T E : TypeId} {k : IntKind} {fuel : Nat} {v : Value} {x : DataW H × List MemPlace} (ht : Try.prog.underlying T = some (.slice E)) (he : Try.prog.underlying E = some (.int k)) (hc : Try.prog.cellsOf E = 1)
    (h : DataW.trod enc Try.prog w 0 (fun _ => true) true fuel T [v] = some x) : ∃ a n c, v = .slice a n c ∧ c ≤ maxLen := by
  rcases open_ints ht he hc h with ⟨hcs, _⟩ | ⟨a, l, c, zs, hcs, _, hl, hm, hz, _, hcell, hwz⟩
  · injection hcs with hcs
    exact ⟨none, 0, 0, hcs, Nat.zero_le _⟩
  · injection hcs with hcs
    exact ⟨some a, l, c, hcs, hm⟩
/-- a head's cells -/
theorem head_of {fuel : Nat} {cs : List Value} {x : DataW H × List MemPlace} (h : DataW.trod enc Try.prog w 0 (fun _ => true) true fuel 32 cs = some x) :
    ∃ v k s i c : Int, cs = [.int .i64 v, .int .i64 k, .int .u32 s, .int .i64 i, .int .i64 c] ∧ 0 ≤ s ∧ s ≤ 4294967295 ∧ i64Ok v ∧ i64Ok k ∧ i64Ok i ∧ i64Ok c := by
  obtain ⟨xs, n, _, _, hlen, hxl, hf⟩ := DataW.trod_struct Try.underlying32 h
  have h5 : Try.prog.cellsOf 32 = 5 := by kernel_rfl
  have k0 : Try.prog.cellsOf 3 = 1 := by kernel_rfl
  have k1 : Try.prog.cellsOf 22 = 1 := by kernel_rfl
  rw [h5] at hlen
  match cs, hlen with
  | [c0, c1, c2, c3, c4], _ =>
    have hx : ∀ i, i < 5 → ∃ y, xs[i]? = some y := fun i hi => ⟨_, List.getElem?_eq_getElem (by rw [hxl]; exact hi)⟩
    obtain ⟨y0, e0⟩ := hx 0 (by decide)
    obtain ⟨y1, e1⟩ := hx 1 (by decide)
    obtain ⟨y2, e2⟩ := hx 2 (by decide)
    obtain ⟨y3, e3⟩ := hx 3 (by decide)
    obtain ⟨y4, e4⟩ := hx 4 (by decide)
    have f0 : DataW.trod enc Try.prog w 0 (fun _ => true) true n 3 (([c0, c1, c2, c3, c4].drop 0).take (Try.prog.cellsOf 3)) = some y0 := (hf 0 _ rfl).trans e0
    rw [k0] at f0
    have f1 : DataW.trod enc Try.prog w 0 (fun _ => true) true n 3 (([c0, c1, c2, c3, c4].drop 1).take (Try.prog.cellsOf 3)) = some y1 := (hf 1 _ rfl).trans e1
    rw [k0] at f1
    have f2 : DataW.trod enc Try.prog w 0 (fun _ => true) true n 22 (([c0, c1, c2, c3, c4].drop 2).take (Try.prog.cellsOf 22)) = some y2 := (hf 2 _ rfl).trans e2
    rw [k1] at f2
    have f3 : DataW.trod enc Try.prog w 0 (fun _ => true) true n 3 (([c0, c1, c2, c3, c4].drop 3).take (Try.prog.cellsOf 3)) = some y3 := (hf 3 _ rfl).trans e3
    rw [k0] at f3
    have f4 : DataW.trod enc Try.prog w 0 (fun _ => true) true n 3 (([c0, c1, c2, c3, c4].drop 4).take (Try.prog.cellsOf 3)) = some y4 := (hf 4 _ rfl).trans e4
    rw [k0] at f4
    obtain ⟨v, g0, _, hv⟩ := DataW.trod_int Try.underlying3 f0
    obtain ⟨k, g1, _, hk⟩ := DataW.trod_int Try.underlying3 f1
    obtain ⟨s, g2, _, hs⟩ := DataW.trod_int Try.underlying22 f2
    obtain ⟨i, g3, _, hi⟩ := DataW.trod_int Try.underlying3 f3
    obtain ⟨c, g4, _, hc⟩ := DataW.trod_int Try.underlying3 f4
    injection g0 with g0
    injection g1 with g1
    injection g2 with g2
    injection g3 with g3
    injection g4 with g4
    subst g0 g1 g2 g3 g4
    have hr : 0 ≤ s ∧ s ≤ 4294967295 := by
      have h := hs
      simp [Lit.wf] at h
      exact h
    exact ⟨v, k, s, i, c, rfl, hr.1, hr.2, bounds_i64 hv, bounds_i64 hk, bounds_i64 hi, bounds_i64 hc⟩
/-- a frame's cells -/
theorem fr_of {fuel : Nat} {cs : List Value} {x : DataW H × List MemPlace} (h : DataW.trod enc Try.prog w 0 (fun _ => true) true fuel 35 cs = some x) :
    ∃ f : Fr, cs = f.cs.toList ∧ f.At w w.heap.size ∧ f.Wf := by
  obtain ⟨xs, n, _, _, hlen, hxl, hf⟩ := DataW.trod_struct Try.underlying35 h
  have h6 : Try.prog.cellsOf 35 = 6 := by kernel_rfl
  have k0 : Try.prog.cellsOf 32 = 5 := by kernel_rfl
  have k1 : Try.prog.cellsOf 33 = 1 := by kernel_rfl
  rw [h6] at hlen
  match cs, hlen with
  | [c0, c1, c2, c3, c4, c5], _ =>
    have hx : ∀ i, i < 2 → ∃ y, xs[i]? = some y := fun i hi => ⟨_, List.getElem?_eq_getElem (by rw [hxl]; exact hi)⟩
    obtain ⟨y0, e0⟩ := hx 0 (by decide)
    obtain ⟨y1, e1⟩ := hx 1 (by decide)
    have f0 : DataW.trod enc Try.prog w 0 (fun _ => true) true n 32 (([c0, c1, c2, c3, c4, c5].drop 0).take (Try.prog.cellsOf 32)) = some y0 := (hf 0 _ rfl).trans e0
    rw [k0] at f0
    have f1 : DataW.trod enc Try.prog w 0 (fun _ => true) true n 33 (([c0, c1, c2, c3, c4, c5].drop 5).take (Try.prog.cellsOf 33)) = some y1 := (hf 1 _ rfl).trans e1
    rw [k1] at f1
    obtain ⟨v, k, s, i, c, g0, hs0, hs1, hv, hk, hi, hc⟩ := head_of f0
    obtain ⟨a, m, cp, zs, rfl, l1, l2, l3, l4⟩ := row_of Try.underlying33 Try.underlying5 (by kernel_rfl) f1
    obtain ⟨a2, m2, cp2, q1, q2⟩ := row_short Try.underlying33 Try.underlying5 (by kernel_rfl) f1
    injection q1 with q1 q3 q4
    subst q1 q3 q4
    simp only [List.drop_zero, List.take_succ_cons, List.take_zero, List.cons.injEq, and_true] at g0
    obtain ⟨rfl, rfl, rfl, rfl, rfl⟩ := g0
    subst l1
    exact ⟨⟨v, k, s, i, c, a, cp, zs⟩, rfl, ⟨hs0, hs1, l2, by unfold maxLen at q2; simp only; omega, bytes_of l4, l3⟩, ⟨hv, hk, hi, hc⟩⟩
theorem open_frame {r : Reach} {b0 : Nat} {x : Value} {d : DataW H} {p : List MemPlace} (hv : Value.okWide Try.prog w r b0 35 x) (h : DataW.Trod enc Try.prog w 0 (fun _ => true) true 35 x d p) :
    ∃ f : Fr, x = .agg f.cs ∧ f.At w w.heap.size ∧ f.Wf := by
  obtain ⟨⟨cs⟩, rfl, hsz⟩ := okWide_struct Try.underlying35 hv
  obtain ⟨fuel, hf⟩ := h
  obtain ⟨f, e, h1, h2⟩ := fr_of hf
  simp only [Value.cells] at e
  refine ⟨f, ?_, h1, h2⟩
  rw [e]
theorem frs_of {fuel : Nat} {A : Option Addr} {len cap : Nat} {x : DataW H × List MemPlace} (h : DataW.trod enc Try.prog w 0 (fun _ => true) true fuel 23 [.slice A len cap] = some x) :
    ∃ fs : List Fr, fs.length = len ∧ len ≤ 9223372036854775807 ∧ len ≤ cap ∧ FrsAt w w.heap.size A fs ∧ ∀ f ∈ fs, f.Wf := by
  rcases open_slice Try.underlying23 h with ⟨hcs, _⟩ | ⟨a, l, c, m, n, D, Pl, hcs, _, hl, hm, hmm, _, hi⟩
  · injection hcs with hcs
    injection hcs with h1 h2 h3
    subst h1 h2 h3
    exact ⟨[], rfl, by decide, Nat.le_refl _, ⟨fun f hf => by simp at hf, fun j f hj => by simp at hj⟩, fun f hf => by simp at hf⟩
  · injection hcs with hcs
    injection hcs with h1 h2 h3
    subst h1 h2 h3
    have h6 : Try.prog.cellsOf 35 = 6 := by kernel_rfl
    have hmc : m = cap := by simpa using hmm
    have key : ∀ i, ∃ f : Fr, i < len → f.At w w.heap.size ∧ f.Wf ∧ ∃ b o, some a = some (⟨b, o, none⟩ : Addr) ∧ b < w.heap.size ∧ ∀ (q : Nat) (u : Value), f.cs[q]? = some u → w.cell? ⟨b, o + i * 6 + q, none⟩ = some u := by
      intro i
      by_cases hil : i < len
      · obtain ⟨cs', hc', ht'⟩ := hi i (by omega)
        rw [h6] at hc'
        obtain ⟨f, rfl, hat, hwf⟩ := fr_of ht'
        obtain ⟨_, _, hcell⟩ := World.cells?_some hc'
        obtain ⟨cs0, hc0, ht0⟩ := hi 0 (by omega)
        rw [h6] at hc0
        obtain ⟨f0, rfl, _⟩ := fr_of ht0
        have hz := (World.cells?_some hc0).2.2 0 (by decide)
        have hadd : ∀ a : Addr, a.add 0 = a := fun a => by unfold Addr.add; rw [if_pos rfl]
        rw [Nat.zero_mul, hadd, hadd] at hz
        obtain ⟨b, o, sp⟩ := a
        have hsp : sp = none := World.cell?_spot hz
        subst hsp
        have hcj : ∀ (j : Nat) v, f.cs[j]? = some v → w.cell? ⟨b, o + i * 6 + j, none⟩ = some v := fun j v hv => by
          have hj : j < 6 := (Array.getElem?_eq_some_iff.1 hv).1
          have h0 := hcell j hj
          rw [Addr.add_lit, Addr.add_lit, Array.getElem?_toList, hv] at h0
          exact h0
        exact ⟨f, fun _ => ⟨hat, hwf, b, o, rfl, block_of_cell (hcj 0 _ rfl), hcj⟩⟩
      · exact ⟨⟨0, 0, 0, 0, 0, none, 0, []⟩, fun h => absurd h hil⟩
    obtain ⟨g, hg⟩ := Classical.axiomOfChoice key
    have hall : ∀ (i : Nat) f, ((List.range len).map g)[i]? = some f → i < len ∧ f = g i := fun i f hd => by
      rw [List.getElem?_map] at hd
      obtain ⟨j, hj, rfl⟩ := Option.map_eq_some_iff.1 hd
      have hil : i < len := by
        rcases Nat.lt_or_ge i len with h | h
        · exact h
        · rw [List.getElem?_eq_none (by simpa using h)] at hj; simp at hj
      rw [List.getElem?_range hil] at hj
      injection hj with hj
      exact ⟨hil, by rw [hj]⟩
    refine ⟨(List.range len).map g, by simp, by unfold maxLen at hm; omega, by omega, ⟨fun f hf => ?_, fun j f hj => ?_⟩, fun f hf => ?_⟩
    · obtain ⟨i, hi, rfl⟩ := List.mem_iff_getElem.1 hf
      obtain ⟨h1, h2⟩ := hall i _ (List.getElem?_eq_getElem hi)
      rw [h2]; exact (hg i h1).1
    · obtain ⟨h1, rfl⟩ := hall j f hj
      exact (hg j h1).2.2
    · obtain ⟨i, hi, rfl⟩ := List.mem_iff_getElem.1 hf
      obtain ⟨h1, h2⟩ := hall i _ (List.getElem?_eq_getElem hi)
      rw [h2]; exact (hg i h1).2.1
end
end Go.Proofs.Ytfdbcfkjablnkaa
