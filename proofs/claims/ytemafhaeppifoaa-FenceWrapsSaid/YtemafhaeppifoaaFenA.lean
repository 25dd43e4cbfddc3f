/-
  A slice of slices of bytes that came in, as it lies.
-/
import Derived.Test.YtemafhaeppifoaaLs1
import Derived.Deep.Matrix
import Derived.ProofKit
import Derived.OpenShut
import Derived.Deep.Slices
import Derived.ChangeSame
import Derived.Test.YtemafhaeppifoaaRows
namespace Go.Proofs.Ytemafhaeppifoaa
open Go.RowKit Go.ChangeShapes Go.WideShapes Go.Deep
set_option maxRecDepth 100000

/-- the lists bl lie at A -/
def ListArg (w : World) (A : Option Addr) (bl : List (List Int)) : Prop :=
  ∀ (i : Nat) (b : List Int), bl[i]? = some b → ∃ (g o : Nat) (Ai : Option Addr) (ci : Nat), A = some ⟨g, o, none⟩ ∧ g < w.heap.size ∧ w.cell? ⟨g, o + i, none⟩ = some (.slice Ai b.length ci) ∧ b.length ≤ ci ∧ ci ≤ maxLen ∧ Nums .u8 w w.heap.size Ai b ∧ ∀ z ∈ b, (Lit.int .u8 z).wf = true

theorem nums_of_cells {k : IntKind} {w : World} {A : Option Addr} {zs : List Int} (h0 : A = none → zs = []) (hc : ∀ a, A = some a → ∀ c, c < zs.length → w.cell? (a.add c) = some (.int k (zs.getD c 0))) : Nums k w w.heap.size A zs := fun hn => by
  cases A with
  | none => exact absurd (h0 rfl) hn
  | some x =>
    have hp : 0 < zs.length := by
      rcases Nat.eq_zero_or_pos zs.length with h | h
      · exact absurd (List.eq_nil_of_length_eq_zero h) hn
      · exact h
    obtain ⟨b, off, spot⟩ := x
    have hc0 := hc _ rfl 0 hp
    have hspot : spot = none := by simpa [Addr.add] using World.cell?_spot hc0
    subst hspot
    refine ⟨b, off, rfl, by simpa [Addr.add] using block_of_cell hc0, fun j c hj => ?_⟩
    have hlt : j < zs.length := by
      rcases Nat.lt_or_ge j zs.length with h | h
      · exact h
      · rw [List.getElem?_eq_none h] at hj; simp at hj
    have hcj := hc _ rfl j hlt
    rw [List.getD, hj] at hcj
    by_cases hj0 : j = 0
    · subst hj0; simpa [Addr.add] using hcj
    · simpa [Addr.add, hj0] using hcj

theorem rows_of {H : Type} {enc : TypeId × Value → H} {w : World} {base : Nat} {held : Bool} {fuel : Nat} {a : Option Addr} {len cap : Nat} {x : DataW H × List MemPlace}
    (h : DataW.trod enc Try.prog w base (fun _ => true) held fuel 23 [Value.slice a len cap] = some x) :
    ∃ ds : List (List Int), ds.length = len ∧ len ≤ 9223372036854775807 ∧ ListArg w a ds := by
  rcases open_int_rows Try.underlying23 Try.underlying22 Try.underlying5 (by kernel_rfl) (by kernel_rfl) h with ⟨hcs, _⟩ | ⟨ad, l, c, A, L, C, Z, hcs, hb, hl, hm, _, hr⟩
  · simp at hcs
    obtain ⟨rfl, rfl, rfl⟩ := hcs
    exact ⟨[], rfl, by omega, fun i b hi => by simp at hi⟩
  · simp at hcs
    obtain ⟨rfl, rfl, rfl⟩ := hcs
    refine ⟨(List.range len).map fun r => (Z r).take (L r), by simp, by unfold maxLen at hm; omega, fun i b hi => ?_⟩
    rw [List.getElem?_map] at hi
    obtain ⟨r, hr1, rfl⟩ := Option.map_eq_some_iff.1 hi
    have hil : i < len := by
      rcases Nat.lt_or_ge i len with h1 | h1
      · exact h1
      · rw [List.getElem?_eq_none (by simpa using h1)] at hr1; cases hr1
    rw [List.getElem?_range hil] at hr1
    injection hr1 with hr1
    subst hr1
    obtain ⟨h1, h2, h3, h4, h5, h6, h7⟩ := hr i (by omega)
    obtain ⟨g, o, spot⟩ := ad
    have hspot : spot = none := by
      have h8 := (hr 0 (by omega)).1
      simpa [Addr.add] using World.cell?_spot h8
    subst hspot
    have hlen : ((Z i).take (L i)).length = L i := by rw [List.length_take]; omega
    rw [Addr.add_lit] at h1
    refine ⟨g, o, A i, C i, rfl, block_of_cell h1, by rw [hlen]; exact h1, by rw [hlen]; exact h2, h3, ?_, fun z hz => h5 z (List.mem_of_mem_take hz)⟩
    refine Nums.take (nums_of_cells (fun e => List.eq_nil_of_length_eq_zero (by rw [h4]; exact h6 e)) fun a' ha c hc => (h7 a' ha).2 c (by omega)) _
end Go.Proofs.Ytemafhaeppifoaa
