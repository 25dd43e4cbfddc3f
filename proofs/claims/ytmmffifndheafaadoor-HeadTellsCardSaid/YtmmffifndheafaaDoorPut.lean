/-
  Contracts of the functions of layer 1 that make bytes: varint.Put and the document's Put.
-/
import Derived.Test.YtmmffifndheafaaDoorByte
import Derived.Test.YtmmffifndheafaaDoorSame
import Derived.Test.YtmmffifndheafaaDoorNumGet
import Derived.Maps.AppendAt
namespace Go.Proofs.YtmmffifndheafaaDoor
open Go.RowKit
set_option maxRecDepth 100000

/-- the bytes of numbers, one behind the other -/
def puts (zs : List Int) : List Int := zs.flatMap fun z => Vi.enc z.toNat
theorem puts_nil : puts [] = [] := rfl
theorem puts_append (a b : List Int) : puts (a ++ b) = puts a ++ puts b := by simp [puts]
theorem puts_one (z : Int) : puts [z] = Vi.enc z.toNat := by simp [puts]
theorem puts_byte (zs : List Int) : ∀ c ∈ puts zs, 0 ≤ c ∧ c ≤ 255 := by
  intro c hc
  simp only [puts, List.mem_flatMap] at hc
  obtain ⟨z, _, hc⟩ := hc
  exact Vi.enc_byte _ c hc
theorem puts_length (zs : List Int) (h : ∀ z ∈ zs, 0 ≤ z ∧ z ≤ 18446744073709551615) : (puts zs).length ≤ 10 * zs.length := by
  induction zs with
  | nil => simp [puts]
  | cons z zs ih =>
    have h1 := ih (fun x hx => h x (by simp [hx]))
    have h2 := Vi.enc_le10 (n := z.toNat) (by have := h z (by simp); omega)
    rw [show z :: zs = [z] ++ zs from rfl, puts_append, puts_one, List.length_append, List.length_append, List.length_singleton]
    omega
theorem take_more {zs : List Int} {k : Nat} {z : Int} (h : zs[k]? = some z) : zs.take (k + 1) = zs.take k ++ [z] := by
  have hk : k < zs.length := by
    rcases Nat.lt_or_ge k zs.length with h1 | h1
    · exact h1
    · rw [List.getElem?_eq_none h1] at h; simp at h
  rw [List.getElem?_eq_getElem hk] at h
  injection h with h
  rw [List.take_succ_eq_append_getElem hk, h]

theorem or128 (m : Nat) : bits .or .u8 (IntKind.u8.wrap (m : Int)) 128 = ((m % 128 + 128 : Nat) : Int) := by
  rw [IntKind.wrap_u8, show (m : Int) % 256 = ((m % 256 : Nat) : Int) by omega, show (128 : Int) = ((128 : Nat) : Int) from rfl, u8_or_nat _ _ (by omega) (by omega)]
  have h : m % 256 ||| 128 = m % 128 + 128 := by
    have h1 : ∀ i : Fin 256, i.val ||| 128 = i.val % 128 + 128 := by decide +kernel
    have := h1 ⟨m % 256, by omega⟩
    simp only at this
    omega
  rw [h]

/-- bytes that a call has made -/
def Made (w w' : World) (L : List Int) (v : Value) : Prop := w'.ownsRow w.heap.size 5 1 v L.length (L.map (Value.int .u8)) ∧ Below w.heap.size w w'
theorem Made.nil (w : World) : Made w w [] (.slice none 0 0) := ⟨World.ownsRow_nil _ _ _ _, Below.refl _ _⟩
theorem Made.slice {w w' : World} {L : List Int} {v : Value} (h : Made w w' L v) : ∃ A c, v = .slice A L.length c ∧ L.length ≤ c ∧ Nums .u8 w' w'.heap.size A L := by
  have h1 := h.1
  obtain ⟨_, h2⟩ := h1
  rcases h2 with ⟨rfl, h0⟩ | ⟨g, cap, cur, rfl, hg, hh, hn, _⟩
  · have : L = [] := List.eq_nil_of_length_eq_zero h0
    subst this
    exact ⟨none, 0, rfl, by simp, Nums.nil⟩
  · exact ⟨some ⟨g, 0, none⟩, cap, rfl, hn, Nums.of_own h.1⟩
theorem Made.app {w w1 w2 : World} {L : List Int} {v v' : Value} {x y : Int} {o : Obj} (h : Made w w1 L v) (hown : w2.ownsRow w.heap.size 5 1 v' (L.length + 1) (L.map (Value.int .u8) ++ [.int .u8 x])) (hg : (w1.alloc o).grownBy w2 v.ownBlock) (hx : x = y) : Made w w2 (L ++ [y]) v' := by
  subst hx
  refine ⟨by simpa using hown, ((h.2.alloc h.2.size o).grown hg (by have := h.2.size; simp; omega) (fun k hk => ?_))⟩
  have hv := h.1
  obtain ⟨_, h2⟩ := hv
  rcases h2 with ⟨rfl, h0⟩ | ⟨g, cap, cur, rfl, hg, hh, hn, _⟩
  · simp [Value.ownBlock] at hk
  · simp [Value.ownBlock] at hk; omega



end Go.Proofs.YtmmffifndheafaaDoor
