/-
  append of elements of several numbers each that lie anywhere (or nowhere) onto a row that the call made. No program is imported.
-/
import Derived.Test.YtnbhiamnoapmlaaApp
import Derived.Maps.AppendAt
namespace Go.Proofs.Ytnbhiamnoapmlaa
open Go.RowKit

theorem wpList_append_szd {P : Program} {w : World} {ops : Array Oper} {rest : List Oper} {o : Oper} {a : Act} {Q : Exit → Act → World → Prop} (hwt : Region.wanted o (yielded ops a.tmps) = true) (s x : Operand) (t : TypeId)
    (ho : o.op = .call { callee := .builtin .append, args := #[s, x], argTypes := #[t, t] })
    (base : Nat) (e : TypeId) (i : TypeInfo) (z : Value) (size bytes : Nat) (ht : P.underlying t = some (.slice e)) (hi : P.info? e = some i) (hz : i.zero = some z) (hsize : i.size = size) (hby : i.bytes = bytes) (hzs : z.cells.size = size) (hsz : 0 < size)
    (k : IntKind) (n : Nat) (xs : List Value) (zs : List Int) (v : Value) (hs : a.eval s = v) (hown : w.ownsRow base e size v n xs) (A : Option Addr) (m c B : Nat) (hx : a.eval x = .slice A m c) (hm : zs.length = m * size) (hn : Nums k w B A zs)
    (h63 : n + m ≤ maxLen) (hbytes : (n + m) * bytes ≤ 140737488355328) (hbase : base ≤ w.heap.size)
    (h : ∀ v' w', w'.ownsRow base e size v' (n + m) (xs ++ zs.map (Value.int k)) → w.grownBy w' v.ownBlock → wpList P ops Q rest (a.put o.dst v') w') : wpList P ops Q (o :: rest) a w := by
  simp only [wpList, hwt, if_true]
  left
  by_cases hz0 : zs = []
  · subst hz0
    obtain rfl : m = 0 := by
      have h1 : m * size = 0 := by simpa using hm.symm
      rcases Nat.mul_eq_zero.1 h1 with h | h <;> omega
    have hv : ∃ b n cap, v = .slice b n cap ∧ n ≤ cap := by
      rcases hown.2 with ⟨rfl, _⟩ | ⟨g, cap, cur, rfl, _, _, hle, _⟩
      · exact ⟨_, _, _, rfl, Nat.le_refl _⟩
      · exact ⟨_, _, _, rfl, hle⟩
    obtain ⟨b, q, cap, rfl, hle⟩ := hv
    refine Lib.wp_append_run w s x t t ho _ _ hs hx _ w (run_append_nothing w t t o.type e i ht hi b q cap hle _ ?_) (h _ _ (by simpa using hown) ⟨rfl, rfl, rfl, Nat.le_refl _, fun _ _ _ => rfl⟩)
    cases A with
    | none => exact ⟨.inl ⟨e, ht⟩, fun _ => rfl, run_firstCells_none w i.size 0 0 c, run_firstCells_none w.drew i.size 0 0 c, by simp, fun _ h => by cases h⟩
    | some ad => exact Src.ofSlice w ht ad 0 c [] (by simp) (by simp) (fun _ h => by cases h)
  · obtain ⟨b1, o1, rfl, hb1, hc⟩ := hn hz0
    refine wp_append_own w s x t ho base e i z size bytes ht hi hz hsize hby hzs hsz v n xs hs hown ⟨b1, o1, none⟩ m c (zs.map (Value.int k)) hx (by simpa using hm) (fun j u hj => ?_) (fun u hu => by obtain ⟨y, _, rfl⟩ := List.mem_map.1 hu; rfl) h63 hbytes hbase fun v' w' h1 h2 _ => h v' w' h1 h2
    rw [List.getElem?_map] at hj
    obtain ⟨y, hy, rfl⟩ := Option.map_eq_some_iff.1 hj
    rw [Addr.add_lit]
    exact hc j y hy
/-- numbers of a row that the call made, elements of any size -/
theorem nums_of_own {w : World} {base e size n : Nat} {k : IntKind} {v : Value} {zs : List Int} (h : w.ownsRow base e size v n (zs.map (Value.int k))) (_hsz : 0 < size) : ∃ A c, v = .slice A n c ∧ n ≤ c ∧ Nums k w w.heap.size A zs := by
  have h1 := h.2
  rcases h1 with ⟨rfl, h0⟩ | ⟨g, cap, cur, rfl, hg, hh, hn, _⟩
  · subst h0
    have h2 := h.1
    rw [Nat.zero_mul] at h2
    have : zs = [] := by simpa using h2
    subst this
    exact ⟨none, 0, rfl, Nat.le_refl _, Nums.nil⟩
  · refine ⟨_, cap, rfl, hn, fun _ => ⟨g, 0, rfl, (Array.getElem?_eq_some_iff.1 hh).1, fun j c hj => ?_⟩⟩
    have := h.cells (g := g) rfl j (.int k c) (by rw [List.getElem?_map, hj]; rfl)
    rwa [Addr.add_lit] at this
end Go.Proofs.Ytnbhiamnoapmlaa
