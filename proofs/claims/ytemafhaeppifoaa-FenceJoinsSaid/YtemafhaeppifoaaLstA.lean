/-
  append of a list of slices that lies anywhere onto a list that the call made. No program is imported.
-/
import Derived.Test.YtemafhaeppifoaaLists
import Derived.Maps.AppendAt
namespace Go.Proofs.Ytemafhaeppifoaa
open Go.RowKit

theorem list_choose {P : Nat → Value → Prop} : ∀ (n : Nat), (∀ i, i < n → ∃ v, P i v) → ∃ vs : List Value, vs.length = n ∧ ∀ i v, vs[i]? = some v → P i v := by
  intro n
  induction n with
  | zero => exact fun _ => ⟨[], rfl, fun i v h => by simp at h⟩
  | succ n ih =>
    intro h
    obtain ⟨vs, hl, hv⟩ := ih fun i hi => h i (by omega)
    obtain ⟨v, hp⟩ := h n (by omega)
    refine ⟨vs ++ [v], by simp [hl], fun i u hu => ?_⟩
    rcases Nat.lt_or_ge i vs.length with h1 | h1
    · rw [List.getElem?_append_left h1] at hu; exact hv i u hu
    · rw [List.getElem?_append_right h1] at hu
      have h0 : i - vs.length = 0 := by
        rcases Nat.eq_zero_or_pos (i - vs.length) with h0 | h0
        · exact h0
        · rw [List.getElem?_eq_none (by simp only [List.length_singleton]; omega)] at hu; simp at hu
      rw [h0] at hu
      simp only [List.getElem?_cons_zero, Option.some.injEq] at hu
      subst hu
      rw [show i = n by omega]; exact hp

/-- the values vs lie at A, below B -/
def ValsAt (w : World) (B : Nat) (A : Option Addr) (vs : List Value) : Prop := vs ≠ [] → ∃ g, A = some ⟨g, 0, none⟩ ∧ g < B ∧ ∀ j u, vs[j]? = some u → w.cell? ⟨g, j, none⟩ = some u
/-- the values vs are slices of the lists bl, which lie below B -/
def SlsOf (k : IntKind) (w : World) (B : Nat) (vs : List Value) (bl : List (List Int)) : Prop :=
  vs.length = bl.length ∧ ∀ (i : Nat) (b : List Int), bl[i]? = some b → ∃ (Ai : Option Addr) (ci : Nat), vs[i]? = some (.slice Ai b.length ci) ∧ b.length ≤ ci ∧ Nums k w B Ai b
section
variable {k : IntKind} {w w' : World} {B B' : Nat} {A : Option Addr} {vs us : List Value} {bl cl : List (List Int)}
theorem ListAt.vals (h : ListAt k w B A bl) : ∃ vs, ValsAt w B A vs ∧ SlsOf k w B vs bl := by
  obtain ⟨vs, hl, hv⟩ := list_choose (P := fun i v => ∃ (b : List Int) (g : Nat) (Ai : Option Addr) (ci : Nat), bl[i]? = some b ∧ v = .slice Ai b.length ci ∧ A = some ⟨g, 0, none⟩ ∧ g < B ∧ w.cell? ⟨g, i, none⟩ = some (.slice Ai b.length ci) ∧ b.length ≤ ci ∧ Nums k w B Ai b) bl.length fun i hi => by
    obtain ⟨g, Ai, ci, r⟩ := h i bl[i] (List.getElem?_eq_getElem hi)
    exact ⟨_, bl[i], g, Ai, ci, List.getElem?_eq_getElem hi, rfl, r⟩
  refine ⟨vs, fun hn => ?_, hl, fun i b hb => ?_⟩
  · obtain ⟨v, hv0⟩ : ∃ v, vs[0]? = some v := ⟨_, List.getElem?_eq_getElem (by
      rcases Nat.eq_zero_or_pos vs.length with h0 | h0
      · exact absurd (List.eq_nil_of_length_eq_zero h0) hn
      · exact h0)⟩
    obtain ⟨b, g, Ai, ci, _, _, rfl, hg, _⟩ := hv 0 v hv0
    refine ⟨g, rfl, hg, fun j u hu => ?_⟩
    obtain ⟨b2, g2, A2, c2, _, rfl, e, _, hc, _⟩ := hv j u hu
    injection e with e; injection e with e; subst e; exact hc
  · have hi : i < bl.length := by
      rcases Nat.lt_or_ge i bl.length with h1 | h1
      · exact h1
      · rw [List.getElem?_eq_none h1] at hb; cases hb
    obtain ⟨b2, g, Ai, ci, h2, h3, _, _, _, h4, h5⟩ := hv i vs[i] (List.getElem?_eq_getElem (by omega))
    rw [hb] at h2; injection h2 with h2; subst h2
    exact ⟨Ai, ci, by rw [List.getElem?_eq_getElem (by omega), h3], h4, h5⟩
theorem ValsAt.below (h : ValsAt w B A vs) (hb : Below B w w') : ValsAt w' B A vs := fun hn => by
  obtain ⟨g, e, hg, hc⟩ := h hn
  exact ⟨g, e, hg, fun j u hu => (hb.cell (p := ⟨g, j, none⟩) hg).trans (hc j u hu)⟩
theorem ValsAt.mono (h : ValsAt w B A vs) (hB : B ≤ B') : ValsAt w B' A vs := fun hn => by
  obtain ⟨g, e, hg, hc⟩ := h hn
  exact ⟨g, e, by omega, hc⟩
theorem SlsOf.below (h : SlsOf k w B vs bl) (hb : Below B w w') : SlsOf k w' B vs bl := ⟨h.1, fun i b hi => by
  obtain ⟨Ai, ci, h1, h2, h3⟩ := h.2 i b hi
  exact ⟨Ai, ci, h1, h2, h3.below hb⟩⟩
theorem SlsOf.mono (h : SlsOf k w B vs bl) (hB : B ≤ B') : SlsOf k w B' vs bl := ⟨h.1, fun i b hi => by
  obtain ⟨Ai, ci, h1, h2, h3⟩ := h.2 i b hi
  exact ⟨Ai, ci, h1, h2, h3.mono hB⟩⟩
theorem SlsOf.append (h : SlsOf k w B vs bl) (h' : SlsOf k w B us cl) : SlsOf k w B (vs ++ us) (bl ++ cl) := by
  refine ⟨by rw [List.length_append, List.length_append, h.1, h'.1], fun i b hb => ?_⟩
  rcases Nat.lt_or_ge i bl.length with hi | hi
  · rw [List.getElem?_append_left hi] at hb
    rw [List.getElem?_append_left (by rw [h.1]; exact hi)]
    exact h.2 i b hb
  · rw [List.getElem?_append_right hi] at hb
    rw [List.getElem?_append_right (by rw [h.1]; exact hi), h.1]
    exact h'.2 _ b hb
theorem SlsOf.nil (k : IntKind) (w : World) (B : Nat) : SlsOf k w B [] [] := ⟨rfl, fun i b h => by simp at h⟩
theorem SlsOf.one {A : Option Addr} {b : List Int} {c : Nat} (hc : b.length ≤ c) (h : Nums k w B A b) : SlsOf k w B [.slice A b.length c] [b] := ⟨rfl, fun i b2 hb => by
  cases i with
  | zero => simp only [List.getElem?_cons_zero, Option.some.injEq] at hb; subst hb; exact ⟨A, c, rfl, hc, h⟩
  | succ i => simp at hb⟩
theorem SlsOf.one_cell (h : SlsOf k w B vs bl) : ∀ u ∈ vs, u.oneCell' = true := fun u hu => by
  obtain ⟨i, hi, rfl⟩ := List.mem_iff_getElem.1 hu
  have hi2 : i < bl.length := by rw [← h.1]; exact hi
  obtain ⟨Ai, ci, h1, _⟩ := h.2 i bl[i] (List.getElem?_eq_getElem hi2)
  rw [List.getElem?_eq_getElem hi] at h1
  injection h1 with h1
  rw [h1]; simp [Value.oneCell']
/-- .. as a row that the call made lies -/
theorem SlsOf.lies {base n : Nat} {tl : TypeId} {v : Value} (h : SlsOf k w B vs bl) (hown : w.ownsRow base tl 1 v n vs) (hB : B ≤ w.heap.size) : ∃ A c, v = .slice A bl.length c ∧ bl.length ≤ c ∧ ListAt k w w.heap.size A bl := by
  have hnl : n = bl.length := by have := hown.1; have := h.1; omega
  subst hnl
  rcases hown.2 with ⟨rfl, h0⟩ | ⟨g, cap, cur, rfl, hbg, hh, hle, _⟩
  · rw [List.eq_nil_of_length_eq_zero h0]
    exact ⟨none, 0, rfl, Nat.le_refl _, fun i b hi => by simp at hi⟩
  · refine ⟨_, cap, rfl, hle, fun i b hi => ?_⟩
    obtain ⟨Ai, c, hx, hc, hn⟩ := h.2 i b hi
    have h1 := hown.cells (g := g) rfl i _ hx
    rw [Addr.add_lit, Nat.zero_add] at h1
    exact ⟨g, Ai, c, rfl, (Array.getElem?_eq_some_iff.1 hh).1, h1, hc, hn.mono hB⟩
end

theorem wpList_append_vals {P : Program} {w : World} {ops : Array Oper} {rest : List Oper} {o : Oper} {a : Act} {Q : Exit → Act → World → Prop} (hwt : Region.wanted o (yielded ops a.tmps) = true) (s x : Operand) (t : TypeId)
    (ho : o.op = .call { callee := .builtin .append, args := #[s, x], argTypes := #[t, t] })
    (base : Nat) (e : TypeId) (i : TypeInfo) (z : Value) (bytes : Nat) (ht : P.underlying t = some (.slice e)) (hi : P.info? e = some i) (hz : i.zero = some z) (hsize : i.size = 1) (hby : i.bytes = bytes) (hzs : z.cells.size = 1)
    (n : Nat) (xs vs : List Value) (v : Value) (hs : a.eval s = v) (hown : w.ownsRow base e 1 v n xs) (A : Option Addr) (m c B : Nat) (hx : a.eval x = .slice A m c) (hm : vs.length = m) (hn : ValsAt w B A vs) (hone : ∀ u ∈ vs, u.oneCell' = true)
    (h63 : n + m ≤ maxLen) (hbytes : (n + m) * bytes ≤ 140737488355328) (hbase : base ≤ w.heap.size)
    (h : ∀ v' w', w'.ownsRow base e 1 v' (n + m) (xs ++ vs) → w.grownBy w' v.ownBlock → wpList P ops Q rest (a.put o.dst v') w') : wpList P ops Q (o :: rest) a w := by
  subst hm
  simp only [wpList, hwt, if_true]
  left
  by_cases hz0 : vs = []
  · subst hz0
    have hv : ∃ b n cap, v = .slice b n cap ∧ n ≤ cap := by
      rcases hown.2 with ⟨rfl, _⟩ | ⟨g, cap, cur, rfl, _, _, hle, _⟩
      · exact ⟨_, _, _, rfl, Nat.le_refl _⟩
      · exact ⟨_, _, _, rfl, hle⟩
    obtain ⟨b, q, cap, rfl, hle⟩ := hv
    refine Lib.wp_append_run w s x t t ho _ _ hs hx _ w (run_append_nothing w t t o.type e i ht hi b q cap hle _ ?_) (h _ _ (by simpa using hown) ⟨rfl, rfl, rfl, Nat.le_refl _, fun _ _ _ => rfl⟩)
    cases A with
    | none => exact ⟨.inl ⟨e, ht⟩, fun _ => rfl, run_firstCells_none w i.size 0 0 c, run_firstCells_none w.drew i.size 0 0 c, by simp, fun _ h => by cases h⟩
    | some ad => exact Src.ofSlice w ht ad 0 c [] (by simp) (by simp) (fun _ h => by cases h)
  · obtain ⟨g, rfl, hg, hc⟩ := hn hz0
    refine wp_append_own w s x t ho base e i z 1 bytes ht hi hz hsize hby hzs (by decide) v n xs hs hown ⟨g, 0, none⟩ vs.length c vs hx (by simp) (fun j u hj => by rw [Addr.add_lit, Nat.zero_add]; exact hc j u hj) hone h63 hbytes hbase fun v' w' h1 h2 _ => h v' w' h1 h2
end Go.Proofs.Ytemafhaeppifoaa
