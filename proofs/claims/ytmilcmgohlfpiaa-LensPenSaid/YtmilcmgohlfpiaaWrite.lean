/-
  Contract of a pen's write: parts, one behind the other: all, or none.
-/
import Derived.Test.YtmilcmgohlfpiaaPart
namespace Go.Proofs.Ytmilcmgohlfpiaa
open Go.RowKit
set_option maxRecDepth 100000

/-- is the pen full behind a write of n bytes? -/
def fullNext (room : Int) (L : List Int) (full : Bool) (n : Nat) : Bool := full || decide (room < (L.length : Int) + n)
/-- what it wrote then -/
def bytesNext (room : Int) (L : List Int) (full : Bool) (new : List Int) : List Int := if fullNext room L full new.length then L else L ++ new
/-- the number of a write's error -/
def codeOf (full : Bool) : Int := if full then 2 else 0
/-- what a write answers -/
def WroteR (b g : Nat) (room : Int) (L : List Int) (full : Bool) (new : List Int) (w : World) (e : Ending) (w' : World) : Prop :=
  e = .returned (.int .i64 (codeOf (fullNext room L full new.length))) ∧ ∃ g', PenAt w' b g' room (bytesNext room L full new) (fullNext room L full new.length) ∧ Off (penS b g) w w' ∧ (g' = g ∨ w.heap.size ≤ g')

theorem take_more' {α : Type} {zs : List α} {k : Nat} {z : α} (h : zs[k]? = some z) : zs.take (k + 1) = zs.take k ++ [z] := by
  have hk : k < zs.length := (List.getElem?_eq_some_iff.1 h).1
  rw [List.getElem?_eq_getElem hk] at h
  injection h with h
  rw [List.take_succ_eq_append_getElem hk, h]
theorem flat_more {ps : List (List Int)} {k : Nat} {z : List Int} (h : ps[k]? = some z) : (ps.take (k + 1)).flatten = (ps.take k).flatten ++ z := by
  rw [take_more' h]; simp
theorem flat_le (ps : List (List Int)) (k : Nat) : (ps.take k).flatten.length ≤ ps.flatten.length := by
  have h : ps.flatten = (ps.take k).flatten ++ (ps.drop k).flatten := by rw [← List.flatten_append, List.take_append_drop]
  rw [h, List.length_append]; omega
/-- so many bytes the first k parts have -/
def flen (ps : List (List Int)) (k : Nat) : Nat := (ps.take k).flatten.length
theorem flen_zero (ps : List (List Int)) : flen ps 0 = 0 := rfl
theorem flen_more {ps : List (List Int)} {k : Nat} {z : List Int} (h : ps[k]? = some z) : flen ps (k + 1) = flen ps k + z.length := by
  unfold flen; rw [flat_more h, List.length_append]
theorem flen_le (ps : List (List Int)) (k : Nat) : flen ps k ≤ ps.flatten.length := flat_le ps k
theorem flen_all (ps : List (List Int)) {k : Nat} (h : ps.length ≤ k) : flen ps k = ps.flatten.length := by unfold flen; rw [List.take_of_length_le h]

/-- the parts lie there, apart from the pen -/
def Parts (w : World) (b g pb po : Nat) (ps : List (List Int)) : Prop :=
  ∀ k z, ps[k]? = some z → ∃ a c, w.cell? ⟨pb, po + k, none⟩ = some (.slice a z.length c) ∧ Nums .u8 w w.heap.size a z ∧ (z ≠ [] → ∀ q, blockOf a q → ¬ penS b g q)
theorem Parts.off {w w' : World} {b g pb po : Nat} {ps : List (List Int)} (h : Parts w b g pb po ps) (hp : ¬ penS b g pb) (hf : Off (penS b g) w w') {k : Nat} {z : List Int} (hk : ps[k]? = some z) :
    ∃ a c, w'.cell? ⟨pb, po + k, none⟩ = some (.slice a z.length c) ∧ Nums .u8 w' w.heap.size a z := by
  obtain ⟨a, c, hc, hn, hq⟩ := h k z hk
  exact ⟨a, c, hf.cell hc hp, hn.off hf hq⟩

/-- the first k parts are copied -/
def WSt (b g : Nat) (room : Int) (L : List Int) (g' cap : Nat) (ps : List (List Int)) (k : Nat) (P : Option Addr) (w wr : World) : Prop :=
  ∃ cur : List Int, wr.heap[b]? = some (.cells #[.int .i64 room, .slice (some ⟨g', 0, none⟩) (L.length + ps.flatten.length : Nat) cap, .bool false] 93 (0, 0)) ∧ wr.heap[g']? = some (.cells (cur.map (Value.int .u8)).toArray 5 (0, 0)) ∧ cur.length = cap ∧
    cur.take (L.length + flen ps k) = L ++ (ps.take k).flatten ∧ Off (penS b g) w wr ∧ (flen ps k < ps.flatten.length → P = some ⟨g', L.length + flen ps k, none⟩) ∧ g' ≠ b ∧ (g' = g ∨ w.heap.size ≤ g') ∧ L.length + ps.flatten.length ≤ cap ∧ cap ≤ maxLen
section
variable {b g g' cap k : Nat} {room : Int} {L : List Int} {ps : List (List Int)} {P P' : Option Addr} {w wr : World} {z : List Int}
theorem WSt.empty (h : WSt b g room L g' cap ps k P w wr) (hk : ps[k]? = some z) (hz : z = []) (hP : flen ps k < ps.flatten.length → P' = P) : WSt b g room L g' cap ps (k + 1) P' w wr := by
  subst hz
  have e : flen ps (k + 1) = flen ps k := by rw [flen_more hk]; simp
  obtain ⟨cur, h1, h2, h3, h4, h5, h6, h7⟩ := h
  refine ⟨cur, h1, h2, h3, ?_, h5, fun hlt => ?_, h7⟩
  · rw [e, h4, flat_more hk, List.append_nil]
  · rw [e] at hlt ⊢
    rw [hP hlt, h6 hlt]
theorem WSt.copied (h : WSt b g room L g' cap ps k P w wr) (hk : ps[k]? = some z) (hP : flen ps k + z.length < ps.flatten.length → P' = P.map (·.add z.length)) :
    ∃ cur : List Int, wr.heap[g']? = some (.cells (cur.map (Value.int .u8)).toArray 5 (0, 0)) ∧ L.length + flen ps k + z.length ≤ cur.length ∧
      WSt b g room L g' cap ps (k + 1) P' w (wr.setRow g' ((cur.map (Value.int .u8)).take (L.length + flen ps k) ++ (z.map (Value.int .u8) ++ (cur.map (Value.int .u8)).drop (L.length + flen ps k + z.length))).toArray) := by
  obtain ⟨cur, h1, h2, h3, h4, h5, h6, h7, h8, h9, h10⟩ := h
  have e := flen_more hk
  have hle := flen_le ps (k + 1)
  refine ⟨cur, h2, by omega, cur.take (L.length + flen ps k) ++ (z ++ cur.drop (L.length + flen ps k + z.length)), ?_, ?_, ?_, ?_, ?_, ?_, h7, h8, h9, h10⟩
  · rw [setRow_other _ _ _ _ (Ne.symm h7)]; exact h1
  · rw [setRow_heap _ _ _ _ _ _ h2]; simp
  · simp only [List.length_append, List.length_take, List.length_drop]; omega
  · rw [e, h4, flat_more hk, ← List.append_assoc, ← List.append_assoc]
    have hl : (L ++ (ps.take k).flatten ++ z).length = L.length + (flen ps k + z.length) := by simp [flen]
    rw [← hl, List.take_left']
    rfl
  · refine h5.trans ((Off.refl (fun j => j = g') wr).setRow rfl _) ?_
    rintro j hj rfl
    rcases h8 with h8 | h8
    · exact .inr h8
    · omega
  · intro hlt
    rw [e] at hlt ⊢
    rw [hP hlt, h6 (by omega), Option.map_some, Addr.add_lit, Nat.add_assoc]
theorem WSt.start {N n : Nat} {A : Option Addr} {cur : List Int} (hN : ps.flatten.length = N) (hb : wr.heap[b]? = some (.cells #[.int .i64 room, .slice A (L.length + N : Nat) cap, .bool false] 93 (0, 0))) (hk : KRow 5 .u8 wr A cap cur) (hc : L.length + N ≤ cap) (ht : cur.take L.length = L)
    (hO : Off (penS b g) (w.drewN n) wr) (h0 : 0 < N) (hP : (A = none ∧ g = b) ∨ ∃ g', A = some ⟨g', 0, none⟩ ∧ g' ≠ b ∧ (g' = g ∨ (w.drewN n).heap.size ≤ g') ∧ (0 < N → P = some ⟨g', L.length, none⟩)) : ∃ g', WSt b g room L g' cap ps 0 P w wr := by
  rcases hk.2 with ⟨_, h⟩ | ⟨q, h, hm, hh⟩
  · omega
  · rcases hP with ⟨hP, _⟩ | ⟨g', hP, hgb, hg, hPP⟩
    · rw [hP] at h; simp at h
    · rw [hP] at h; injection h with h; injection h with h; subst h
      subst hP hN
      exact ⟨g', cur, hb, hh, hk.1, by rw [flen_zero, Nat.add_zero, ht]; simp, ⟨hO.os, hO.tape, hO.output, hO.size, hO.block⟩, fun _ => by rw [flen_zero, Nat.add_zero]; exact hPP h0, hgb, hg, hc, hm⟩
/-- nothing is written -/
theorem part_zero {N n : Nat} {A : Option Addr} {cur : List Int} (hN : ps.flatten.length = N) (hb : wr.heap[b]? = some (.cells #[.int .i64 room, .slice A (L.length + N : Nat) cap, .bool false] 93 (0, 0))) (hk : KRow 5 .u8 wr A cap cur) (hc : L.length + N ≤ cap) (ht : cur.take L.length = L)
    (hO : Off (penS b g) (w.drewN n) wr) (h0 : N = 0) (hP : (A = none ∧ g = b) ∨ ∃ g', A = some ⟨g', 0, none⟩ ∧ g' ≠ b ∧ (g' = g ∨ (w.drewN n).heap.size ≤ g') ∧ (0 < N → P = some ⟨g', L.length, none⟩)) : ∃ g', PenAt wr b g' room (L ++ ps.flatten) false ∧ Off (penS b g) w wr ∧ (g' = g ∨ w.heap.size ≤ g') := by
  subst h0
  have hnil : ps.flatten = [] := List.eq_nil_of_length_eq_zero hN
  rw [hnil, List.append_nil]
  have hO' : Off (penS b g) w wr := ⟨hO.os, hO.tape, hO.output, hO.size, hO.block⟩
  rcases hP with ⟨rfl, hgb⟩ | ⟨g', rfl, hgb, hg, _⟩
  · exact ⟨g, ⟨none, cap, cur, hb, hk, by omega, ht, .inl ⟨rfl, hgb⟩⟩, hO', .inl rfl⟩
  · exact ⟨g', ⟨_, cap, cur, hb, hk, by omega, ht, .inr ⟨rfl, hgb⟩⟩, hO', hg⟩
theorem flat_nil (hN : ps.flatten.length = 0) (hk : ps[k]? = some z) : z = [] := by
  have h : ps.flatten = [] := List.eq_nil_of_length_eq_zero hN
  exact (List.flatten_eq_nil_iff.1 h) z (List.mem_of_getElem? hk)
theorem WSt.addr (h : WSt b g room L g' cap ps k P w wr) (hlt : flen ps k < ps.flatten.length) : P = some ⟨g', L.length + flen ps k, none⟩ := by
  obtain ⟨cur, h1, h2, h3, h4, h5, h6, h7⟩ := h
  exact h6 hlt
theorem WSt.frame (h : WSt b g room L g' cap ps k P w wr) : Off (penS b g) w wr := by
  obtain ⟨cur, h1, h2, h3, h4, h5, h6, h7⟩ := h
  exact h5
theorem WSt.pen (h : WSt b g room L g' cap ps k P w wr) (hk : ps.length ≤ k) : PenAt wr b g' room (L ++ ps.flatten) false ∧ Off (penS b g) w wr ∧ (g' = g ∨ w.heap.size ≤ g') := by
  obtain ⟨cur, h1, h2, h3, h4, h5, h6, h7, h8, h9, h10⟩ := h
  rw [flen_all ps hk, List.take_of_length_le hk] at h4
  refine ⟨⟨some ⟨g', 0, none⟩, cap, cur, by rw [List.length_append]; exact h1, ⟨h3, .inr ⟨g', rfl, h10, h2⟩⟩, by rw [List.length_append]; exact h9, by rw [List.length_append]; exact h4, .inr ⟨rfl, h7⟩⟩, h5, h8⟩
end
end Go.Proofs.Ytmilcmgohlfpiaa
