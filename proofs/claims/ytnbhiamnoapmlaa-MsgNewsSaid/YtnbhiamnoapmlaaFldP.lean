/-
  Rows of fields: their cells; what placed writes.
-/
import Derived.Test.YtnbhiamnoapmlaaFldA
namespace Go.Proofs.Ytnbhiamnoapmlaa
open Go.RowKit Go.Shelf
set_option maxRecDepth 100000
attribute [local go_sem] Oper.semAt_some

def flat7 : List Fd → List Value
  | [] => []
  | f :: r => f.cs.toList ++ flat7 r
theorem flat7_len : ∀ (l : List Fd), (flat7 l).length = 7 * l.length
  | [] => rfl
  | f :: r => by
    rw [flat7, List.length_append, flat7_len r]
    simp [Fd.cs]
    omega
theorem flat7_get : ∀ (l : List Fd) (j : Nat) (f : Fd), l[j]? = some f → ∀ q : Nat, q < 7 → (flat7 l)[j * 7 + q]? = f.cs[q]?
  | [], _, _, h, _, _ => by simp at h
  | g :: r, 0, f, h, q, hq => by
    simp only [List.getElem?_cons_zero, Option.some.injEq] at h
    subst h
    rw [flat7, Nat.zero_mul, Nat.zero_add, List.getElem?_append_left (by simp [Fd.cs]; omega)]
    simp
  | g :: r, j + 1, f, h, q, hq => by
    have h' : r[j]? = some f := by simpa using h
    rw [flat7, List.getElem?_append_right (by simp [Fd.cs]; omega), ← flat7_get r j f h' q hq]
    congr 1
    simp [Fd.cs]
    omega
theorem flat7_set : ∀ (l : List Fd) (j : Nat) (f : Fd) (p : Int), l[j]? = some f → (flat7 l).set (j * 7 + 2) (.int .i64 p) = flat7 (l.set j { f with pl := p })
  | [], _, _, _, h => by simp at h
  | g :: r, 0, f, p, h => by
    simp only [List.getElem?_cons_zero, Option.some.injEq] at h
    subst h
    simp [flat7, Fd.cs]
  | g :: r, j + 1, f, p, h => by
    have h' : r[j]? = some f := by simpa using h
    rw [flat7, List.set_cons_succ, flat7, ← flat7_set r j f p h', List.set_append_right _ _ (by simp [Fd.cs]; omega)]
    congr 2
    simp [Fd.cs]
    omega
theorem flat7_app (l m : List Fd) : flat7 (l ++ m) = flat7 l ++ flat7 m := by
  induction l with
  | nil => rfl
  | cons f r ih => rw [List.cons_append, flat7, flat7, ih, List.append_assoc]

/-- the first i with their places -/
def plsTo (L : List Fd) (i : Nat) : List Fd := (pls L 0).take i ++ L.drop i
theorem plsTo_get {L : List Fd} {i : Nat} {f : Fd} (h : L[i]? = some f) : (plsTo L i)[i]? = some f := by
  have hi : i < L.length := (List.getElem?_eq_some_iff.1 h).1
  unfold plsTo
  rw [List.getElem?_append_right (by rw [List.length_take]; omega), List.length_take, pls_len, Nat.min_eq_left (by omega), Nat.sub_self, List.getElem?_drop]
  simpa using h
theorem plsTo_len (L : List Fd) (i : Nat) : (plsTo L i).length = L.length := by
  unfold plsTo
  rw [List.length_append, List.length_take, pls_len, List.length_drop]
  omega
theorem plsTo_next {L : List Fd} {i : Nat} {f : Fd} {p : Int} (h : L[i]? = some f) (hp : p = if f.so < 3 then nums3 (L.take i) else -1) : (plsTo L i).set i { f with pl := p } = plsTo L (i + 1) := by
  have hi : i < L.length := (List.getElem?_eq_some_iff.1 h).1
  have hg := pls_get L 0 i f h
  rw [Int.zero_add, ← hp] at hg
  unfold plsTo
  have hl : ((pls L 0).take i).length = i := by rw [List.length_take, pls_len]; omega
  have hd : L.drop i = f :: L.drop (i + 1) := by
    rw [List.drop_eq_getElem_cons hi]
    congr 1
    have := (List.getElem?_eq_some_iff.1 h).2
    exact this
  rw [List.set_append_right _ _ (by omega), hl, Nat.sub_self, hd, List.set_cons_zero, List.take_add_one, hg]
  simp

/-- a row of fields that is written in place -/
def FRow (T : TypeId) (w : World) (g : Nat) (L : List Fd) : Prop := w.heap[g]? = some (.cells (flat7 L).toArray T (0, 0))
theorem FRow.cell {T : TypeId} {w : World} {g : Nat} {L : List Fd} (h : FRow T w g L) {j : Nat} {f : Fd} (hj : L[j]? = some f) {q : Nat} (hq : q < 7) : w.cell? ⟨g, j * 7 + q, none⟩ = f.cs[q]? := by
  unfold FRow at h
  rw [← flat7_get L j f hj q hq]
  simp [World.cell?, h]
theorem FRow.frozen {T : TypeId} {w : World} {g : Nat} {L : List Fd} (h : FRow T w g L) (j : Nat) : w.frozen? ⟨g, j, none⟩ = false := frozen_of_row w g j _ _ h
theorem FRow.set {T : TypeId} {w : World} {g : Nat} {L : List Fd} (h : FRow T w g L) {j : Nat} {f : Fd} (hj : L[j]? = some f) (p : Int) : FRow T (w.setCell ⟨g, j * 7 + 2, none⟩ (.int .i64 p)) g (L.set j { f with pl := p }) := by
  unfold FRow at *
  rw [setCell_at h, ← flat7_set L j f p hj]
  simp

set_option maxHeartbeats 2000000 in
theorem placed_any (L : List Fd) (hso : ∀ f ∈ L, 1 ≤ f.so ∧ f.so ≤ 6) (n cap g : Nat) (hn : L.length = n) (hf : n ≤ 6) (w : World) (hr : FRow 65 w g L) :
    Calls Try.prog 44 #[.slice (some ⟨g, 0, none⟩) n cap] w fun e w' => e = .returned (.slice (some ⟨g, 0, none⟩) n cap) ∧ Off (fun k => k = g) w w' ∧ FRow 65 w' g (pls L 0) := by
  have HN := Lib.hid hn
  clear hn
  go_enter Try.func44, Try.ntmps44
  go_wp2_with fail
  go_loopw [3, 7] (fun x iv wr => ∃ k : Nat, k ≤ n ∧ iv = .int .i64 (k : Int) ∧ x = .int .i64 (nums3 (L.take k)) ∧ Hid (FRow 65 wr g (plsTo L k)) ∧ Hid (Off (fun k => k = g) w wr)) (fun _ iv _ => n - (intOf iv).toNat)
  case atStart => exact ⟨0, by omega, rfl, rfl, Lib.hid (by simpa [plsTo] using hr), Lib.hid (Off.refl _ _)⟩
  case round =>
    obtain ⟨k, hk, rfl, rfl, HR, HO⟩ := hrel
    rcases Nat.lt_or_ge k n with hlt | hge
    · obtain ⟨f, hf'⟩ : ∃ f, L[k]? = some f := ⟨_, List.getElem?_eq_getElem (by rw [HN.out]; exact hlt)⟩
      have hs := hso f (List.mem_of_getElem? hf')
      have c1 := HR.out.cell (plsTo_get hf') (q := 1) (by omega)
      have c2 := HR.out.cell (plsTo_get hf') (q := 2) (by omega)
      have z2 := HR.out.frozen (k * 7 + 2)
      simp only [Fd.cs, List.getElem?_toArray, List.getElem?_cons_succ, List.getElem?_cons_zero] at c1 c2
      obtain ⟨m, hm⟩ : ∃ m, nums3 (L.take k) = m := ⟨_, rfl⟩
      rw [hm]
      have hm2 := nums3_nonneg (L.take k)
      rw [hm, List.length_take] at hm2
      have HM := Lib.hid hm
      have HF := Lib.hid hf'
      clear hm hf'
      have hrow : ∀ p : Int, p = (if f.so < 3 then nums3 (L.take k) else -1) → Hid (FRow 65 (wr.setCell ⟨g, k * 7 + 2, none⟩ (.int .i64 p)) g (plsTo L (k + 1))) := fun p hp => Lib.hid (by
        rw [← plsTo_next HF.out hp]
        exact HR.out.set (plsTo_get HF.out) p)
      have hoff : ∀ p : Int, Hid (Off (fun k => k = g) w (wr.setCell ⟨g, k * 7 + 2, none⟩ (.int .i64 p))) := fun p => Lib.hid (HO.out.setCell (p := ⟨g, k * 7 + 2, none⟩) rfl _)
      have ht := nums3_take L k f HF.out
      rw [HM.out] at hrow ht
      have HG := Lib.hid (And.intro hrow (And.intro hoff ht))
      clear hrow hoff ht HM
      have hmm : 0 ≤ m ∧ m ≤ 6 := by omega
      clear hm2
      by_cases h1 : f.so = 1
      · go_wp2
        obtain ⟨a, b, c⟩ := HG.out
        refine ⟨⟨k + 1, by omega, by go_num, ?_, a m (by rw [if_pos (by omega)]), b m⟩, by simp only [intOf]; omega⟩
        rw [c, if_pos (by omega)]
      · by_cases h2 : f.so = 2
        · go_wp2
          obtain ⟨a, b, c⟩ := HG.out
          refine ⟨⟨k + 1, by omega, by go_num, ?_, a m (by rw [if_pos (by omega)]), b m⟩, by simp only [intOf]; omega⟩
          rw [c, if_pos (by omega)]
        · go_wp2
          obtain ⟨a, b, c⟩ := HG.out
          refine ⟨⟨k + 1, by omega, by go_num, ?_, a (-1) (by rw [if_neg (by omega)]), b (-1)⟩, by simp only [intOf]; omega⟩
          rw [c, if_neg (by omega), Int.add_zero]
    · obtain rfl : k = n := by omega
      go_wp2
      go_ret
      have h1 := HR.out
      unfold plsTo at h1
      rw [← HN.out, List.drop_length, List.append_nil, List.take_of_length_le (by rw [pls_len]; exact Nat.le_refl _)] at h1
      exact ⟨rfl, HO.out, h1⟩
end Go.Proofs.Ytnbhiamnoapmlaa
