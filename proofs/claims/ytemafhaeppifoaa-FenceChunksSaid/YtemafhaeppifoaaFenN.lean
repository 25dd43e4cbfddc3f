/-
  The mathematics of layer 6: segments, what is open, parts of sizes. No program.
-/
import Derived.Test.YtemafhaeppifoaaCobN
namespace Go.Proofs.Ytemafhaeppifoaa
namespace Fc
open Cb

/-- the segments, each with its place: p: where we are; now: what is open there -/
def scan : Nat → List Int → List Int → List (Nat × List Int)
  | _, _, [] => []
  | p, now, z :: r => if z = 0 then (if now = [] then scan (p + 1) [] r else (p - now.length, now) :: scan (p + 1) [] r) else scan (p + 1) (now ++ [z]) r
/-- what is open behind the last 0 -/
def opn : List Int → List Int → List Int
  | now, [] => now
  | now, z :: r => if z = 0 then opn [] r else opn (now ++ [z]) r
def segs (zs : List Int) : List (List Int) := (scan 0 [] zs).map (·.2)

theorem scan_zero (p : Nat) (now r : List Int) : scan p now (0 :: r) = (if now = [] then [] else [(p - now.length, now)]) ++ scan (p + 1) [] r := by
  rw [scan, if_pos rfl]; split <;> simp
theorem scan_ne {z : Int} (hz : z ≠ 0) (p : Nat) (now r : List Int) : scan p now (z :: r) = scan (p + 1) (now ++ [z]) r := by rw [scan, if_neg hz]
theorem scan_nz {b : List Int} (h : NZ b) (r : List Int) : ∀ (p : Nat) (now : List Int), scan p now (b ++ r) = scan (p + b.length) (now ++ b) r := by
  induction b with
  | nil => intro p now; simp
  | cons z b ih =>
    intro p now
    rw [List.cons_append, scan_ne (h z (by simp)), ih (fun c hc => h c (by simp [hc])), List.length_cons, List.append_assoc, List.singleton_append]
    congr 1; omega
theorem scan_end {b : List Int} (h : NZ b) (p : Nat) (now : List Int) : scan p now b = [] := by
  have := scan_nz h [] p now
  rw [List.append_nil] at this
  rw [this, scan]
theorem opn_zero (now r : List Int) : opn now (0 :: r) = opn [] r := by rw [opn, if_pos rfl]
theorem opn_ne {z : Int} (hz : z ≠ 0) (now r : List Int) : opn now (z :: r) = opn (now ++ [z]) r := by rw [opn, if_neg hz]
theorem opn_nz {b : List Int} (h : NZ b) (r : List Int) : ∀ now : List Int, opn now (b ++ r) = opn (now ++ b) r := by
  induction b with
  | nil => intro now; simp
  | cons z b ih =>
    intro now
    rw [List.cons_append, opn_ne (h z (by simp)), ih (fun c hc => h c (by simp [hc])), List.append_assoc, List.singleton_append]
theorem opn_end {b : List Int} (h : NZ b) (now : List Int) : opn now b = now ++ b := by
  have := opn_nz h [] now
  rw [List.append_nil] at this
  rw [this, opn]
theorem opn_app (x y : List Int) : ∀ now : List Int, opn now (x ++ 0 :: y) = opn [] y := by
  induction x with
  | nil => intro now; rw [List.nil_append, opn_zero]
  | cons z x ih =>
    intro now
    rw [List.cons_append]
    by_cases hz : z = 0
    · subst hz; rw [opn_zero, ih]
    · rw [opn_ne hz, ih]
/-- .. as a cut of the bytes -/
theorem opn_drop {zs : List Int} {k : Nat} (hk : k = 0 ∨ ∃ i, k = i + 1 ∧ zs[i]? = some 0) (hn : NZ (zs.drop k)) : opn [] zs = zs.drop k := by
  rcases hk with rfl | ⟨i, rfl, hi⟩
  · rw [List.drop_zero] at hn ⊢; rw [opn_end hn, List.nil_append]
  · have hlt : i < zs.length := by
      rcases Nat.lt_or_ge i zs.length with h | h
      · exact h
      · rw [List.getElem?_eq_none h] at hi; cases hi
    have h1 : zs = zs.take i ++ 0 :: zs.drop (i + 1) := by
      rw [List.getElem?_eq_getElem hlt] at hi
      injection hi with hi
      rw [← hi, List.getElem_cons_drop, List.take_append_drop]
    have h2 : opn [] zs = opn [] (zs.drop (i + 1)) := by conv => lhs; rw [h1]; rw [opn_app]
    rw [h2, opn_end hn, List.nil_append]

theorem cut_nz {L : List Int} (h : nz L < L.length) : L = L.take (nz L) ++ 0 :: L.drop (nz L + 1) := by
  have hi := nz_at L h
  rw [List.getElem?_eq_getElem h] at hi
  injection hi with hi
  rw [← hi, List.getElem_cons_drop, List.take_append_drop]
theorem scan_step {L : List Int} (h : nz L < L.length) (p : Nat) : scan p [] L = (if nz L = 0 then [] else [(p, L.take (nz L))]) ++ scan (p + nz L + 1) [] (L.drop (nz L + 1)) := by
  conv => lhs; rw [cut_nz h]
  have hl : (L.take (nz L)).length = nz L := by rw [List.length_take]; omega
  rw [scan_nz (nz_take L), List.nil_append, scan_zero, hl]
  congr 1
  by_cases h0 : nz L = 0
  · rw [if_pos h0, if_pos (by rw [h0]; rfl)]
  · rw [if_neg h0, if_neg (fun e => h0 (by rw [← hl, e]; rfl))]
    congr 2; omega
theorem scan_last {L : List Int} (h : L.length ≤ nz L) (p : Nat) : scan p [] L = [] := by
  refine scan_end ?_ p []
  have := nz_take L
  rwa [List.take_of_length_le h] at this
theorem scan_snd (L : List Int) : ∀ (p q : Nat) (now : List Int), (scan p now L).map (·.2) = (scan q now L).map (·.2) := by
  induction L with
  | nil => intro p q now; simp [scan]
  | cons z r ih =>
    intro p q now
    by_cases hz : z = 0
    · subst hz
      rw [scan_zero, scan_zero, List.map_append, List.map_append, ih (p + 1) (q + 1)]
      split <;> rfl
    · rw [scan_ne hz, scan_ne hz, ih]
theorem scan_length (L : List Int) : ∀ (p : Nat) (now : List Int), (scan p now L).length ≤ L.length := by
  induction L with
  | nil => intro p now; simp [scan]
  | cons z r ih =>
    intro p now
    by_cases hz : z = 0
    · subst hz
      have := ih (p + 1) []
      rw [scan_zero, List.length_append, List.length_cons]
      split <;> simp <;> omega
    · have := ih (p + 1) (now ++ [z])
      rw [scan_ne hz, List.length_cons]; omega
theorem scan_mem (L : List Int) : ∀ (p : Nat) (now : List Int), NZ now → ∀ x ∈ scan p now L, x.2 ≠ [] ∧ NZ x.2 ∧ x.2.length ≤ now.length + L.length := by
  induction L with
  | nil => intro p now _ x hx; simp [scan] at hx
  | cons z r ih =>
    intro p now hn x hx
    by_cases hz : z = 0
    · subst hz
      rw [scan_zero] at hx
      rcases List.mem_append.1 hx with hx | hx
      · split at hx
        · simp at hx
        · rename_i h0
          simp at hx; subst hx
          exact ⟨h0, hn, by simp⟩
      · have h1 := ih (p + 1) [] (fun c hc => by simp at hc) x hx
        exact ⟨h1.1, h1.2.1, by have := h1.2.2; simp only [List.length_nil, List.length_cons] at this ⊢; omega⟩
    · rw [scan_ne hz] at hx
      have h1 := ih (p + 1) (now ++ [z]) (hn.append fun c hc => by simp at hc; subst hc; exact hz) x hx
      exact ⟨h1.1, h1.2.1, by have := h1.2.2; simp only [List.length_append, List.length_cons, List.length_nil] at this ⊢; omega⟩
theorem scan_app (x y : List Int) : ∀ (p : Nat) (now : List Int), scan p now (x ++ 0 :: y) = scan p now (x ++ [0]) ++ scan (p + x.length + 1) [] y := by
  induction x with
  | nil => intro p now; rw [List.nil_append, List.nil_append, scan_zero, scan_zero]; simp [scan]
  | cons z x ih =>
    intro p now
    rw [List.cons_append, List.cons_append]
    by_cases hz : z = 0
    · subst hz
      rw [scan_zero, scan_zero, ih, List.append_assoc, List.length_cons]
      congr 3; omega
    · rw [scan_ne hz, scan_ne hz, ih, List.length_cons]
      congr 2; omega
theorem segs_app (x y : List Int) : segs (x ++ 0 :: y) = segs (x ++ [0]) ++ segs y := by
  unfold segs
  rw [scan_app, List.map_append, scan_snd y _ 0]
theorem segs_len (zs : List Int) : (segs zs).length ≤ zs.length := by unfold segs; rw [List.length_map]; exact scan_length zs 0 []
theorem segs_mem {zs b : List Int} (h : b ∈ segs zs) : b ≠ [] ∧ NZ b ∧ b.length ≤ zs.length := by
  obtain ⟨x, hx, rfl⟩ := List.mem_map.1 h
  have := scan_mem zs 0 [] (fun c hc => by simp at hc) x hx
  exact ⟨this.1, this.2.1, by simpa using this.2.2⟩

/-- lists, each fenced -/
def wrap (ls : List (List Int)) : List Int := ls.flatMap fun b => 0 :: b ++ [0]
theorem wrap_nil : wrap [] = [] := rfl
theorem wrap_cons (b : List Int) (ls : List (List Int)) : wrap (b :: ls) = 0 :: (b ++ 0 :: wrap ls) := by simp [wrap]
theorem wrap_append (x y : List (List Int)) : wrap (x ++ y) = wrap x ++ wrap y := by simp [wrap]
theorem wrap_one (b : List Int) : wrap [b] = [0] ++ b ++ [0] := by simp [wrap]
theorem scan_wrap (ls : List (List Int)) : (∀ b ∈ ls, NZ b) → ∀ p, (scan p [] (wrap ls)).map (·.2) = ls.filter (fun b => decide (b ≠ [])) := by
  induction ls with
  | nil => intro _ p; simp [wrap_nil, scan]
  | cons b ls ih =>
    intro h p
    rw [wrap_cons, scan_zero, scan_nz (h b (by simp)), scan_zero]
    have := ih (fun c hc => h c (by simp [hc])) (p + 1 + b.length + 1)
    by_cases hb : b = []
    · subst hb; simpa using this
    · simp only [if_true, List.nil_append, if_neg hb, List.map_append, this]
      rw [List.filter_cons_of_pos (by simp [hb])]
      simp
theorem segs_wrap {ls : List (List Int)} (h : ∀ b ∈ ls, NZ b) : segs (wrap ls) = ls.filter (fun b => decide (b ≠ [])) := scan_wrap ls h 0
theorem opn_wrap (ls : List (List Int)) : opn [] (wrap ls) = [] := by
  induction ls with
  | nil => rfl
  | cons b ls ih =>
    rw [wrap_cons, opn_zero, opn_app, ih]

/-! parts of sizes -/
/-- how many numbers a size takes of n -/
def clip (s : Int) (n : Nat) : Nat := min (max s 0).toNat n
/-- the parts of L, the sizes R going round, from the i-th on -/
inductive Parts (R : List Int) : Nat → List Int → List (List Int) → Prop
  | done (i : Nat) : Parts R i [] []
  | step (i : Nat) (L : List Int) (s : Int) (ps : List (List Int)) : L ≠ [] → R[i]? = some s → Parts R ((i + 1) % R.length) (L.drop (clip s L.length)) ps → Parts R i L (L.take (clip s L.length) :: ps)
theorem clip_le (s : Int) (n : Nat) : clip s n ≤ n := Nat.min_le_right _ _
theorem Parts.nil {R : List Int} {i : Nat} {L : List Int} {ps : List (List Int)} (h : Parts R i L ps) (hL : L = []) : ps = [] := by
  cases h with
  | done => rfl
  | step _ _ _ _ h1 => exact absurd hL h1
theorem Parts.cons {R : List Int} {i : Nat} {L : List Int} {ps : List (List Int)} (h : Parts R i L ps) (hL : L ≠ []) : ∃ s qs, R[i]? = some s ∧ ps = L.take (clip s L.length) :: qs ∧ Parts R ((i + 1) % R.length) (L.drop (clip s L.length)) qs := by
  cases h with
  | done => exact absurd rfl hL
  | step _ _ s qs _ h2 h3 => exact ⟨s, qs, h2, rfl, h3⟩
theorem Parts.flat {R : List Int} {i : Nat} {L : List Int} {ps : List (List Int)} (h : Parts R i L ps) : ps.flatten = L := by
  induction h with
  | done => rfl
  | step i L s ps _ _ _ ih => rw [List.flatten_cons, ih, List.take_append_drop]
theorem Parts.exists {R : List Int} (q : Nat) (hq : R.length = q) (j : Nat) (hj : j < q) (sj : Int) (hs : R[j]? = some sj) (hp : 0 < sj) :
    ∀ (n : Nat) (L : List Int), L.length = n → ∀ (d i : Nat), i < q → (i + d) % q = j → d < q → ∃ ps, Parts R i L ps ∧ ps.length ≤ n * q + d + 1 := by
  intro n
  induction n using Nat.strongRecOn with
  | ind n ihn =>
    intro L hL d
    by_cases hn : L = []
    · intro i _ _ _; exact ⟨[], hn ▸ Parts.done i, by simp⟩
    · have hLp : 0 < n := by
        rcases Nat.eq_zero_or_pos n with h0 | h0
        · exact absurd (List.eq_nil_of_length_eq_zero (hL.trans h0)) hn
        · exact h0
      induction d with
      | zero =>
        intro i hi hid hd
        rw [Nat.add_zero, Nat.mod_eq_of_lt hi] at hid
        subst hid
        have hc : 0 < clip sj L.length := by unfold clip; omega
        have hcl := clip_le sj L.length
        have hi2 : (i + 1) % q < q := Nat.mod_lt _ (by omega)
        obtain ⟨ps, h1, h2⟩ := ihn (L.drop (clip sj L.length)).length (by rw [List.length_drop]; omega) (L.drop (clip sj L.length)) rfl ((i + q - (i + 1) % q) % q) ((i + 1) % q) hi2
          (by rw [Nat.add_mod_mod, show (i + 1) % q + (i + q - (i + 1) % q) = i + q by omega, Nat.add_mod_right, Nat.mod_eq_of_lt hi]) (Nat.mod_lt _ (by omega))
        refine ⟨_, Parts.step i L sj ps hn hs (by rw [hq]; exact h1), ?_⟩
        have h3 : (i + q - (i + 1) % q) % q < q := Nat.mod_lt _ (by omega)
        have h4 : (L.drop (clip sj L.length)).length + 1 ≤ n := by rw [List.length_drop]; omega
        have h5 := Nat.mul_le_mul_right q h4
        rw [Nat.add_mul, Nat.one_mul] at h5
        rw [List.length_cons]; omega
      | succ d ihd =>
        intro i hi hid hd
        obtain ⟨s, hsi⟩ : ∃ s, R[i]? = some s := ⟨_, List.getElem?_eq_getElem (by omega)⟩
        have hi2 : (i + 1) % q < q := Nat.mod_lt _ (by omega)
        have hid2 : ((i + 1) % q + d) % q = j := by rw [Nat.mod_add_mod, show i + 1 + d = i + (d + 1) by omega]; exact hid
        by_cases h0 : clip s L.length = 0
        · obtain ⟨ps, h1, h2⟩ := ihd ((i + 1) % q) hi2 hid2 (by omega)
          refine ⟨_, Parts.step i L s ps hn hsi (by rw [hq, h0, List.drop_zero]; exact h1), ?_⟩
          rw [List.length_cons]; omega
        · have hcl := clip_le s L.length
          obtain ⟨ps, h1, h2⟩ := ihn (L.drop (clip s L.length)).length (by rw [List.length_drop]; omega) (L.drop (clip s L.length)) rfl d ((i + 1) % q) hi2 hid2 (by omega)
          refine ⟨_, Parts.step i L s ps hn hsi (by rw [hq]; exact h1), ?_⟩
          have h4 : (L.drop (clip s L.length)).length + 1 ≤ n := by rw [List.length_drop]; omega
          have h5 := Nat.mul_le_mul_right q h4
          rw [Nat.add_mul, Nat.one_mul] at h5
          rw [List.length_cons]; omega
theorem parts_some {R : List Int} (hp : ∃ s ∈ R, 0 < s) (L : List Int) : ∃ ps, Parts R 0 L ps ∧ ps.length ≤ (L.length + 1) * R.length + 1 := by
  obtain ⟨s, hs, h0⟩ := hp
  obtain ⟨j, hj, rfl⟩ := List.mem_iff_getElem.1 hs
  obtain ⟨ps, h1, h2⟩ := Parts.exists R.length rfl j hj R[j] (List.getElem?_eq_getElem hj) h0 L.length L rfl j 0 (by omega) (by rw [Nat.zero_add, Nat.mod_eq_of_lt hj]) hj
  refine ⟨ps, h1, ?_⟩
  rw [Nat.add_mul, Nat.one_mul]; omega
theorem parts_whole (L : List Int) : Parts [(L.length : Int)] 0 L (if L = [] then [] else [L]) := by
  by_cases h : L = []
  · subst h; exact Parts.done 0
  · rw [if_neg h]
    have hc : clip (L.length : Int) L.length = L.length := by unfold clip; omega
    have := Parts.step (R := [(L.length : Int)]) 0 L (L.length : Int) [] h rfl (by rw [hc, List.drop_length]; exact Parts.done _)
    rwa [hc, List.take_length] at this
end Fc
end Go.Proofs.Ytemafhaeppifoaa
