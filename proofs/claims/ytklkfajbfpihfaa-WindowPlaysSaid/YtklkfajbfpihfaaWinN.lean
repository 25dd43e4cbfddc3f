/-
  A window's mathematics: a top, and bits; what is new, what comes. No program is imported.
-/
import Derived.Test.YtklkfajbfpihfaaSerN
namespace Go.Proofs.Ytklkfajbfpihfaa
open Go.RowKit
namespace Wn
/-- 0: new; 14: it has come; 15: old -/
def look (t : Int) (q : Nat) (n : Int) : Int :=
  if Sr.after n t = true then 0 else if 64 ≤ Sr.way n t then 15 else if q.testBit (Sr.way n t).toNat = true then 14 else 0
/-- the top behind a new one -/
def nt (t n : Int) : Int := if Sr.after n t = true then n else t
/-- the bits, moved by so many -/
def shl (q v : Nat) : Nat := if 64 ≤ v then 0 else q * 2 ^ v % 18446744073709551616
/-- the bits behind a new one -/
def nq (t : Int) (q : Nat) (n : Int) : Nat := if Sr.after n t = true then shl q (Sr.way t n).toNat ||| 1 else q ||| 2 ^ (Sr.way n t).toNat
theorem shl_lt (q v : Nat) : shl q v < 18446744073709551616 := by unfold shl; split <;> omega
theorem or_lt {a b : Nat} (ha : a < 18446744073709551616) (hb : b < 18446744073709551616) : a ||| b < 18446744073709551616 := by
  have := @Nat.or_lt_two_pow a b 64 (by simpa using ha) (by simpa using hb)
  simpa using this
theorem pow_lt {d : Nat} (h : d < 64) : 2 ^ d < 18446744073709551616 := by
  have : (2 : Nat) ^ d < 2 ^ 64 := Nat.pow_lt_pow_right (by omega) h
  simpa using this
theorem nt_lt {t n : Int} (ht : 0 ≤ t ∧ t < 4294967296) (hn : 0 ≤ n ∧ n < 4294967296) : 0 ≤ nt t n ∧ nt t n < 4294967296 := by unfold nt; split <;> assumption
theorem after_way {n t : Int} (h : Sr.after n t = true) : 1 ≤ Sr.way t n ∧ Sr.way t n < 2147483648 := of_decide_eq_true h
theorem shl_bit (q v d : Nat) : (shl q v).testBit d = (decide (v ≤ d ∧ d < 64) && q.testBit (d - v)) := by
  unfold shl
  split
  · rename_i h
    rw [Nat.zero_testBit, decide_eq_false (by omega), Bool.false_and]
  · rename_i h
    rw [show (18446744073709551616 : Nat) = 2 ^ 64 from rfl, Nat.testBit_mod_two_pow, Nat.mul_comm, Nat.testBit_two_pow_mul]
    by_cases h1 : d < 64 <;> by_cases h2 : v ≤ d <;> simp [h1, h2]
theorem one_bit (d : Nat) : (1 : Nat).testBit d = decide (d = 0) := by
  rw [show (1 : Nat) = 2 ^ 0 from rfl, Nat.testBit_two_pow]
  simp [eq_comm]
theorem nq_lt {t : Int} {q : Nat} {n : Int} (hq : q < 18446744073709551616) (h : look t q n = 0) : nq t q n < 18446744073709551616 := by
  unfold nq
  unfold look at h
  split
  · exact or_lt (shl_lt _ _) (by omega)
  · rename_i h1
    rw [if_neg h1] at h
    have h3 := Sr.way_lt n t
    by_cases h2 : 64 ≤ Sr.way n t
    · rw [if_pos h2] at h; exact absurd h (by decide)
    · exact or_lt hq (pow_lt (by omega))
theorem nq_after {t : Int} {q : Nat} {n : Int} (h : Sr.after n t = true) (d : Nat) (hd : d < 64) :
    (nq t q n).testBit d = (decide (d = 0) || (decide ((Sr.way t n).toNat ≤ d) && q.testBit (d - (Sr.way t n).toNat))) := by
  unfold nq
  rw [if_pos h, Nat.testBit_or, shl_bit, one_bit, Bool.or_comm]
  congr 2
  exact decide_eq_decide.2 ⟨fun h => h.1, fun h => ⟨h, hd⟩⟩
theorem nq_in {t : Int} {q : Nat} {n : Int} (h : ¬ Sr.after n t = true) (d : Nat) : (nq t q n).testBit d = (decide (d = (Sr.way n t).toNat) || q.testBit d) := by
  unfold nq
  rw [if_neg h, Nat.testBit_or, Nat.testBit_two_pow, Bool.or_comm]
  congr 1
  exact decide_eq_decide.2 eq_comm
/-- what has come isn't new -/
theorem look_again {t : Int} {q : Nat} {n : Int} (h : look t q n = 0) : look (nt t n) (nq t q n) n = 14 := by
  have hw := Sr.way_lt n t
  by_cases ha : Sr.after n t = true
  · have h0 : Sr.way n n = 0 := by unfold Sr.way; omega
    have h1 : ¬ Sr.after n n = true := by unfold Sr.after; rw [h0]; decide
    unfold look
    rw [show nt t n = n from if_pos ha, if_neg h1, h0, if_neg (by decide), if_pos]
    rw [Int.toNat_zero, nq_after ha 0 (by decide)]
    rfl
  · unfold look at h ⊢
    rw [if_neg ha] at h
    rw [show nt t n = t from if_neg ha, if_neg ha]
    by_cases h2 : 64 ≤ Sr.way n t
    · rw [if_pos h2] at h; exact absurd h (by decide)
    · rw [if_neg h2, if_pos]
      rw [nq_in ha, decide_eq_true rfl, Bool.true_or]
/-- a bit that stands changes nothing -/
theorem or_same {q d : Nat} (h : q.testBit d = true) : q ||| 2 ^ d = q := by
  apply Nat.eq_of_testBit_eq
  intro i
  rw [Nat.testBit_or, Nat.testBit_two_pow]
  by_cases hi : d = i
  · subst hi; simp [h]
  · simp [hi]
theorem or_other {q d : Nat} (h : q.testBit d = false) : q ||| 2 ^ d ≠ q := fun e => by
  have : (q ||| 2 ^ d).testBit d = true := by rw [Nat.testBit_or, Nat.testBit_two_pow]; simp
  rw [e, h] at this
  cases this
/-! ### numbers by their places -/
/-- the top is at place P from s on; bits tell of the places behind it which have come (S) -/
structure Inv (s : Int) (P : Int) (S : Int → Prop) (t : Int) (q : Nat) : Prop where
  top : t = Sr.add s P
  lo : -1 ≤ P
  hi : P < 1000000
  bit : ∀ d : Nat, d < 64 → (q.testBit d = true ↔ S (P - d))
  le : ∀ p, S p → p ≤ P
  lt : q < 18446744073709551616
section
variable {s P p t : Int} {S : Int → Prop} {q : Nat}
theorem ones_bit (d : Nat) (h : d < 64) : (18446744073709551615 : Nat).testBit d = true := by
  rw [show (18446744073709551615 : Nat) = 2 ^ 64 - 1 from rfl, Nat.testBit_two_pow_sub_one]
  exact decide_eq_true h
theorem Inv.start (s : Int) : Inv s (-1) (fun p => p < 0) (Sr.add s (-1)) 18446744073709551615 :=
  ⟨rfl, by decide, by decide, fun d h => ⟨fun _ => by omega, fun _ => ones_bit d h⟩, fun p h => by omega, by decide⟩
theorem Inv.ways (h : Inv s P S t q) (hp : -1000 ≤ p ∧ p < 1000000) :
    (P < p → Sr.after (Sr.add s p) t = true ∧ Sr.way t (Sr.add s p) = p - P) ∧ (p ≤ P → ¬ Sr.after (Sr.add s p) t = true ∧ Sr.way (Sr.add s p) t = P - p) := by
  have ht := h.top
  have h1 := h.lo
  have h2 := h.hi
  have e1 : Sr.way t (Sr.add s p) = (p - P) % 4294967296 := by rw [ht]; unfold Sr.way Sr.add; omega
  have e2 : Sr.way (Sr.add s p) t = (P - p) % 4294967296 := by rw [ht]; unfold Sr.way Sr.add; omega
  refine ⟨fun h3 => ⟨decide_eq_true ?_, by rw [e1]; omega⟩, fun h3 => ⟨fun h4 => ?_, by rw [e2]; omega⟩⟩
  · rw [e1]; omega
  · have := after_way h4
    rw [e1] at this
    omega
theorem Inv.look_new (h : Inv s P S t q) (hp : -1000 ≤ p ∧ p < 1000000) : look t q (Sr.add s p) = 0 ↔ P < p ∨ (P - p < 64 ∧ ¬ S p) := by
  obtain ⟨w1, w2⟩ := h.ways hp
  unfold look
  rcases Int.lt_or_le P p with h1 | h1
  · rw [if_pos (w1 h1).1]
    exact ⟨fun _ => .inl h1, fun _ => rfl⟩
  · obtain ⟨h2, h3⟩ := w2 h1
    rw [if_neg h2, h3]
    by_cases h4 : 64 ≤ P - p
    · rw [if_pos h4]
      exact ⟨fun h => absurd h (by decide), fun h => by omega⟩
    · have hb := h.bit (P - p).toNat (by omega)
      rw [show P - ((P - p).toNat : Int) = p by omega] at hb
      rw [if_neg h4]
      by_cases h5 : q.testBit (P - p).toNat = true
      · rw [if_pos h5]
        exact ⟨fun h => absurd h (by decide), fun h => (h.elim (fun h => by omega) (fun h => absurd (hb.1 h5) h.2))⟩
      · rw [if_neg h5]
        exact ⟨fun _ => .inr ⟨by omega, fun h => h5 (hb.2 h)⟩, fun _ => rfl⟩
/-- a new one comes -/
theorem Inv.come (h : Inv s P S t q) (hp : -1000 ≤ p ∧ p < 1000000) (hl : look t q (Sr.add s p) = 0) :
    Inv s (max P p) (fun x => S x ∨ x = p) (nt t (Sr.add s p)) (nq t q (Sr.add s p)) := by
  obtain ⟨w1, w2⟩ := h.ways hp
  have h1 := h.lo
  have h2 := h.hi
  rcases Int.lt_or_le P p with h3 | h3
  · obtain ⟨h4, h5⟩ := w1 h3
    have hm : max P p = p := by omega
    rw [hm]
    refine ⟨if_pos h4, by omega, hp.2, fun d hd => ?_, fun x hx => ?_, nq_lt h.lt hl⟩
    · rw [nq_after h4 d hd, h5]
      by_cases h6 : d = 0
      · subst h6; simp
      · by_cases h7 : (p - P).toNat ≤ d
        · have hb := h.bit (d - (p - P).toNat) (by omega)
          rw [show P - ((d - (p - P).toNat : Nat) : Int) = p - d by omega] at hb
          rw [decide_eq_false h6, decide_eq_true h7, Bool.false_or, Bool.true_and, hb]
          exact ⟨.inl, fun h => h.elim id fun h => by omega⟩
        · rw [decide_eq_false h6, decide_eq_false h7, Bool.false_or, Bool.false_and]
          refine ⟨fun h => (by cases h), fun h8 => ?_⟩
          rcases h8 with h8 | h8
          · have := h.le _ h8; omega
          · omega
    · rcases hx with hx | hx
      · have := h.le _ hx; omega
      · omega
  · obtain ⟨h4, h5⟩ := w2 h3
    have hm : max P p = P := by omega
    rw [hm]
    have hd0 : P - p < 64 := by
      rcases (h.look_new hp).1 hl with h | h <;> omega
    refine ⟨(if_neg h4).trans h.top, h1, h2, fun d hd => ?_, fun x hx => ?_, nq_lt h.lt hl⟩
    · rw [nq_in h4, h5]
      by_cases h6 : d = (P - p).toNat
      · rw [decide_eq_true h6, Bool.true_or]
        exact ⟨fun _ => .inr (by omega), fun _ => rfl⟩
      · rw [decide_eq_false h6, Bool.false_or, h.bit d hd]
        exact ⟨.inl, fun h => h.elim id fun h => by omega⟩
    · rcases hx with hx | hx
      · exact h.le _ hx
      · omega
theorem Inv.congr {S' : Int → Prop} (h : Inv s P S t q) (hS : ∀ x, S' x ↔ S x) : Inv s P S' t q :=
  ⟨h.top, h.lo, h.hi, fun d hd => (h.bit d hd).trans (hS _).symm, fun p hp => h.le p ((hS p).1 hp), h.lt⟩
end
/-! ### those that have come, and those that haven't -/
def cnt (q : Nat) (c : Bool) : Nat → Nat
  | 0 => 0
  | k + 1 => cnt q c k + (if q.testBit k = c then 1 else 0)
/-- of the first k those that have (haven't) come -/
def gv (t : Int) (q : Nat) (c : Bool) : Nat → List Int
  | 0 => []
  | k + 1 => if q.testBit k = c then gv t q c k ++ [Sr.add t (-(k : Int))] else gv t q c k
theorem gv_len (t : Int) (q : Nat) (c : Bool) : ∀ k, (gv t q c k).length = cnt q c k
  | 0 => rfl
  | k + 1 => by
    unfold gv cnt
    split
    · rw [List.length_append, gv_len t q c k]; rfl
    · exact gv_len t q c k
theorem cnt_mono (q : Nat) (c : Bool) : ∀ {k m : Nat}, k ≤ m → cnt q c k ≤ cnt q c m := by
  intro k m h
  induction m with
  | zero => have : k = 0 := by omega
            subst this; exact Nat.le_refl _
  | succ m ih =>
    rcases Nat.lt_or_ge k (m + 1) with h1 | h1
    · have := ih (by omega)
      show _ ≤ cnt q c m + _
      omega
    · have : k = m + 1 := by omega
      subst this; exact Nat.le_refl _
theorem cnt_le (q : Nat) (c : Bool) : ∀ k, cnt q c k ≤ k
  | 0 => Nat.le_refl _
  | k + 1 => by
    have := cnt_le q c k
    show cnt q c k + _ ≤ _
    split <;> omega
theorem cnt_step {q k : Nat} {c : Bool} (h : q.testBit k = c) : cnt q c (k + 1) = cnt q c k + 1 := by
  show cnt q c k + _ = _
  rw [if_pos h]
theorem cnt_stay {q k : Nat} {c : Bool} (h : ¬ q.testBit k = c) : cnt q c (k + 1) = cnt q c k := by
  show cnt q c k + _ = _
  rw [if_neg h]
  rfl
theorem gv_at (t : Int) {q i : Nat} {c : Bool} (h : q.testBit i = c) : ∀ {k : Nat}, i < k → (gv t q c k)[cnt q c i]? = some (Sr.add t (-(i : Int))) := by
  intro k hk
  induction k with
  | zero => omega
  | succ k ih =>
    unfold gv
    rcases Nat.lt_or_ge i k with h1 | h1
    · split
      · rw [List.getElem?_append_left (by rw [gv_len]; have := cnt_mono q c (show i + 1 ≤ k by omega); rw [cnt_step h] at this; omega)]
        exact ih h1
      · exact ih h1
    · have : i = k := by omega
      subst this
      rw [if_pos h, List.getElem?_append_right (by rw [gv_len]; exact Nat.le_refl _), gv_len, Nat.sub_self]
      rfl
theorem gv_U {t : Int} {q : Nat} {c : Bool} : ∀ k, Sr.U (gv t q c k)
  | 0 => fun z hz => by cases hz
  | k + 1 => fun z hz => by
    unfold gv at hz
    split at hz
    · rcases List.mem_append.1 hz with h | h
      · exact gv_U k z h
      · rw [List.mem_singleton] at h; subst h; exact Sr.add_lt _ _
    · exact gv_U k z hz
/-- those from v on, ahead of k: none, if so many are ahead of either -/
theorem cnt_none {q v k : Nat} {c : Bool} (h : cnt q c v = cnt q c k) {i : Nat} (h1 : v ≤ i) (h2 : i < k) : ¬ q.testBit i = c := fun e => by
  have h3 := cnt_mono q c h1
  have h4 := cnt_mono q c (show i + 1 ≤ k by omega)
  rw [cnt_step e] at h4
  omega
/-- what is the bit k -/
theorem cnt_past {q v k : Nat} {c : Bool} (h : cnt q c v = cnt q c k) (hk : q.testBit k = c) : v ≤ k := by
  rcases Nat.lt_or_ge k v with h1 | h1
  · have := cnt_mono q c (show k + 1 ≤ v by omega)
    rw [cnt_step hk] at this
    omega
  · exact h1
theorem cnt_both (q : Nat) : ∀ k, cnt q true k + cnt q false k = k
  | 0 => rfl
  | k + 1 => by
    have := cnt_both q k
    show cnt q true k + _ + (cnt q false k + _) = _
    cases q.testBit k <;> simp <;> omega
/-- all have come: none is missing -/
theorem cnt_zero {q : Nat} : ∀ {k}, (∀ d, d < k → q.testBit d = true) → cnt q false k = 0
  | 0, _ => rfl
  | k + 1, h => by
    rw [cnt_stay (by rw [h k (by omega)]; decide)]
    exact cnt_zero fun d hd => h d (by omega)
end Wn
end Go.Proofs.Ytklkfajbfpihfaa
