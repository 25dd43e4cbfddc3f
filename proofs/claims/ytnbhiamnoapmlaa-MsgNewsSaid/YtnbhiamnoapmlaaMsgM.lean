/-
  The mathematics of messages: fields are apart; the first error; what is right stays right.
-/
import Derived.Test.YtnbhiamnoapmlaaMsgN
import Derived.Test.YtnbhiamnoapmlaaFldF
namespace Go.Proofs.Ytnbhiamnoapmlaa
open Go.RowKit
set_option maxRecDepth 100000

/-- what each field of a kind is -/
structure FdOk (f : Fd) : Prop where
  so : 1 ≤ f.so ∧ f.so ≤ 6
  pl : f.so < 3 → ∃ j : Nat, j < 6 ∧ f.pl = (j : Int)
  no : ¬ f.so < 3 → f.pl = -1
  si : f.si = 1 ∨ f.si = 2
  nm : f.nm ≠ ⟨#[]⟩
  mo : (f.so = 3 → f.mo = 16) ∧ (f.so = 4 → f.mo = 32) ∧ (f.so = 5 → f.mo = 64) ∧ (f.so = 6 → f.mo = 16)
  le : -1000000 ≤ f.le ∧ f.le ≤ 1000000 ∧ -1000000 ≤ f.mo ∧ f.mo ≤ 1000000 ∧ -1000000 ≤ f.ab ∧ f.ab ≤ 1000000
theorem FD_fdok (k : Int) : ∀ f ∈ FD k, FdOk f := by
  have hall : ∀ L : List Fd, (L.all fun f => decide (1 ≤ f.so ∧ f.so ≤ 6) && (if f.so < 3 then decide (0 ≤ f.pl ∧ f.pl < 6) else decide (f.pl = -1)) && decide (f.si = 1 ∨ f.si = 2) && !decide (f.nm = ⟨#[]⟩) &&
      decide ((f.so = 3 → f.mo = 16) ∧ (f.so = 4 → f.mo = 32) ∧ (f.so = 5 → f.mo = 64) ∧ (f.so = 6 → f.mo = 16)) && decide (-1000000 ≤ f.le ∧ f.le ≤ 1000000 ∧ -1000000 ≤ f.mo ∧ f.mo ≤ 1000000 ∧ -1000000 ≤ f.ab ∧ f.ab ≤ 1000000)) = true → ∀ f ∈ L, FdOk f := by
    intro L h f hf
    rw [List.all_eq_true] at h
    have h1 := h f hf
    simp only [Bool.and_eq_true, decide_eq_true_eq, Bool.not_eq_true', decide_eq_false_iff_not] at h1
    obtain ⟨⟨⟨⟨⟨h1, h2⟩, h3⟩, h4⟩, h5⟩, h6⟩ := h1
    refine ⟨h1, fun h => ?_, fun h => ?_, h3, h4, h5, h6⟩
    · rw [if_pos h] at h2
      have h2 : 0 ≤ f.pl ∧ f.pl < 6 := by simpa using h2
      exact ⟨f.pl.toNat, by omega, by omega⟩
    · rw [if_neg h] at h2
      simpa using h2
  rcases kind_ways k with rfl | rfl | rfl | rfl | rfl | ⟨h1, h2, h3, h4, h5⟩
  case' inr.inr.inr.inr.inr => rw [show FD k = [] by simp [FD, raw, h1, h2, h3, h4, h5, pls]]
  all_goals exact hall _ (by decide)
/-- fields that don't touch one another -/
def Apt (f g : Fd) : Prop := f.so ≠ g.so ∧ (f.so < 3 → g.so < 3 → f.pl.toNat ≠ g.pl.toNat) ∨ (f.so < 3 ∧ g.so < 3 ∧ f.pl.toNat ≠ g.pl.toNat)
instance aptDec (f g : Fd) : Decidable (Apt f g) := by unfold Apt; infer_instance
theorem FD_apt (k : Int) : (FD k).Pairwise Apt := by
  rcases kind_ways k with rfl | rfl | rfl | rfl | rfl | ⟨h1, h2, h3, h4, h5⟩
  case' inr.inr.inr.inr.inr => rw [show FD k = [] by simp [FD, raw, h1, h2, h3, h4, h5, pls]]
  all_goals decide
theorem fE_apt {f g : Fd} (h : Apt f g) (M : Mg) (hf : FdOk f) (hg : FdOk g) : fE (strip M f) g = fE M g := by
  have h1 := hf.so
  have h2 := hg.so
  refine fE_strip ?_ ?_ M hf.so hg.so
  · rcases h with h | h
    · exact .inl h.1
    · exact .inr ⟨by omega, by omega, by omega, by omega, h.2.2⟩
  · intro a b
    rcases h with h | h
    · exact h.2 a b
    · exact h.2.2
theorem strip_k (M : Mg) (f : Fd) : (strip M f).k = M.k := by
  unfold strip
  repeat' split
  all_goals first | rfl | exact Mg.put_k ..
theorem fold_strip_k : ∀ (L : List Fd) (M : Mg), (L.foldl strip M).k = M.k
  | [], _ => rfl
  | f :: r, M => by rw [List.foldl_cons, fold_strip_k r, strip_k]
theorem fE_fold : ∀ (L : List Fd) (f : Fd) (M : Mg), (∀ g ∈ L, Apt g f ∧ FdOk g) → FdOk f → fE (L.foldl strip M) f = fE M f
  | [], _, _, _, _ => rfl
  | g :: r, f, M, h, hf => by
    rw [List.foldl_cons, fE_fold r f (strip M g) (fun x hx => h x (List.mem_cons_of_mem _ hx)) hf]
    exact fE_apt (h g (List.mem_cons_self ..)).1 M (h g (List.mem_cons_self ..)).2 hf
/-- at the j-th, behind all ahead of it -/
theorem fE_at {k : Int} {j : Nat} {f : Fd} (hj : (FD k)[j]? = some f) (M : Mg) : fE (((FD k).take j).foldl strip M) f = fE M f := by
  refine fE_fold _ f M (fun g hg => ⟨?_, FD_fdok k g (List.mem_of_mem_take hg)⟩) (FD_fdok k f (List.mem_of_getElem? hj))
  have hi := (List.getElem?_eq_some_iff.1 hj).1
  have h1 : FD k = (FD k).take j ++ f :: (FD k).drop (j + 1) := by
    conv => lhs; rw [← List.take_append_drop j (FD k), List.drop_eq_getElem_cons hi]
    rw [(List.getElem?_eq_some_iff.1 hj).2]
  have h2 := FD_apt k
  rw [h1, List.pairwise_append] at h2
  exact h2.2.2 g hg f (List.mem_cons_self ..)
theorem firstE_at : ∀ (L : List Fd) (M : Mg) (j : Nat) (f : Fd), L[j]? = some f → (∀ g ∈ L.take j, fE M g = 0) → fE M f ≠ 0 → firstE M L = fE M f
  | [], _, _, _, h, _, _ => by simp at h
  | g :: r, M, 0, f, h, _, hne => by
    simp only [List.getElem?_cons_zero, Option.some.injEq] at h
    subst h
    rw [firstE, if_pos hne]
  | g :: r, M, j + 1, f, h, h0, hne => by
    rw [List.take_succ_cons] at h0
    rw [firstE, if_neg (by simp [h0 g (List.mem_cons_self ..)])]
    exact firstE_at r M j f (by simpa using h) (fun x hx => h0 x (List.mem_cons_of_mem _ hx)) hne
theorem firstE_zero : ∀ (L : List Fd) (M : Mg), (∀ g ∈ L, fE M g = 0) ↔ firstE M L = 0
  | [], _ => by simp [firstE]
  | g :: r, M => by
    rw [firstE]
    have := firstE_zero r M
    by_cases h : fE M g = 0
    · simp [h, this]
    · simp [h]
theorem take_zero {L : List Fd} {M : Mg} {j : Nat} {f : Fd} (hj : L[j]? = some f) (h : ∀ g ∈ L.take j, fE M g = 0) (hf : fE M f = 0) : ∀ g ∈ L.take (j + 1), fE M g = 0 := fun g hg => by
  rw [List.take_add_one, hj, List.mem_append] at hg
  rcases hg with hg | hg
  · exact h g hg
  · simp at hg; subst hg; exact hf
theorem fold_take {L : List Fd} {j : Nat} {f : Fd} (hj : L[j]? = some f) {α : Type} (s : α → Fd → α) (a : α) : (L.take (j + 1)).foldl s a = s ((L.take j).foldl s a) f := by
  rw [List.take_add_one, hj, List.foldl_append]
  rfl

/-! ### the document's words for what is left -/
/-- is a place a number's? -/
def isN (L : List Fd) (i : Nat) : Bool := L.any fun f => decide (f.so < 3) && decide (f.pl.toNat = i)
def isS (L : List Fd) (s : Int) : Bool := L.any fun f => decide (f.so = s)
theorem rest_iff (M : Mg) : ((FD M.k).foldl strip M = Mg.zero M.k) ↔ ((∀ i : Nat, i < 6 → isN (FD M.k) i = false → M.at' i = 0) ∧ (isS (FD M.k) 3 = false → M.p = []) ∧ (isS (FD M.k) 4 = false → M.c = []) ∧ (isS (FD M.k) 5 = false → M.tx = ⟨#[]⟩) ∧ (isS (FD M.k) 6 = false → M.tg = ⟨#[]⟩)) := by
  have h6 : ∀ P : Nat → Prop, (∀ i : Nat, i < 6 → P i) ↔ (P 0 ∧ P 1 ∧ P 2 ∧ P 3 ∧ P 4 ∧ P 5) := fun P => ⟨fun h => ⟨h 0 (by omega), h 1 (by omega), h 2 (by omega), h 3 (by omega), h 4 (by omega), h 5 (by omega)⟩, fun ⟨a, b, c, d, e, f⟩ i hi => by
    rcases i with _ | _ | _ | _ | _ | _ | i <;> first | assumption | omega⟩
  rw [h6, ← Mg.ext_iff']
  obtain ⟨k, n0, n1, n2, n3, n4, n5, p, c, tx, tg⟩ := M
  simp only
  rcases kind_ways k with rfl | rfl | rfl | rfl | rfl | ⟨h1, h2, h3, h4, h5⟩
  case' inr.inr.inr.inr.inr => rw [show FD k = [] by simp [FD, raw, h1, h2, h3, h4, h5, pls]]
  all_goals simp [FD, raw, pls, isN, isS, strip, Mg.put, Mg.zero, Mg.at', and_assoc]

/-! ### projected, new -/
theorem prj_k (M : Mg) (f : Fd) : (prj M f).k = M.k := by
  unfold prj
  repeat' split
  all_goals first | rfl | exact Mg.put_k ..
theorem fold_prj_k : ∀ (L : List Fd) (M : Mg), (L.foldl prj M).k = M.k
  | [], _ => rfl
  | f :: r, M => by rw [List.foldl_cons, fold_prj_k r, prj_k]
theorem mproj_k (M : Mg) (v : Int) : (mproj M v).k = M.k := by
  unfold mproj
  split
  · exact fold_prj_k ..
  · rfl
theorem mproj_twice (M : Mg) (v : Int) : mproj (mproj M v) v = mproj M v := by
  unfold mproj
  by_cases h : v = 1
  · rw [if_pos h, if_pos h, fold_prj_k]
    obtain ⟨k, n0, n1, n2, n3, n4, n5, p, c, tx, tg⟩ := M
    simp only
    rcases kind_ways k with rfl | rfl | rfl | rfl | rfl | ⟨h1, h2, h3, h4, h5⟩
    case' inr.inr.inr.inr.inr => rw [show FD k = [] by simp [FD, raw, h1, h2, h3, h4, h5, pls]]
    all_goals simp [FD, raw, pls, prj, Mg.put]
  · rw [if_neg h, if_neg h]
theorem mck_zero (M : Mg) : mck M = 0 ↔ FD M.k ≠ [] ∧ (∀ f ∈ FD M.k, fE M f = 0) ∧ (FD M.k).foldl strip M = Mg.zero M.k := by
  unfold mck
  rw [firstE_zero]
  by_cases h1 : FD M.k = []
  · simp [h1]
  · by_cases h2 : firstE M (FD M.k) = 0
    · by_cases h3 : (FD M.k).foldl strip M = Mg.zero M.k <;> simp [h1, h2, h3]
    · simp [h1, h2]
theorem mck_proj (M : Mg) (v : Int) (h : mck M = 0) : mck (mproj M v) = 0 := by
  unfold mproj
  by_cases hv : v = 1
  · rw [if_pos hv]
    rw [mck_zero, rest_iff] at h ⊢
    rw [fold_prj_k]
    obtain ⟨k, n0, n1, n2, n3, n4, n5, p, c, tx, tg⟩ := M
    simp only at h ⊢
    rcases kind_ways k with rfl | rfl | rfl | rfl | rfl | ⟨h1, h2, h3, h4, h5⟩
    case inr.inr.inr.inr.inr => exact absurd (show FD k = [] by simp [FD, raw, h1, h2, h3, h4, h5, pls]) h.1
    all_goals
      obtain ⟨h1, h2, h3⟩ := h
      refine ⟨h1, ?_, ?_⟩
      · simp [FD, raw, pls, fE, prj, Mg.put, Mg.at', wN, wT] at h2 ⊢
        have hz : ((ByteArray.mk #[]).size : Int) ≤ 16 := by decide
        simp [h2, hz]
      · have h6 : ∀ P : Nat → Prop, (∀ i : Nat, i < 6 → P i) ↔ (P 0 ∧ P 1 ∧ P 2 ∧ P 3 ∧ P 4 ∧ P 5) := fun P => ⟨fun h => ⟨h 0 (by omega), h 1 (by omega), h 2 (by omega), h 3 (by omega), h 4 (by omega), h 5 (by omega)⟩, fun ⟨a, b, c, d, e, f⟩ i hi => by
          rcases i with _ | _ | _ | _ | _ | _ | i <;> first | assumption | omega⟩
        rw [h6] at h3 ⊢
        simp [FD, raw, pls, isN, isS, prj, Mg.put, Mg.at'] at h3 ⊢
        try exact h3
  · rw [if_neg hv]
    exact h
/-! ### new ones -/
theorem mnew_k (k : Int) : (mnew k).k = if FD k = [] then 0 else k := by
  unfold mnew
  have key : ∀ (L : List Fd) (M : Mg), (L.foldl (nw k) M).k = if L = [] then M.k else k := by
    intro L
    induction L with
    | nil => intro M; rfl
    | cons f r ih =>
      intro M
      rw [List.foldl_cons, ih]
      by_cases h : r = []
      · subst h
        simp only [if_true, if_neg (List.cons_ne_nil f [])]
        unfold nw
        simp only
        repeat' split
        all_goals first | rfl | exact Mg.put_k ..
      · rw [if_neg h, if_neg (List.cons_ne_nil _ _)]
  rw [key]
  rfl
theorem mck_new (k : Int) : (mnew k).k = 0 ∨ mck (mnew k) = 0 := by
  rcases kind_ways k with rfl | rfl | rfl | rfl | rfl | ⟨h1, h2, h3, h4, h5⟩
  case inr.inr.inr.inr.inr =>
    left
    rw [mnew_k, if_pos (show FD k = [] by simp [FD, raw, h1, h2, h3, h4, h5, pls])]
  all_goals right; decide
theorem FD_few (k : Int) : (FD k).length ≤ 6 := by
  unfold FD
  rw [pls_len]
  exact raw_few k
theorem FD_nil (k : Int) : FD k = [] ↔ wd k = ⟨#[]⟩ := by
  rcases kind_ways k with rfl | rfl | rfl | rfl | rfl | ⟨h1, h2, h3, h4, h5⟩
  case inr.inr.inr.inr.inr => simp [FD, raw, wd, h1, h2, h3, h4, h5, pls]
  all_goals decide
theorem mproj_new (k v : Int) (h : 1 ≤ k ∧ k ≤ 5) : mproj (mnew k) v = mnew k := by
  unfold mproj
  by_cases hv : v = 1
  · rw [if_pos hv]
    have : k = 1 ∨ k = 2 ∨ k = 3 ∨ k = 4 ∨ k = 5 := by omega
    rcases this with rfl | rfl | rfl | rfl | rfl <;> decide
  · rw [if_neg hv]
/-- a number of a new message, set to any -/
theorem mck_set {k : Int} (h : 1 ≤ k ∧ k ≤ 5) {f : Fd} (hf : f ∈ FD k) {j : Nat} (hp : f.pl = (j : Int)) (v R : Int) (hR : R = if f.le ≤ v ∧ v ≤ f.mo then 0 else 5) : mck ((mnew k).put j v) = R := by
  have hk : k = 1 ∨ k = 2 ∨ k = 3 ∨ k = 4 ∨ k = 5 := by omega
  rcases hk with rfl | rfl | rfl | rfl | rfl
  all_goals
    simp [FD, raw, pls] at hf
    rcases hf with rfl | rfl | rfl | rfl | rfl | rfl
    all_goals
      dsimp only at hp
      rcases j with _ | _ | _ | _ | _ | _ | j
      all_goals first
        | (exfalso; omega)
        | skip
      all_goals
        clear hp
        have hz : ((ByteArray.mk #[]).size : Int) = 0 := rfl
        dsimp only at hR
        simp [mck, mnew, FD, raw, pls, firstE, fE, wN, wP, wS, wT, wC, cE, strip, Mg.put, Mg.at', Mg.zero, nw, startV, ptOk, hz]
        split at hR <;> split <;> omega
end Go.Proofs.Ytnbhiamnoapmlaa
