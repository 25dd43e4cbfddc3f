/-
  A part of the texts of one proof, put together: MsgN, MsgM, Num, NumGet, RdM, BdyN, BdyM, BdyL, BdyT, SchN, Byte, Same, Put, Bts, Zig, BdyA, MsgA, MsgP, MsgQ, MsgE, MsgB, App, ApK, ApN, FldR, FldM, MsgC, MsgD, MsgG.
-/
import Derived.Laws.BitsAllLaws
import Derived.Laws.BitsLemmas
import Derived.Test.YtlbfibnfmijahaaGreatRows
import Derived.WalkKit
import Derived.WalkLawsBesides
import Derived.BigQuiet
import Derived.Deep.QuietTactic
import Derived.Deep.LoopGhost
import Derived.Lib.Hide
import Derived.WalkMore
import Derived.Maps.AppendAt
import Derived.ProofKit
import Derived.OpenShut
import Derived.Lib.MinMax
import Derived.Laws.StructEq
import Derived.ChangeKeysEq
import Derived.Deep.Upon
import Derived.Lib.AppendZeros
import Derived.OwnWalkIn
import Derived.RangeFuncBox
import Derived.RangeFuncWrites
import Derived.RangeFuncNested
import Derived.Laws.Tables
import Derived.Test.YtlbfibnfmijahaaGreatMPaPacksProof1
namespace Go.Proofs.YtlbfibnfmijahaaGreat
open Go.RowKit
set_option maxRecDepth 100000

structure Mg where
  k : Int
  n0 : Int
  n1 : Int
  n2 : Int
  n3 : Int
  n4 : Int
  n5 : Int
  p : List (Int × Int)
  c : List Int
  tx : ByteArray
  tg : ByteArray
theorem Mg.ext_iff' (a b : Mg) : (a.k = b.k ∧ a.n0 = b.n0 ∧ a.n1 = b.n1 ∧ a.n2 = b.n2 ∧ a.n3 = b.n3 ∧ a.n4 = b.n4 ∧ a.n5 = b.n5 ∧ a.p = b.p ∧ a.c = b.c ∧ a.tx = b.tx ∧ a.tg = b.tg) ↔ a = b := by
  cases a; cases b; simp
instance mgDec : DecidableEq Mg := fun a b => decidable_of_iff _ (Mg.ext_iff' a b)
namespace Mg
/-- the zero message, of a kind -/
def zero (k : Int) : Mg := ⟨k, 0, 0, 0, 0, 0, 0, [], [], ⟨#[]⟩, ⟨#[]⟩⟩
/-- the number at a place -/
def at' (M : Mg) : Nat → Int
  | 0 => M.n0
  | 1 => M.n1
  | 2 => M.n2
  | 3 => M.n3
  | 4 => M.n4
  | 5 => M.n5
  | _ => 0
/-- with another number at a place -/
def put (M : Mg) (j : Nat) (v : Int) : Mg :=
  match j with
  | 0 => { M with n0 := v }
  | 1 => { M with n1 := v }
  | 2 => { M with n2 := v }
  | 3 => { M with n3 := v }
  | 4 => { M with n4 := v }
  | 5 => { M with n5 := v }
  | _ => M
theorem put_k (M : Mg) (j : Nat) (v : Int) : (M.put j v).k = M.k := by unfold put; split <;> rfl
theorem put_p (M : Mg) (j : Nat) (v : Int) : (M.put j v).p = M.p := by unfold put; split <;> rfl
theorem put_c (M : Mg) (j : Nat) (v : Int) : (M.put j v).c = M.c := by unfold put; split <;> rfl
theorem put_tx (M : Mg) (j : Nat) (v : Int) : (M.put j v).tx = M.tx := by unfold put; split <;> rfl
theorem put_tg (M : Mg) (j : Nat) (v : Int) : (M.put j v).tg = M.tg := by unfold put; split <;> rfl
theorem put_at {j : Nat} (hj : j < 6) (M : Mg) (v : Int) : (M.put j v).at' j = v := by
  rcases j with _ | _ | _ | _ | _ | _ | j <;> first | rfl | omega
theorem put_at_ne {i j : Nat} (h : i ≠ j) (M : Mg) (v : Int) : (M.put j v).at' i = M.at' i := by
  rcases j with _ | _ | _ | _ | _ | _ | j <;> rcases i with _ | _ | _ | _ | _ | _ | i <;> first | rfl | omega
end Mg

/-! ### what is wrong -/
def wN (n le mo : Int) : Int := if n < le ∨ mo < n then 5 else 0
def wS (n mo : Int) : Int := if n = 0 then 13 else if mo < n then 6 else 0
def ptOk (q : Int × Int) : Prop := -1000000 ≤ q.1 ∧ q.1 ≤ 1000000 ∧ -1000000 ≤ q.2 ∧ q.2 ≤ 1000000
instance ptOkDec (q : Int × Int) : Decidable (ptOk q) := by unfold ptOk; infer_instance
def wP (l : List (Int × Int)) (mo : Int) : Int := if wS l.length mo ≠ 0 then wS l.length mo else if ∀ q ∈ l, ptOk q then 0 else 5
/-- of cells behind one -/
def cE : Int → List Int → Int
  | _, [] => 0
  | a, c :: r => if c < 0 ∨ 65535 < c then 5 else if c ≤ a then 3 else cE c r
def wC (l : List Int) (mo : Int) : Int := if wS l.length mo ≠ 0 then wS l.length mo else cE (-1) l
def byOk (b : UInt8) : Prop := 32 ≤ b.toNat ∧ b.toNat ≤ 126
instance byOkDec (b : UInt8) : Decidable (byOk b) := by unfold byOk; infer_instance
def wT (s : ByteArray) (mo : Int) : Int := if mo < (s.size : Int) then 6 else if ∀ b ∈ s.data.toList, byOk b then 0 else 19
/-- .. with one field -/
def fE (M : Mg) (f : Fd) : Int :=
  if f.so = 3 then wP M.p f.mo else if f.so = 4 then wC M.c f.mo else if f.so = 5 then wT M.tx f.mo else if f.so = 6 then wT M.tg f.mo else wN (M.at' f.pl.toNat) f.le f.mo
/-- without a field -/
def strip (M : Mg) (f : Fd) : Mg :=
  if f.so = 3 then { M with p := [] } else if f.so = 4 then { M with c := [] } else if f.so = 5 then { M with tx := ⟨#[]⟩ } else if f.so = 6 then { M with tg := ⟨#[]⟩ } else M.put f.pl.toNat 0
def firstE (M : Mg) : List Fd → Int
  | [] => 0
  | f :: r => if fE M f ≠ 0 then fE M f else firstE M r
/-- .. with a message -/
def mck (M : Mg) : Int := if FD M.k = [] then 9 else if firstE M (FD M.k) ≠ 0 then firstE M (FD M.k) else if (FD M.k).foldl strip M = Mg.zero M.k then 0 else 3

/-- a field since version 2, in version 1 -/
def prj (M : Mg) (f : Fd) : Mg := if f.si ≤ 1 then M else if f.so = 6 then { M with tg := ⟨#[]⟩ } else if 0 ≤ f.pl then M.put f.pl.toNat f.ab else M
def mproj (M : Mg) (v : Int) : Mg := if v = 1 then (FD M.k).foldl prj M else M
/-! ### two fields of one kind are apart -/
def apartF (f g : Fd) : Prop := f.so ≠ g.so ∨ (f.so ≠ 3 ∧ f.so ≠ 4 ∧ f.so ≠ 5 ∧ f.so ≠ 6 ∧ f.pl.toNat ≠ g.pl.toNat)
theorem fE_strip {f g : Fd} (h : apartF f g) (h2 : f.so < 3 → g.so < 3 → f.pl.toNat ≠ g.pl.toNat) (M : Mg) (hf : 1 ≤ f.so ∧ f.so ≤ 6) (hg : 1 ≤ g.so ∧ g.so ≤ 6) : fE (strip M f) g = fE M g := by
  unfold fE strip
  have hf' : f.so = 1 ∨ f.so = 2 ∨ f.so = 3 ∨ f.so = 4 ∨ f.so = 5 ∨ f.so = 6 := by omega
  have hg' : g.so = 1 ∨ g.so = 2 ∨ g.so = 3 ∨ g.so = 4 ∨ g.so = 5 ∨ g.so = 6 := by omega
  unfold apartF at h
  rcases hf' with e | e | e | e | e | e <;> rcases hg' with e' | e' | e' | e' | e' | e' <;> simp [e, e', Mg.put_p, Mg.put_c, Mg.put_tx, Mg.put_tg] at h h2 ⊢
  all_goals first
    | (rw [Mg.put_at_ne (fun x => h2 x.symm)])
    | (unfold Mg.at'; split <;> rfl)
end Go.Proofs.YtlbfibnfmijahaaGreat

namespace Go.Proofs.YtlbfibnfmijahaaGreat
open Go.RowKit
set_option maxRecDepth 100000

/-- what each field of a kind is -/
structure FdOk (f : Fd) : Prop where
  so : 1 ≤ f.so ∧ f.so ≤ 6
  pl : f.so < 3 → ∃ j : Nat, j < 6 ∧ f.pl = (j : Int)
  no : ¬ f.so < 3 → f.pl = -1
  si : f.si = 1 ∨ f.si = 2
  nm : f.nm ≠ ⟨#[]⟩
  mo : (f.so = 3 → f.mo = 16) ∧ (f.so = 4 → f.mo = 32) ∧ (f.so = 5 → f.mo = 64) ∧ (f.so = 6 → f.mo = 16)
  le : -1000000 ≤ f.le ∧ f.le ≤ 1000000 ∧ -1000000 ≤ f.mo ∧ f.mo ≤ 1000000 ∧ -1000000 ≤ f.ab ∧ f.ab ≤ 1000000
theorem FD_fdok (k : Int) : ∀ f ∈ FD k, FdOk f := by
  have hall : ∀ L : List Fd, (L.all fun f => decide (1 ≤ f.so ∧ f.so ≤ 6) && (if f.so < 3 then decide (0 ≤ f.pl ∧ f.pl < 6) else decide (f.pl = -1)) && decide (f.si = 1 ∨ f.si = 2) && !decide (f.nm = ⟨#[]⟩) &&
      decide ((f.so = 3 → f.mo = 16) ∧ (f.so = 4 → f.mo = 32) ∧ (f.so = 5 → f.mo = 64) ∧ (f.so = 6 → f.mo = 16)) && decide (-1000000 ≤ f.le ∧ f.le ≤ 1000000 ∧ -1000000 ≤ f.mo ∧ f.mo ≤ 1000000 ∧ -1000000 ≤ f.ab ∧ f.ab ≤ 1000000)) = true → ∀ f ∈ L, FdOk f := by
    intro L h f hf
    rw [List.all_eq_true] at h
    have h1 := h f hf
    simp only [Bool.and_eq_true, decide_eq_true_eq, Bool.not_eq_true', decide_eq_false_iff_not] at h1
    obtain ⟨⟨⟨⟨⟨h1, h2⟩, h3⟩, h4⟩, h5⟩, h6⟩ := h1
    refine ⟨h1, fun h => ?_, fun h => ?_, h3, h4, h5, h6⟩
    · rw [if_pos h] at h2
      have h2 : 0 ≤ f.pl ∧ f.pl < 6 := by simpa using h2
      exact ⟨f.pl.toNat, by omega, by omega⟩
    · rw [if_neg h] at h2
      simpa using h2
  rcases kind_ways k with rfl | rfl | rfl | rfl | rfl | ⟨h1, h2, h3, h4, h5⟩
  case' inr.inr.inr.inr.inr => rw [show FD k = [] by simp [FD, raw, h1, h2, h3, h4, h5, pls]]
  all_goals exact hall _ (by decide)
/-- fields that don't touch one another -/
def Apt (f g : Fd) : Prop := f.so ≠ g.so ∧ (f.so < 3 → g.so < 3 → f.pl.toNat ≠ g.pl.toNat) ∨ (f.so < 3 ∧ g.so < 3 ∧ f.pl.toNat ≠ g.pl.toNat)
instance aptDec (f g : Fd) : Decidable (Apt f g) := by unfold Apt; infer_instance
theorem FD_apt (k : Int) : (FD k).Pairwise Apt := by
  rcases kind_ways k with rfl | rfl | rfl | rfl | rfl | ⟨h1, h2, h3, h4, h5⟩
  case' inr.inr.inr.inr.inr => rw [show FD k = [] by simp [FD, raw, h1, h2, h3, h4, h5, pls]]
  all_goals decide
theorem fE_apt {f g : Fd} (h : Apt f g) (M : Mg) (hf : FdOk f) (hg : FdOk g) : fE (strip M f) g = fE M g := by
  have h1 := hf.so
  have h2 := hg.so
  refine fE_strip ?_ ?_ M hf.so hg.so
  · rcases h with h | h
    · exact .inl h.1
    · exact .inr ⟨by omega, by omega, by omega, by omega, h.2.2⟩
  · intro a b
    rcases h with h | h
    · exact h.2 a b
    · exact h.2.2
theorem strip_k (M : Mg) (f : Fd) : (strip M f).k = M.k := by
  unfold strip
  repeat' split
  all_goals first | rfl | exact Mg.put_k ..
theorem fold_strip_k : ∀ (L : List Fd) (M : Mg), (L.foldl strip M).k = M.k
  | [], _ => rfl
  | f :: r, M => by rw [List.foldl_cons, fold_strip_k r, strip_k]
theorem fE_fold : ∀ (L : List Fd) (f : Fd) (M : Mg), (∀ g ∈ L, Apt g f ∧ FdOk g) → FdOk f → fE (L.foldl strip M) f = fE M f
  | [], _, _, _, _ => rfl
  | g :: r, f, M, h, hf => by
    rw [List.foldl_cons, fE_fold r f (strip M g) (fun x hx => h x (List.mem_cons_of_mem _ hx)) hf]
    exact fE_apt (h g (List.mem_cons_self ..)).1 M (h g (List.mem_cons_self ..)).2 hf
/-- at the j-th, behind all ahead of it -/
theorem fE_at {k : Int} {j : Nat} {f : Fd} (hj : (FD k)[j]? = some f) (M : Mg) : fE (((FD k).take j).foldl strip M) f = fE M f := by
  refine fE_fold _ f M (fun g hg => ⟨?_, FD_fdok k g (List.mem_of_mem_take hg)⟩) (FD_fdok k f (List.mem_of_getElem? hj))
  have hi := (List.getElem?_eq_some_iff.1 hj).1
  have h1 : FD k = (FD k).take j ++ f :: (FD k).drop (j + 1) := by
    conv => lhs; rw [← List.take_append_drop j (FD k), List.drop_eq_getElem_cons hi]
    rw [(List.getElem?_eq_some_iff.1 hj).2]
  have h2 := FD_apt k
  rw [h1, List.pairwise_append] at h2
  exact h2.2.2 g hg f (List.mem_cons_self ..)
theorem firstE_at : ∀ (L : List Fd) (M : Mg) (j : Nat) (f : Fd), L[j]? = some f → (∀ g ∈ L.take j, fE M g = 0) → fE M f ≠ 0 → firstE M L = fE M f
  | [], _, _, _, h, _, _ => by simp at h
  | g :: r, M, 0, f, h, _, hne => by
    simp only [List.getElem?_cons_zero, Option.some.injEq] at h
    subst h
    rw [firstE, if_pos hne]
  | g :: r, M, j + 1, f, h, h0, hne => by
    rw [List.take_succ_cons] at h0
    rw [firstE, if_neg (by simp [h0 g (List.mem_cons_self ..)])]
    exact firstE_at r M j f (by simpa using h) (fun x hx => h0 x (List.mem_cons_of_mem _ hx)) hne
theorem firstE_zero : ∀ (L : List Fd) (M : Mg), (∀ g ∈ L, fE M g = 0) ↔ firstE M L = 0
  | [], _ => by simp [firstE]
  | g :: r, M => by
    rw [firstE]
    have := firstE_zero r M
    by_cases h : fE M g = 0
    · simp [h, this]
    · simp [h]
theorem take_zero {L : List Fd} {M : Mg} {j : Nat} {f : Fd} (hj : L[j]? = some f) (h : ∀ g ∈ L.take j, fE M g = 0) (hf : fE M f = 0) : ∀ g ∈ L.take (j + 1), fE M g = 0 := fun g hg => by
  rw [List.take_add_one, hj, List.mem_append] at hg
  rcases hg with hg | hg
  · exact h g hg
  · simp at hg; subst hg; exact hf
theorem fold_take {L : List Fd} {j : Nat} {f : Fd} (hj : L[j]? = some f) {α : Type} (s : α → Fd → α) (a : α) : (L.take (j + 1)).foldl s a = s ((L.take j).foldl s a) f := by
  rw [List.take_add_one, hj, List.foldl_append]
  rfl

/-! ### the document's words for what is left -/
/-- is a place a number's? -/
def isN (L : List Fd) (i : Nat) : Bool := L.any fun f => decide (f.so < 3) && decide (f.pl.toNat = i)
def isS (L : List Fd) (s : Int) : Bool := L.any fun f => decide (f.so = s)
theorem rest_iff (M : Mg) : ((FD M.k).foldl strip M = Mg.zero M.k) ↔ ((∀ i : Nat, i < 6 → isN (FD M.k) i = false → M.at' i = 0) ∧ (isS (FD M.k) 3 = false → M.p = []) ∧ (isS (FD M.k) 4 = false → M.c = []) ∧ (isS (FD M.k) 5 = false → M.tx = ⟨#[]⟩) ∧ (isS (FD M.k) 6 = false → M.tg = ⟨#[]⟩)) := by
  have h6 : ∀ P : Nat → Prop, (∀ i : Nat, i < 6 → P i) ↔ (P 0 ∧ P 1 ∧ P 2 ∧ P 3 ∧ P 4 ∧ P 5) := fun P => ⟨fun h => ⟨h 0 (by omega), h 1 (by omega), h 2 (by omega), h 3 (by omega), h 4 (by omega), h 5 (by omega)⟩, fun ⟨a, b, c, d, e, f⟩ i hi => by
    rcases i with _ | _ | _ | _ | _ | _ | i <;> first | assumption | omega⟩
  rw [h6, ← Mg.ext_iff']
  obtain ⟨k, n0, n1, n2, n3, n4, n5, p, c, tx, tg⟩ := M
  simp only
  rcases kind_ways k with rfl | rfl | rfl | rfl | rfl | ⟨h1, h2, h3, h4, h5⟩
  case' inr.inr.inr.inr.inr => rw [show FD k = [] by simp [FD, raw, h1, h2, h3, h4, h5, pls]]
  all_goals simp [FD, raw, pls, isN, isS, strip, Mg.put, Mg.zero, Mg.at', and_assoc]

/-! ### projected, new -/
theorem prj_k (M : Mg) (f : Fd) : (prj M f).k = M.k := by
  unfold prj
  repeat' split
  all_goals first | rfl | exact Mg.put_k ..
theorem fold_prj_k : ∀ (L : List Fd) (M : Mg), (L.foldl prj M).k = M.k
  | [], _ => rfl
  | f :: r, M => by rw [List.foldl_cons, fold_prj_k r, prj_k]
theorem mproj_twice (M : Mg) (v : Int) : mproj (mproj M v) v = mproj M v := by
  unfold mproj
  by_cases h : v = 1
  · rw [if_pos h, if_pos h, fold_prj_k]
    obtain ⟨k, n0, n1, n2, n3, n4, n5, p, c, tx, tg⟩ := M
    simp only
    rcases kind_ways k with rfl | rfl | rfl | rfl | rfl | ⟨h1, h2, h3, h4, h5⟩
    case' inr.inr.inr.inr.inr => rw [show FD k = [] by simp [FD, raw, h1, h2, h3, h4, h5, pls]]
    all_goals simp [FD, raw, pls, prj, Mg.put]
  · rw [if_neg h, if_neg h]
theorem mck_zero (M : Mg) : mck M = 0 ↔ FD M.k ≠ [] ∧ (∀ f ∈ FD M.k, fE M f = 0) ∧ (FD M.k).foldl strip M = Mg.zero M.k := by
  unfold mck
  rw [firstE_zero]
  by_cases h1 : FD M.k = []
  · simp [h1]
  · by_cases h2 : firstE M (FD M.k) = 0
    · by_cases h3 : (FD M.k).foldl strip M = Mg.zero M.k <;> simp [h1, h2, h3]
    · simp [h1, h2]
theorem mck_proj (M : Mg) (v : Int) (h : mck M = 0) : mck (mproj M v) = 0 := by
  unfold mproj
  by_cases hv : v = 1
  · rw [if_pos hv]
    rw [mck_zero, rest_iff] at h ⊢
    rw [fold_prj_k]
    obtain ⟨k, n0, n1, n2, n3, n4, n5, p, c, tx, tg⟩ := M
    simp only at h ⊢
    rcases kind_ways k with rfl | rfl | rfl | rfl | rfl | ⟨h1, h2, h3, h4, h5⟩
    case inr.inr.inr.inr.inr => exact absurd (show FD k = [] by simp [FD, raw, h1, h2, h3, h4, h5, pls]) h.1
    all_goals
      obtain ⟨h1, h2, h3⟩ := h
      refine ⟨h1, ?_, ?_⟩
      · simp [FD, raw, pls, fE, prj, Mg.put, Mg.at', wN, wT] at h2 ⊢
        have hz : ((ByteArray.mk #[]).size : Int) ≤ 16 := by decide
        simp [h2, hz]
      · have h6 : ∀ P : Nat → Prop, (∀ i : Nat, i < 6 → P i) ↔ (P 0 ∧ P 1 ∧ P 2 ∧ P 3 ∧ P 4 ∧ P 5) := fun P => ⟨fun h => ⟨h 0 (by omega), h 1 (by omega), h 2 (by omega), h 3 (by omega), h 4 (by omega), h 5 (by omega)⟩, fun ⟨a, b, c, d, e, f⟩ i hi => by
          rcases i with _ | _ | _ | _ | _ | _ | i <;> first | assumption | omega⟩
        rw [h6] at h3 ⊢
        simp [FD, raw, pls, isN, isS, prj, Mg.put, Mg.at'] at h3 ⊢
        try exact h3
  · rw [if_neg hv]
    exact h
/-! ### new ones -/
theorem FD_few (k : Int) : (FD k).length ≤ 6 := by
  unfold FD
  rw [pls_len]
  exact raw_few k
theorem FD_nil (k : Int) : FD k = [] ↔ wd k = ⟨#[]⟩ := by
  rcases kind_ways k with rfl | rfl | rfl | rfl | rfl | ⟨h1, h2, h3, h4, h5⟩
  case inr.inr.inr.inr.inr => simp [FD, raw, wd, h1, h2, h3, h4, h5, pls]
  all_goals decide
end Go.Proofs.YtlbfibnfmijahaaGreat

namespace Go.Proofs.YtlbfibnfmijahaaGreat
namespace Vi

/-- the bytes of a number: seven bits each, the lowest first -/
def enc (n : Nat) : List Int := if n < 128 then [(n : Int)] else ((n % 128 + 128 : Nat) : Int) :: enc (n / 128)
termination_by n
decreasing_by omega

theorem enc_small {n : Nat} (h : n < 128) : enc n = [(n : Int)] := by rw [enc, if_pos h]
theorem enc_big {n : Nat} (h : 128 ≤ n) : enc n = ((n % 128 + 128 : Nat) : Int) :: enc (n / 128) := by rw [enc, if_neg (by omega)]

theorem enc_pos (n : Nat) : 0 < (enc n).length := by
  by_cases h : n < 128
  · simp [enc_small h]
  · simp [enc_big (Nat.le_of_not_lt h)]

theorem enc_le (k : Nat) : ∀ n : Nat, n < 128 ^ (k + 1) → (enc n).length ≤ k + 1 := by
  induction k with
  | zero => intro n h; rw [enc_small (by simpa using h)]; simp
  | succ k ih =>
    intro n h
    by_cases hn : n < 128
    · simp [enc_small hn]
    · rw [enc_big (Nat.le_of_not_lt hn)]
      have := ih (n / 128) (by rw [Nat.pow_succ] at h; omega)
      simp only [List.length_cons]; omega

theorem enc_le10 {n : Nat} (h : n < 18446744073709551616) : (enc n).length ≤ 10 := enc_le 9 n (by omega)

theorem enc_byte (n : Nat) : ∀ c ∈ enc n, 0 ≤ c ∧ c ≤ 255 := by
  induction n using Nat.strongRecOn with
  | _ n ih =>
    by_cases hn : n < 128
    · rw [enc_small hn]; intro c hc; simp at hc; subst hc; omega
    · rw [enc_big (Nat.le_of_not_lt hn)]
      intro c hc
      simp only [List.mem_cons] at hc
      rcases hc with rfl | hc
      · omega
      · exact ih (n / 128) (by omega) c hc

/-! ### sizes by the length of the bits -/
end Vi
end Go.Proofs.YtlbfibnfmijahaaGreat

namespace Go.Proofs.YtlbfibnfmijahaaGreat
namespace Vi

/-- how many bytes with the highest bit set come first -/
def high : List Int → Nat
  | [] => 0
  | c :: r => if 128 ≤ c then high r + 1 else 0

/-- the number of bytes: seven bits each, the lowest first -/
def val : List Int → Nat
  | [] => 0
  | c :: r => c.toNat % 128 + 128 * val r

/-- the number that bytes begin with, how many bytes it has, the error (the document's P1.2) -/
def get (l : List Int) : Nat × Nat × Nat :=
  if 10 ≤ high l then (0, 0, 3)
  else if l.length ≤ high l then (0, 0, 4)
  else if 18446744073709551616 ≤ val (l.take (high l + 1)) ∨ (0 < high l ∧ l.getD (high l) 0 = 0) then (0, 0, 3)
  else (val (l.take (high l + 1)), high l + 1, 0)

theorem high_all {p : List Int} (hp : ∀ c ∈ p, 128 ≤ c) (r : List Int) : high (p ++ r) = p.length + high r := by
  induction p with
  | nil => simp
  | cons c p ih =>
    rw [List.cons_append, high, if_pos (hp c (by simp)), ih (fun d hd => hp d (by simp [hd])), List.length_cons]; omega

theorem val_append (p r : List Int) : val (p ++ r) = val p + 128 ^ p.length * val r := by
  induction p with
  | nil => simp [val]
  | cons c p ih =>
    rw [List.cons_append, val, ih, val, List.length_cons, Nat.pow_succ, Nat.mul_add]
    rw [show 128 ^ p.length * 128 * val r = 128 * (128 ^ p.length * val r) by rw [Nat.mul_comm (128 ^ p.length) 128, Nat.mul_assoc]]
    omega

theorem val_lt (p : List Int) : val p < 128 ^ p.length := by
  induction p with
  | nil => simp [val]
  | cons c p ih => rw [val, List.length_cons, Nat.pow_succ]; omega

theorem get_end {p : List Int} (hp : ∀ c ∈ p, 128 ≤ c) (hl : p.length ≤ 9) : get p = (0, 0, 4) := by
  have h := high_all hp []
  simp only [List.append_nil, high, Nat.add_zero] at h
  unfold get
  rw [if_neg (by omega), if_pos (by omega)]

theorem get_long {p r : List Int} (hp : ∀ c ∈ p, 128 ≤ c) (hl : 10 ≤ p.length) : get (p ++ r) = (0, 0, 3) := by
  have h := high_all hp r
  unfold get
  rw [if_pos (by omega)]

theorem take_mid (p : List Int) (c : Int) (r : List Int) : (p ++ c :: r).take (p.length + 1) = p ++ [c] := by
  rw [List.take_append, List.take_of_length_le (by omega)]; simp

theorem get_mid {p r : List Int} {c : Int} (hp : ∀ c ∈ p, 128 ≤ c) (hl : p.length ≤ 9) (hc : c < 128) :
    get (p ++ c :: r) = if 18446744073709551616 ≤ val (p ++ [c]) ∨ (0 < p.length ∧ c = 0) then (0, 0, 3) else (val (p ++ [c]), p.length + 1, 0) := by
  have h : high (p ++ c :: r) = p.length := by
    rw [high_all hp]; simp [high, show ¬ 128 ≤ c by omega]
  have hg : (p ++ c :: r).getD p.length 0 = c := by simp [List.getD]
  unfold get
  rw [h, hg, take_mid, if_neg (by omega), if_neg (by simp)]

theorem get_bad {p r : List Int} {c : Int} (hp : ∀ c ∈ p, 128 ≤ c) (hl : p.length ≤ 9) (hc : c < 128) (hb : 18446744073709551616 ≤ val (p ++ [c]) ∨ (0 < p.length ∧ c = 0)) : get (p ++ c :: r) = (0, 0, 3) := by
  rw [get_mid hp hl hc, if_pos hb]
theorem get_ok {p r : List Int} {c : Int} (hp : ∀ c ∈ p, 128 ≤ c) (hl : p.length ≤ 9) (hc : c < 128) (hb : val (p ++ [c]) < 18446744073709551616) (h0 : p.length = 0 ∨ c ≠ 0) : get (p ++ c :: r) = (val (p ++ [c]), p.length + 1, 0) := by
  rw [get_mid hp hl hc, if_neg (by omega)]

/-- the parts of any list: the high bytes that come first, and what is behind them -/
theorem parts (l : List Int) : ∃ p r, l = p ++ r ∧ (∀ c ∈ p, 128 ≤ c) ∧ (r = [] ∨ ∃ c r', r = c :: r' ∧ c < 128) := by
  induction l with
  | nil => exact ⟨[], [], rfl, by simp, .inl rfl⟩
  | cons c l ih =>
    by_cases hc : 128 ≤ c
    · obtain ⟨p, r, e, hp, hr⟩ := ih
      refine ⟨c :: p, r, by rw [e]; rfl, ?_, hr⟩
      intro d hd
      simp only [List.mem_cons] at hd
      rcases hd with rfl | hd
      · exact hc
      · exact hp d hd
    · exact ⟨[], c :: l, rfl, by simp, .inr ⟨c, l, rfl, by omega⟩⟩

/-- what is told is put as it was -/
theorem enc_val {p : List Int} {c : Int} (hp : ∀ d ∈ p, 128 ≤ d ∧ d ≤ 255) (h0 : 0 ≤ c) (hc : c < 128) (hz : p.length = 0 ∨ c ≠ 0) : enc (val (p ++ [c])) = p ++ [c] := by
  induction p with
  | nil =>
    have e : val ([] ++ [c]) = c.toNat := by simp [val]; omega
    rw [e, enc_small (by omega)]; simp; omega
  | cons d p ih =>
    have hd := hp d (by simp)
    have hi := ih (fun x hx => hp x (by simp [hx])) (.inr (by simpa using hz))
    have hc0 : c ≠ 0 := by simpa using hz
    have hv : 1 ≤ val (p ++ [c]) := by
      rw [val_append]
      have h1 : 1 ≤ val [c] := by simp [val]; omega
      have h2 : 1 ≤ 128 ^ p.length := Nat.one_le_pow _ _ (by decide)
      have := Nat.mul_le_mul h2 h1
      omega
    have e : val (d :: p ++ [c]) = d.toNat % 128 + 128 * val (p ++ [c]) := rfl
    rw [e, enc_big (by omega), show (d.toNat % 128 + 128 * val (p ++ [c])) / 128 = val (p ++ [c]) by omega, hi]
    simp only [List.cons_append, List.cons.injEq, and_true]
    omega

/-- a number's bytes: high ones, and a last one -/
theorem enc_parts (n : Nat) : ∃ p c, enc n = p ++ [c] ∧ (∀ d ∈ p, 128 ≤ d ∧ d ≤ 255) ∧ 0 ≤ c ∧ c < 128 ∧ (p.length = 0 ∨ c ≠ 0) ∧ val (p ++ [c]) = n := by
  induction n using Nat.strongRecOn with
  | _ n ih =>
    by_cases hn : n < 128
    · refine ⟨[], n, by rw [enc_small hn]; rfl, by simp, by omega, by omega, .inl rfl, ?_⟩
      simp [val]; omega
    · obtain ⟨p, c, e, hp, h0, hc, hz, hv⟩ := ih (n / 128) (by omega)
      refine ⟨((n % 128 + 128 : Nat) : Int) :: p, c, by rw [enc_big (by omega), e]; rfl, ?_, h0, hc, .inr ?_, ?_⟩
      · intro d hd
        simp only [List.mem_cons] at hd
        rcases hd with rfl | hd
        · omega
        · exact hp d hd
      · rcases hz with hz | hz
        · have : p = [] := List.eq_nil_of_length_eq_zero hz
          subst this
          simp [val] at hv
          intro hc0
          subst hc0
          simp at hv
          omega
        · exact hz
      · have e2 : val ((((n % 128 + 128 : Nat) : Int) :: p) ++ [c]) = ((n % 128 + 128 : Nat) : Int).toNat % 128 + 128 * val (p ++ [c]) := rfl
        rw [e2, hv, Int.toNat_natCast]; omega

/-- what was put is told as it was -/
theorem get_enc {n : Nat} (hn : n < 18446744073709551616) (r : List Int) : get (enc n ++ r) = (n, (enc n).length, 0) := by
  obtain ⟨p, c, e, hp, h0, hc, hz, hv⟩ := enc_parts n
  have hl := enc_le10 hn
  rw [e] at hl ⊢
  simp only [List.length_append, List.length_singleton] at hl ⊢
  rw [List.append_assoc, List.singleton_append, get_ok (fun d hd => (hp d hd).1) (by omega) hc (by omega) hz, hv]

/-- what Get tells: the size, and its bytes -/
theorem get_put {l : List Int} (hl : ∀ c ∈ l, 0 ≤ c ∧ c ≤ 255) (h : (get l).2.2 = 0) :
    (get l).1 < 18446744073709551616 ∧ 0 < (get l).2.1 ∧ (get l).2.1 ≤ l.length ∧ enc (get l).1 = l.take (get l).2.1 ∧ (enc (get l).1).length = (get l).2.1 := by
  obtain ⟨p, r, rfl, hp, hr⟩ := parts l
  by_cases h10 : 10 ≤ p.length
  · rw [get_long hp h10] at h; simp at h
  · rcases hr with rfl | ⟨c, r', rfl, hc⟩
    · rw [List.append_nil, get_end hp (by omega)] at h; simp at h
    · by_cases hb : 18446744073709551616 ≤ val (p ++ [c]) ∨ (0 < p.length ∧ c = 0)
      · rw [get_bad hp (by omega) hc hb] at h; simp at h
      · have hz : p.length = 0 ∨ c ≠ 0 := by omega
        have hc0 := hl c (by simp)
        have he := enc_val (fun d hd => ⟨hp d hd, (hl d (by simp [hd])).2⟩) hc0.1 hc hz
        rw [get_ok hp (by omega) hc (by omega) hz]
        simp only
        rw [he, take_mid]
        refine ⟨by omega, by omega, by simp, rfl, by simp⟩

theorem get_le (l : List Int) : (get l).1 < 18446744073709551616 ∧ (get l).2.1 ≤ 10 ∧ (get l).2.1 ≤ l.length ∧ (get l).2.2 ≤ 4 := by
  unfold get
  split
  · simp
  · split
    · simp
    · split
      · simp
      · simp only; omega

/-! ### one byte more, in the model's own words -/
theorem or_join (x c k : Nat) (hx : x < 128 ^ k) (hk : k ≤ 9) (hc : c < 128) (h9 : k = 9 → c ≤ 1) :
    bits .or .u64 (x : Int) (IntKind.u64.wrap ((c : Int) * 2 ^ (7 * k))) = ((x + 128 ^ k * c : Nat) : Int) := by
  have e : (128 : Nat) ^ k = 2 ^ (7 * k) := by rw [show (128 : Nat) = 2 ^ 7 from rfl, ← Nat.pow_mul]
  have hp : c * 2 ^ (7 * k) < 18446744073709551616 := by
    have : k = 0 ∨ k = 1 ∨ k = 2 ∨ k = 3 ∨ k = 4 ∨ k = 5 ∨ k = 6 ∨ k = 7 ∨ k = 8 ∨ k = 9 := by omega
    rcases this with rfl | rfl | rfl | rfl | rfl | rfl | rfl | rfl | rfl | rfl <;> (simp only [Nat.reduceMul, Nat.reducePow]; omega)
  have hx2 : x < 18446744073709551616 := by
    have : k = 0 ∨ k = 1 ∨ k = 2 ∨ k = 3 ∨ k = 4 ∨ k = 5 ∨ k = 6 ∨ k = 7 ∨ k = 8 ∨ k = 9 := by omega
    rcases this with rfl | rfl | rfl | rfl | rfl | rfl | rfl | rfl | rfl | rfl <;> (simp only [Nat.reducePow] at hx; omega)
  have ec : (c : Int) * 2 ^ (7 * k) = ((c * 2 ^ (7 * k) : Nat) : Int) := by push_cast; rfl
  rw [ec, IntKind.wrap_u64, Int.emod_eq_of_lt (by omega) (by omega), u64_or_nat x _ hx2 hp, Nat.or_comm, nat_join (7 * k) _ x (Nat.mul_mod_left _ _) (by rw [← e]; exact hx), e, Nat.mul_comm, Nat.add_comm]

end Vi
end Go.Proofs.YtlbfibnfmijahaaGreat

namespace Go.Proofs.YtlbfibnfmijahaaGreat
open Go.RowKit

/-- the number of bytes, the lowest one first -/
def le : List Int → Int
  | [] => 0
  | c :: l => c + 256 * le l
/-- a number, not above the most -/
def numR (l : List Int) (most : Int) : Int × Nat × Nat :=
  if (Vi.get l).2.2 ≠ 0 then (0, 0, (Vi.get l).2.2) else if most < ((Vi.get l).1 : Int) then (0, 0, 5) else (((Vi.get l).1 : Int), (Vi.get l).2.1, 0)
/-- the signed one of a number -/
def zagZ (n : Int) : Int := if n % 2 = 1 then -(n / 2) - 1 else n / 2
/-- a signed one, between two -/
def sigR (l : List Int) (least most : Int) : Int × Nat × Nat :=
  if (Vi.get l).2.2 ≠ 0 then (0, 0, (Vi.get l).2.2) else if zagZ ((Vi.get l).1 : Int) < least ∨ most < zagZ ((Vi.get l).1 : Int) then (0, 0, 5) else (zagZ ((Vi.get l).1 : Int), (Vi.get l).2.1, 0)
/-- bytes, behind how many they are -/
def fldR (l : List Int) (most : Int) : List Int × Nat × Nat :=
  if (Vi.get l).2.2 ≠ 0 then ([], 0, (Vi.get l).2.2) else if max most 0 < ((Vi.get l).1 : Int) then ([], 0, 6) else if l.length - (Vi.get l).2.1 < (Vi.get l).1 then ([], 0, 4)
  else ((l.drop (Vi.get l).2.1).take (Vi.get l).1, (Vi.get l).2.1 + (Vi.get l).1, 0)

section
variable {l : List Int}
theorem numR_le (most : Int) : (numR l most).2.1 ≤ l.length := by
  have := (Vi.get_le l).2.2.1
  unfold numR; split
  · simp
  · split
    · simp
    · exact this
theorem sigR_le (least most : Int) : (sigR l least most).2.1 ≤ l.length := by
  have := (Vi.get_le l).2.2.1
  unfold sigR; split
  · simp
  · split
    · simp
    · exact this
theorem fldR_le (most : Int) : (fldR l most).2.1 ≤ l.length := by
  have := (Vi.get_le l).2.2.1
  unfold fldR; split
  · simp
  · split
    · simp
    · split
      · simp
      · show (Vi.get l).2.1 + (Vi.get l).1 ≤ l.length
        omega
end
end Go.Proofs.YtlbfibnfmijahaaGreat

namespace Go.Proofs.YtlbfibnfmijahaaGreat
open Go.RowKit
set_option maxRecDepth 100000

/-! ### signed numbers, texts -/
def zg (x : Int) : Nat := if x < 0 then (-2 * x - 1).toNat else (2 * x).toNat
theorem zag_zg (x : Int) : zagZ ((zg x : Nat) : Int) = x := by
  unfold zagZ zg
  split <;> split <;> omega
theorem zg_zag (n : Nat) : zg (zagZ (n : Int)) = n := by
  unfold zagZ zg
  split <;> split <;> omega
theorem zg_le {x : Int} {b : Nat} (h1 : -(b : Int) ≤ x) (h2 : x ≤ (b : Int)) : zg x ≤ 2 * b := by
  unfold zg
  split <;> omega
def bts (s : ByteArray) : List Int := s.data.toList.map fun b => (b.toNat : Int)
def txt (l : List Int) : ByteArray := ⟨(l.map fun c => UInt8.ofNat c.toNat).toArray⟩
theorem bts_len (s : ByteArray) : (bts s).length = s.size := by
  unfold bts
  rw [List.length_map, Array.length_toList]
  rfl
theorem bts_byte (s : ByteArray) : ∀ c ∈ bts s, 0 ≤ c ∧ c ≤ 255 := fun c hc => by
  unfold bts at hc
  rw [List.mem_map] at hc
  obtain ⟨b, _, rfl⟩ := hc
  have := b.toNat_lt
  omega
theorem txt_bts (s : ByteArray) : txt (bts s) = s := by
  cases s with | mk a =>
  simp only [txt, bts, List.map_map]
  congr 1
  have : (a.toList.map ((fun c : Int => UInt8.ofNat c.toNat) ∘ fun b : UInt8 => (b.toNat : Int))) = a.toList := by
    conv => rhs; rw [← List.map_id a.toList]
    refine List.map_congr_left fun b _ => ?_
    simp
  rw [this]
theorem bts_txt {l : List Int} (h : ∀ c ∈ l, 0 ≤ c ∧ c ≤ 255) : bts (txt l) = l := by
  simp only [txt, bts, List.map_map]
  conv => rhs; rw [← List.map_id l]
  refine List.map_congr_left fun c hc => ?_
  have := h c hc
  simp only [Function.comp, id]
  rw [UInt8.toNat_ofNat']
  omega
theorem txt_size (l : List Int) : (txt l).size = l.length := by
  show (l.map fun c => UInt8.ofNat c.toNat).toArray.size = _
  rw [List.size_toArray, List.length_map]

/-! ### a field's bytes -/
/-- points, each told from the one ahead -/
def dlt : Int × Int → List (Int × Int) → List Int
  | _, [] => []
  | a, q :: r => Vi.enc (zg (q.1 - a.1)) ++ (Vi.enc (zg (q.2 - a.2)) ++ dlt q r)
/-- cells, each told from the one ahead -/
def gaps : Int → List Int → List Int
  | _, [] => []
  | a, c :: r => Vi.enc (c - a - 1).toNat ++ gaps c r
def mpart (M : Mg) (f : Fd) : List Int :=
  if f.so = 3 then Vi.enc M.p.length ++ dlt (0, 0) M.p
  else if f.so = 4 then Vi.enc M.c.length ++ gaps (-1) M.c
  else if f.so = 5 then Vi.enc M.tx.size ++ bts M.tx
  else if f.so = 6 then Vi.enc M.tg.size ++ bts M.tg
  else if f.so = 2 then Vi.enc (zg (M.at' f.pl.toNat))
  else Vi.enc (M.at' f.pl.toNat).toNat
def body (M : Mg) (v : Int) : List Int := ((FDv M.k v).map (mpart M)).flatten
/-- what Encode answers -/
def benc (M : Mg) (v : Int) : List Int × Int := if v ≠ 1 ∧ v ≠ 2 then ([], 10) else if mck M ≠ 0 then ([], mck M) else (body M v, 0)

/-! ### what is read: the error, how many bytes, what -/
def rdX (a : Int) (l : List Int) : Nat × Nat × Int :=
  if (Vi.get l).2.2 ≠ 0 then ((Vi.get l).2.2, 0, 0)
  else if a + zagZ (Vi.get l).1 < -1000000 ∨ 1000000 < a + zagZ (Vi.get l).1 then (5, 0, 0)
  else (0, (Vi.get l).2.1, a + zagZ (Vi.get l).1)
def rdP : Nat → Int × Int → List Int → Nat × Nat × List (Int × Int)
  | 0, _, _ => (0, 0, [])
  | n + 1, a, l =>
    if (rdX a.1 l).1 ≠ 0 then ((rdX a.1 l).1, 0, [])
    else if (rdX a.2 (l.drop (rdX a.1 l).2.1)).1 ≠ 0 then ((rdX a.2 (l.drop (rdX a.1 l).2.1)).1, 0, [])
    else
      let r := rdP n ((rdX a.1 l).2.2, (rdX a.2 (l.drop (rdX a.1 l).2.1)).2.2) ((l.drop (rdX a.1 l).2.1).drop (rdX a.2 (l.drop (rdX a.1 l).2.1)).2.1)
      (r.1, (rdX a.1 l).2.1 + (rdX a.2 (l.drop (rdX a.1 l).2.1)).2.1 + r.2.1, ((rdX a.1 l).2.2, (rdX a.2 (l.drop (rdX a.1 l).2.1)).2.2) :: r.2.2)
def rdG (a : Int) (l : List Int) : Nat × Nat × Int :=
  if (Vi.get l).2.2 ≠ 0 then ((Vi.get l).2.2, 0, 0)
  else if 65535 < a + 1 + (Vi.get l).1 then (5, 0, 0)
  else (0, (Vi.get l).2.1, a + 1 + (Vi.get l).1)
def rdC : Nat → Int → List Int → Nat × Nat × List Int
  | 0, _, _ => (0, 0, [])
  | n + 1, a, l =>
    if (rdG a l).1 ≠ 0 then ((rdG a l).1, 0, [])
    else
      let r := rdC n (rdG a l).2.2 (l.drop (rdG a l).2.1)
      (r.1, (rdG a l).2.1 + r.2.1, (rdG a l).2.2 :: r.2.2)
def byI (c : Int) : Prop := 32 ≤ c ∧ c ≤ 126
instance byIDec (c : Int) : Decidable (byI c) := by unfold byI; infer_instance
def rdT (n : Nat) (l : List Int) : Nat × Nat × ByteArray :=
  if l.length < n then (4, 0, ⟨#[]⟩) else if ∀ c ∈ l.take n, byI c then (0, n, txt (l.take n)) else (19, 0, ⟨#[]⟩)
def rdF (M : Mg) (f : Fd) (l : List Int) : Nat × Nat × Mg :=
  if (Vi.get l).2.2 ≠ 0 then ((Vi.get l).2.2, 0, M)
  else if f.so = 1 then (if f.mo < ((Vi.get l).1 : Int) ∨ ((Vi.get l).1 : Int) < f.le then (5, 0, M) else (0, (Vi.get l).2.1, M.put f.pl.toNat ((Vi.get l).1 : Int)))
  else if f.so = 2 then (if zagZ (Vi.get l).1 < -1000000 ∨ 1000000 < zagZ (Vi.get l).1 then (5, 0, M) else (0, (Vi.get l).2.1, M.put f.pl.toNat (zagZ (Vi.get l).1)))
  else if (Vi.get l).1 = 0 ∧ 0 < f.le then (13, 0, M)
  else if f.mo < ((Vi.get l).1 : Int) then (6, 0, M)
  else if f.so = 3 then (let r := rdP (Vi.get l).1 (0, 0) (l.drop (Vi.get l).2.1); if r.1 ≠ 0 then (r.1, 0, M) else (0, (Vi.get l).2.1 + r.2.1, { M with p := M.p ++ r.2.2 }))
  else if f.so = 4 then (let r := rdC (Vi.get l).1 (-1) (l.drop (Vi.get l).2.1); if r.1 ≠ 0 then (r.1, 0, M) else (0, (Vi.get l).2.1 + r.2.1, { M with c := M.c ++ r.2.2 }))
  else (let r := rdT (Vi.get l).1 (l.drop (Vi.get l).2.1); if r.1 ≠ 0 then (r.1, 0, M) else (0, (Vi.get l).2.1 + r.2.1, if f.so = 5 then { M with tx := r.2.2 } else { M with tg := r.2.2 }))
def rdL : List Fd → Mg → List Int → Nat × Nat × Mg
  | [], M, _ => (0, 0, M)
  | f :: r, M, l =>
    if (rdF M f l).1 ≠ 0 then ((rdF M f l).1, 0, M)
    else
      let y := rdL r (rdF M f l).2.2 (l.drop (rdF M f l).2.1)
      (y.1, (rdF M f l).2.1 + y.2.1, y.2.2)
/-- what Decode answers -/
def bdec (k v : Int) (l : List Int) : Nat × Mg :=
  if v ≠ 1 ∧ v ≠ 2 then (10, Mg.zero 0) else if FD k = [] then (9, Mg.zero 0)
  else if (rdL (FDv k v) (Mg.zero k) l).1 ≠ 0 then ((rdL (FDv k v) (Mg.zero k) l).1, Mg.zero 0)
  else if (rdL (FDv k v) (Mg.zero k) l).2.1 < l.length then (3, Mg.zero 0)
  else (0, mproj (rdL (FDv k v) (Mg.zero k) l).2.2 v)
/-- a message with a field of another one -/
def cp (N M : Mg) (f : Fd) : Mg :=
  if f.so = 3 then { N with p := M.p } else if f.so = 4 then { N with c := M.c } else if f.so = 5 then { N with tx := M.tx } else if f.so = 6 then { N with tg := M.tg } else N.put f.pl.toNat (M.at' f.pl.toNat)

/-! ### what was told is read -/
theorem get_enc' {n : Nat} (hn : n < 18446744073709551616) (r : List Int) : (Vi.get (Vi.enc n ++ r)).1 = n ∧ (Vi.get (Vi.enc n ++ r)).2.1 = (Vi.enc n).length ∧ (Vi.get (Vi.enc n ++ r)).2.2 = 0 := by
  rw [Vi.get_enc hn r]
  exact ⟨rfl, rfl, rfl⟩
theorem rdX_told {a x : Int} (ha : -1000000 ≤ a ∧ a ≤ 1000000) (hx : -1000000 ≤ x ∧ x ≤ 1000000) (r : List Int) : rdX a (Vi.enc (zg (x - a)) ++ r) = (0, (Vi.enc (zg (x - a))).length, x) := by
  have hz := zg_le (x := x - a) (b := 2000000) (by omega) (by omega)
  obtain ⟨h1, h2, h3⟩ := get_enc' (n := zg (x - a)) (by omega) r
  unfold rdX
  rw [h1, h2, h3, zag_zg, if_neg (by simp), if_neg (by omega)]
  rw [show a + (x - a) = x by omega]
theorem rdP_told : ∀ (l : List (Int × Int)) (a : Int × Int) (r : List Int), ptOk a → (∀ q ∈ l, ptOk q) → rdP l.length a (dlt a l ++ r) = (0, (dlt a l).length, l)
  | [], _, _, _, _ => rfl
  | q :: l, a, r, ha, hl => by
    have hq := hl q (List.mem_cons_self ..)
    have ih := rdP_told l q r hq (fun x hx => hl x (List.mem_cons_of_mem _ hx))
    have h1 := rdX_told (a := a.1) (x := q.1) ⟨ha.1, ha.2.1⟩ ⟨hq.1, hq.2.1⟩ (Vi.enc (zg (q.2 - a.2)) ++ dlt q l ++ r)
    have h2 := rdX_told (a := a.2) (x := q.2) ⟨ha.2.2.1, ha.2.2.2⟩ ⟨hq.2.2.1, hq.2.2.2⟩ (dlt q l ++ r)
    rw [List.length_cons, rdP, dlt]
    rw [show Vi.enc (zg (q.1 - a.1)) ++ (Vi.enc (zg (q.2 - a.2)) ++ dlt q l) ++ r = Vi.enc (zg (q.1 - a.1)) ++ (Vi.enc (zg (q.2 - a.2)) ++ dlt q l ++ r) by simp]
    rw [h1]
    simp only [ne_eq, not_true_eq_false, if_false, List.drop_left]
    rw [show Vi.enc (zg (q.2 - a.2)) ++ dlt q l ++ r = Vi.enc (zg (q.2 - a.2)) ++ (dlt q l ++ r) by simp, h2]
    simp only [not_true_eq_false, if_false, List.drop_left]
    rw [show ((q.1, q.2) : Int × Int) = q from rfl, ih]
    simp only [List.length_append]
    rw [Nat.add_assoc]
theorem rdC_told : ∀ (l : List Int) (a : Int) (r : List Int), -1 ≤ a → a ≤ 65535 → cE a l = 0 → rdC l.length a (gaps a l ++ r) = (0, (gaps a l).length, l)
  | [], _, _, _, _, _ => rfl
  | c :: l, a, r, ha, ha2, hl => by
    rw [cE] at hl
    by_cases h1 : c < 0 ∨ 65535 < c
    · rw [if_pos h1] at hl; omega
    rw [if_neg h1] at hl
    by_cases h2 : c ≤ a
    · rw [if_pos h2] at hl; omega
    rw [if_neg h2] at hl
    have ih := rdC_told l c r (by omega) (by omega) hl
    obtain ⟨g1, g2, g3⟩ := get_enc' (n := (c - a - 1).toNat) (by omega) (gaps c l ++ r)
    have hG : rdG a (Vi.enc (c - a - 1).toNat ++ (gaps c l ++ r)) = (0, (Vi.enc (c - a - 1).toNat).length, c) := by
      unfold rdG
      rw [g1, g2, g3, if_neg (by simp), if_neg (by omega)]
      rw [show a + 1 + (((c - a - 1).toNat : Nat) : Int) = c by omega]
    rw [List.length_cons, rdC, gaps, List.append_assoc, hG]
    simp only [ne_eq, not_true_eq_false, if_false, List.drop_left]
    rw [ih]
    simp only [List.length_append]
theorem rdT_told (s : ByteArray) (r : List Int) (h : ∀ b ∈ s.data.toList, byOk b) : rdT s.size (bts s ++ r) = (0, s.size, s) := by
  have ht : (bts s ++ r).take s.size = bts s := by rw [← bts_len]; simp
  unfold rdT
  rw [ht, if_neg (by rw [List.length_append, bts_len]; omega), if_pos, txt_bts]
  intro c hc
  unfold bts at hc
  rw [List.mem_map] at hc
  obtain ⟨b, hb, rfl⟩ := hc
  have := h b hb
  unfold byOk at this
  unfold byI
  omega
end Go.Proofs.YtlbfibnfmijahaaGreat

namespace Go.Proofs.YtlbfibnfmijahaaGreat
open Go.RowKit
set_option maxRecDepth 100000

/-- numbers that are bytes -/
def Bys (l : List Int) : Prop := ∀ c ∈ l, 0 ≤ c ∧ c ≤ 255
theorem Bys.drop {l : List Int} (h : Bys l) (n : Nat) : Bys (l.drop n) := fun c hc => h c (List.mem_of_mem_drop hc)
theorem take_two (l : List Int) (a b : Nat) : l.take a ++ (l.drop a).take b = l.take (a + b) := by
  rw [List.take_add]
theorem rdX_ok {a x : Int} {l : List Int} {u : Nat} (hl : Bys l) (h : rdX a l = (0, u, x)) : 0 < u ∧ u ≤ l.length ∧ Vi.enc (zg (x - a)) = l.take u ∧ -1000000 ≤ x ∧ x ≤ 1000000 := by
  unfold rdX at h
  by_cases h1 : (Vi.get l).2.2 = 0
  · rw [if_neg (by simpa using h1)] at h
    by_cases h2 : a + zagZ (Vi.get l).1 < -1000000 ∨ 1000000 < a + zagZ (Vi.get l).1
    · rw [if_pos h2] at h
      simp at h
    · rw [if_neg h2] at h
      simp only [Prod.mk.injEq, true_and] at h
      obtain ⟨rfl, rfl⟩ := h
      obtain ⟨g1, g2, g3, g4, g5⟩ := Vi.get_put hl h1
      refine ⟨g2, g3, ?_, by omega, by omega⟩
      rw [show a + zagZ ((Vi.get l).1 : Int) - a = zagZ ((Vi.get l).1 : Int) by omega, zg_zag, g4]
  · rw [if_pos (by simpa using h1)] at h
    simp only [Prod.mk.injEq] at h
    exact absurd h.1 h1
theorem rdP_ok : ∀ (n : Nat) (a : Int × Int) (l : List Int) (u : Nat) (L : List (Int × Int)), Bys l → rdP n a l = (0, u, L) → L.length = n ∧ u ≤ l.length ∧ dlt a L = l.take u ∧ ∀ q ∈ L, ptOk q
  | 0, a, l, u, L, _, h => by
    simp only [rdP, Prod.mk.injEq, true_and] at h
    obtain ⟨rfl, rfl⟩ := h
    simp [dlt]
  | n + 1, a, l, u, L, hl, h => by
    rw [rdP] at h
    obtain ⟨⟨e1, u1, x⟩, hx⟩ : ∃ q, rdX a.1 l = q := ⟨_, rfl⟩
    rw [hx] at h
    by_cases h1 : e1 = 0
    · subst h1
      obtain ⟨⟨e2, u2, y⟩, hy⟩ : ∃ q, rdX a.2 (l.drop u1) = q := ⟨_, rfl⟩
      simp only [ne_eq, not_true_eq_false, if_false, hy] at h
      by_cases h2 : e2 = 0
      · subst h2
        obtain ⟨⟨e3, u3, L3⟩, hr⟩ : ∃ q, rdP n (x, y) ((l.drop u1).drop u2) = q := ⟨_, rfl⟩
        simp only [not_true_eq_false, if_false, hr, Prod.mk.injEq] at h
        obtain ⟨rfl, rfl, rfl⟩ := h
        obtain ⟨_, a2, a3, a4, a5⟩ := rdX_ok hl hx
        obtain ⟨_, b2, b3, b4, b5⟩ := rdX_ok (hl.drop u1) hy
        obtain ⟨c1, c2, c3, c4⟩ := rdP_ok n (x, y) _ _ _ ((hl.drop u1).drop u2) hr
        rw [List.length_drop] at b2
        rw [List.length_drop, List.length_drop] at c2
        refine ⟨by simp [c1], by omega, ?_, ?_⟩
        · simp only [dlt]
          rw [a3, b3, c3, ← take_two l (u1 + u2) u3, ← take_two l u1 u2, List.drop_drop, List.append_assoc]
        · intro q hq
          rcases List.mem_cons.1 hq with rfl | hq
          · exact ⟨a4, a5, b4, b5⟩
          · exact c4 q hq
      · simp [h2] at h
    · simp [h1] at h
theorem rdG_ok {a x : Int} {l : List Int} {u : Nat} (hl : Bys l) (h : rdG a l = (0, u, x)) : 0 < u ∧ u ≤ l.length ∧ Vi.enc (x - a - 1).toNat = l.take u ∧ a < x ∧ x ≤ 65535 := by
  unfold rdG at h
  by_cases h1 : (Vi.get l).2.2 = 0
  · rw [if_neg (by simpa using h1)] at h
    by_cases h2 : 65535 < a + 1 + ((Vi.get l).1 : Int)
    · rw [if_pos h2] at h
      simp at h
    · rw [if_neg h2] at h
      simp only [Prod.mk.injEq, true_and] at h
      obtain ⟨rfl, rfl⟩ := h
      obtain ⟨g1, g2, g3, g4, g5⟩ := Vi.get_put hl h1
      refine ⟨g2, g3, ?_, by omega, by omega⟩
      rw [show (a + 1 + ((Vi.get l).1 : Int) - a - 1).toNat = (Vi.get l).1 by omega, g4]
  · rw [if_pos (by simpa using h1)] at h
    simp only [Prod.mk.injEq] at h
    exact absurd h.1 h1
theorem rdC_ok : ∀ (n : Nat) (a : Int) (l : List Int) (u : Nat) (L : List Int), -1 ≤ a → Bys l → rdC n a l = (0, u, L) → L.length = n ∧ u ≤ l.length ∧ gaps a L = l.take u ∧ cE a L = 0
  | 0, a, l, u, L, _, _, h => by
    simp only [rdC, Prod.mk.injEq, true_and] at h
    obtain ⟨rfl, rfl⟩ := h
    simp [gaps, cE]
  | n + 1, a, l, u, L, ha, hl, h => by
    rw [rdC] at h
    obtain ⟨⟨e1, u1, x⟩, hx⟩ : ∃ q, rdG a l = q := ⟨_, rfl⟩
    rw [hx] at h
    by_cases h1 : e1 = 0
    · subst h1
      obtain ⟨⟨e3, u3, L3⟩, hr⟩ : ∃ q, rdC n x (l.drop u1) = q := ⟨_, rfl⟩
      simp only [ne_eq, not_true_eq_false, if_false, hr, Prod.mk.injEq] at h
      obtain ⟨rfl, rfl, rfl⟩ := h
      obtain ⟨_, a2, a3, a4, a5⟩ := rdG_ok hl hx
      obtain ⟨c1, c2, c3, c4⟩ := rdC_ok n x _ _ _ (by omega) (hl.drop u1) hr
      rw [List.length_drop] at c2
      refine ⟨by simp [c1], by omega, ?_, ?_⟩
      · rw [gaps, a3, c3, take_two]
      · rw [cE, if_neg (by omega), if_neg (by omega), c4]
    · simp [h1] at h
theorem rdT_ok {n u : Nat} {l : List Int} {s : ByteArray} (hl : Bys l) (h : rdT n l = (0, u, s)) : u = n ∧ s.size = n ∧ n ≤ l.length ∧ bts s = l.take n ∧ ∀ b ∈ s.data.toList, byOk b := by
  unfold rdT at h
  by_cases h1 : l.length < n
  · rw [if_pos h1] at h; simp at h
  rw [if_neg h1] at h
  by_cases h2 : ∀ c ∈ l.take n, byI c
  · rw [if_pos h2] at h
    simp only [Prod.mk.injEq, true_and] at h
    obtain ⟨rfl, rfl⟩ := h
    have hb : bts (txt (l.take n)) = l.take n := bts_txt fun c hc => hl c (List.mem_of_mem_take hc)
    refine ⟨rfl, by rw [txt_size, List.length_take]; omega, by omega, hb, fun b hb' => ?_⟩
    have h3 := h2 (b.toNat : Int) (by rw [← hb]; unfold bts; exact List.mem_map.2 ⟨b, hb', rfl⟩)
    unfold byI at h3
    unfold byOk
    omega
  · rw [if_neg h2] at h; simp at h

/-! ### fields -/
structure FdX (f : Fd) : Prop extends FdOk f where
  one : f.so = 1 → 0 ≤ f.le
  two : f.so = 2 → f.le = -1000000 ∧ f.mo = 1000000
  lst : f.so = 3 ∨ f.so = 4 → f.le = 1
  tex : f.so = 5 ∨ f.so = 6 → f.le = 0
theorem FD_fdx (k : Int) : ∀ f ∈ FD k, FdX f := by
  have hall : ∀ L : List Fd, (L.all fun f => decide ((f.so = 1 → 0 ≤ f.le) ∧ (f.so = 2 → f.le = -1000000 ∧ f.mo = 1000000) ∧ (f.so = 3 ∨ f.so = 4 → f.le = 1) ∧ (f.so = 5 ∨ f.so = 6 → f.le = 0))) = true → ∀ f ∈ L, ((f.so = 1 → 0 ≤ f.le) ∧ (f.so = 2 → f.le = -1000000 ∧ f.mo = 1000000) ∧ (f.so = 3 ∨ f.so = 4 → f.le = 1) ∧ (f.so = 5 ∨ f.so = 6 → f.le = 0)) := by
    intro L h f hf
    rw [List.all_eq_true] at h
    exact of_decide_eq_true (h f hf)
  intro f hf
  have h1 : ((f.so = 1 → 0 ≤ f.le) ∧ (f.so = 2 → f.le = -1000000 ∧ f.mo = 1000000) ∧ (f.so = 3 ∨ f.so = 4 → f.le = 1) ∧ (f.so = 5 ∨ f.so = 6 → f.le = 0)) := by
    revert f
    rcases kind_ways k with rfl | rfl | rfl | rfl | rfl | ⟨h1, h2, h3, h4, h5⟩
    case' inr.inr.inr.inr.inr => rw [show FD k = [] by simp [FD, raw, h1, h2, h3, h4, h5, pls]]
    all_goals exact hall _ (by decide)
  exact ⟨FD_fdok k f hf, h1.1, h1.2.1, h1.2.2.1, h1.2.2.2⟩
theorem so_ways {f : Fd} (h : FdX f) : f.so = 1 ∨ f.so = 2 ∨ f.so = 3 ∨ f.so = 4 ∨ f.so = 5 ∨ f.so = 6 := by have := h.so; omega
theorem wN_zero {n le mo : Int} (h : wN n le mo = 0) : le ≤ n ∧ n ≤ mo := by
  unfold wN at h
  split at h <;> omega
theorem wP_zero {l : List (Int × Int)} {mo : Int} (h : wP l mo = 0) : 1 ≤ l.length ∧ (l.length : Int) ≤ mo ∧ ∀ q ∈ l, ptOk q := by
  unfold wP wS at h
  repeat' split at h
  all_goals first | omega | (simp_all; done) | (refine ⟨by omega, by omega, by assumption⟩)
theorem wC_zero {l : List Int} {mo : Int} (h : wC l mo = 0) : 1 ≤ l.length ∧ (l.length : Int) ≤ mo ∧ cE (-1) l = 0 := by
  unfold wC wS at h
  repeat' split at h
  all_goals first | omega | (simp_all; done) | (refine ⟨by omega, by omega, by assumption⟩)
theorem wT_zero {s : ByteArray} {mo : Int} (h : wT s mo = 0) : (s.size : Int) ≤ mo ∧ ∀ b ∈ s.data.toList, byOk b := by
  unfold wT at h
  repeat' split at h
  all_goals first | omega | (refine ⟨by omega, by assumption⟩)
/-- a field that was told is read, whatever lies behind it -/
theorem rdF_told {f : Fd} (hf : FdX f) {M N : Mg} (he : fE M f = 0) (hp : f.so = 3 → N.p = []) (hc : f.so = 4 → N.c = []) (r : List Int) : rdF N f (mpart M f ++ r) = (0, (mpart M f).length, cp N M f) := by
  have hmo := hf.mo
  have hle := hf.le
  rcases so_ways hf with e | e | e | e | e | e
  · have h0 := hf.one e
    have hx : fE M f = wN (M.at' f.pl.toNat) f.le f.mo := by unfold fE; simp [e]
    rw [hx] at he
    have hw := wN_zero he
    have hpt : mpart M f = Vi.enc (M.at' f.pl.toNat).toNat := by unfold mpart; simp [e]
    rw [hpt]
    obtain ⟨g1, g2, g3⟩ := get_enc' (n := (M.at' f.pl.toNat).toNat) (by omega) r
    unfold rdF
    rw [g1, g2, g3, if_neg (by simp), if_pos e, if_neg (by omega)]
    rw [show (((M.at' f.pl.toNat).toNat : Nat) : Int) = M.at' f.pl.toNat by omega]
    simp [cp, e]
  · obtain ⟨h1, h2⟩ := hf.two e
    have hx : fE M f = wN (M.at' f.pl.toNat) f.le f.mo := by unfold fE; simp [e]
    rw [hx] at he
    have hw := wN_zero he
    have hpt : mpart M f = Vi.enc (zg (M.at' f.pl.toNat)) := by unfold mpart; simp [e]
    rw [hpt]
    have hz := zg_le (x := M.at' f.pl.toNat) (b := 1000000) (by omega) (by omega)
    obtain ⟨g1, g2, g3⟩ := get_enc' (n := zg (M.at' f.pl.toNat)) (by omega) r
    unfold rdF
    rw [g1, g2, g3, zag_zg, if_neg (by simp), if_neg (by omega), if_pos e, if_neg (by omega)]
    simp [cp, e]
  · have hl := hf.lst (.inl e)
    have hx : fE M f = wP M.p f.mo := by unfold fE; simp [e]
    rw [hx] at he
    obtain ⟨w1, w2, w3⟩ := wP_zero he
    have hpt : mpart M f = Vi.enc M.p.length ++ dlt (0, 0) M.p := by unfold mpart; simp [e]
    rw [hpt, List.append_assoc]
    obtain ⟨g1, g2, g3⟩ := get_enc' (n := M.p.length) (by omega) (dlt (0, 0) M.p ++ r)
    unfold rdF
    rw [g1, g2, g3, if_neg (by simp), if_neg (by omega), if_neg (by omega), if_neg (by omega), if_neg (by omega), if_pos e, List.drop_left, rdP_told M.p (0, 0) r ⟨by decide, by decide, by decide, by decide⟩ w3]
    simp [cp, e, hp e]
  · have hl := hf.lst (.inr e)
    have hx : fE M f = wC M.c f.mo := by unfold fE; simp [e]
    rw [hx] at he
    obtain ⟨w1, w2, w3⟩ := wC_zero he
    have hpt : mpart M f = Vi.enc M.c.length ++ gaps (-1) M.c := by unfold mpart; simp [e]
    rw [hpt, List.append_assoc]
    obtain ⟨g1, g2, g3⟩ := get_enc' (n := M.c.length) (by omega) (gaps (-1) M.c ++ r)
    unfold rdF
    rw [g1, g2, g3, if_neg (by simp), if_neg (by omega), if_neg (by omega), if_neg (by omega), if_neg (by omega), if_neg (by omega), if_pos e, List.drop_left, rdC_told M.c (-1) r (by omega) (by omega) w3]
    simp [cp, e, hc e]
  · have hl := hf.tex (.inl e)
    have hx : fE M f = wT M.tx f.mo := by unfold fE; simp [e]
    rw [hx] at he
    obtain ⟨w1, w2⟩ := wT_zero he
    have hpt : mpart M f = Vi.enc M.tx.size ++ bts M.tx := by unfold mpart; simp [e]
    rw [hpt, List.append_assoc]
    obtain ⟨g1, g2, g3⟩ := get_enc' (n := M.tx.size) (by omega) (bts M.tx ++ r)
    unfold rdF
    rw [g1, g2, g3, if_neg (by simp), if_neg (by omega), if_neg (by omega), if_neg (by omega), if_neg (by omega), if_neg (by omega), if_neg (by omega), List.drop_left, rdT_told M.tx r w2]
    simp [cp, e, bts_len]
  · have hl := hf.tex (.inr e)
    have hx : fE M f = wT M.tg f.mo := by unfold fE; simp [e]
    rw [hx] at he
    obtain ⟨w1, w2⟩ := wT_zero he
    have hpt : mpart M f = Vi.enc M.tg.size ++ bts M.tg := by unfold mpart; simp [e]
    rw [hpt, List.append_assoc]
    obtain ⟨g1, g2, g3⟩ := get_enc' (n := M.tg.size) (by omega) (bts M.tg ++ r)
    unfold rdF
    rw [g1, g2, g3, if_neg (by simp), if_neg (by omega), if_neg (by omega), if_neg (by omega), if_neg (by omega), if_neg (by omega), if_neg (by omega), List.drop_left, rdT_told M.tg r w2]
    simp [cp, e, bts_len]
end Go.Proofs.YtlbfibnfmijahaaGreat

namespace Go.Proofs.YtlbfibnfmijahaaGreat
open Go.RowKit
set_option maxRecDepth 100000

theorem wS_ok {n mo : Int} (h1 : 1 ≤ n) (h2 : n ≤ mo) : wS n mo = 0 := by
  unfold wS
  rw [if_neg (by omega), if_neg (by omega)]
theorem rdFld_ok {f : Fd} (hf : FdX f) {N N' : Mg} {l : List Int} {u : Nat} (hl : Bys l) (hp : f.so = 3 → N.p = []) (hc : f.so = 4 → N.c = []) (h : rdF N f l = (0, u, N')) :
    u ≤ l.length ∧ mpart N' f = l.take u ∧ fE N' f = 0 ∧ N' = cp N N' f := by
  have hmo := hf.mo
  unfold rdF at h
  by_cases h1 : (Vi.get l).2.2 = 0
  case neg => rw [if_pos h1] at h; simp only [Prod.mk.injEq] at h; exact absurd h.1 h1
  rw [if_neg (by simpa using h1)] at h
  obtain ⟨g1, g2, g3, g4, g5⟩ := Vi.get_put hl h1
  generalize (Vi.get l).1 = n at *
  generalize (Vi.get l).2.1 = u1 at *
  rcases so_ways hf with e | e | e | e | e | e
  · rw [if_pos e] at h
    obtain ⟨j, hj, hpl⟩ := hf.pl (by omega)
    split at h
    · simp at h
    · simp only [Prod.mk.injEq, true_and] at h
      obtain ⟨rfl, rfl⟩ := h
      have hat : (N.put f.pl.toNat (n : Int)).at' f.pl.toNat = (n : Int) := by rw [hpl, Int.toNat_natCast]; exact Mg.put_at hj N _
      refine ⟨g3, ?_, ?_, ?_⟩
      · unfold mpart; simp [e, hat, g4]
      · unfold fE; simp [e, hat, wN]; omega
      · unfold cp; simp [e, hat]
  · rw [if_neg (by omega), if_pos e] at h
    obtain ⟨j, hj, hpl⟩ := hf.pl (by omega)
    obtain ⟨t1, t2⟩ := hf.two e
    split at h
    · simp at h
    · simp only [Prod.mk.injEq, true_and] at h
      obtain ⟨rfl, rfl⟩ := h
      have hat : (N.put f.pl.toNat (zagZ (n : Int))).at' f.pl.toNat = zagZ (n : Int) := by rw [hpl, Int.toNat_natCast]; exact Mg.put_at hj N _
      refine ⟨g3, ?_, ?_, ?_⟩
      · unfold mpart; simp [e, hat, zg_zag, g4]
      · unfold fE; simp [e, hat, wN]; omega
      · unfold cp; simp [e, hat]
  · have hle := hf.lst (.inl e)
    rw [if_neg (by omega), if_neg (by omega)] at h
    split at h
    · simp at h
    split at h
    · simp at h
    try rw [if_pos e] at h
    obtain ⟨⟨e3, u3, L3⟩, hr⟩ : ∃ q, rdP n (0, 0) (l.drop u1) = q := ⟨_, rfl⟩
    simp only [hr] at h
    split at h
    · rename_i h5; simp only [Prod.mk.injEq] at h; exact absurd h.1 h5
    rename_i h5
    simp only [Prod.mk.injEq, true_and] at h
    obtain ⟨rfl, rfl⟩ := h
    have h6 : e3 = 0 := by simpa using h5
    subst h6
    obtain ⟨a1, a2, a3, a4⟩ := rdP_ok _ _ _ _ _ (hl.drop u1) hr
    rw [List.length_drop] at a2
    rw [hp e, List.nil_append]
    refine ⟨by omega, ?_, ?_, ?_⟩
    · unfold mpart; simp only [e, if_true]; rw [a1, g4, a3, take_two]
    · unfold fE; simp only [e, if_true]
      unfold wP
      rw [a1, wS_ok (by omega) (by omega), if_neg (by simp), if_pos a4]
    · unfold cp; simp [e]
  · have hle := hf.lst (.inr e)
    rw [if_neg (by omega), if_neg (by omega)] at h
    split at h
    · simp at h
    split at h
    · simp at h
    have e3' : ¬ f.so = 3 := by omega
    rw [if_neg e3'] at h
    try rw [if_pos e] at h
    obtain ⟨⟨e3, u3, L3⟩, hr⟩ : ∃ q, rdC n (-1) (l.drop u1) = q := ⟨_, rfl⟩
    simp only [hr] at h
    split at h
    · rename_i h5; simp only [Prod.mk.injEq] at h; exact absurd h.1 h5
    rename_i h5
    simp only [Prod.mk.injEq, true_and] at h
    obtain ⟨rfl, rfl⟩ := h
    have h6 : e3 = 0 := by simpa using h5
    subst h6
    obtain ⟨a1, a2, a3, a4⟩ := rdC_ok _ _ _ _ _ (by omega) (hl.drop u1) hr
    rw [List.length_drop] at a2
    rw [hc e, List.nil_append]
    refine ⟨by omega, ?_, ?_, ?_⟩
    · unfold mpart; simp only [if_neg e3', if_pos e]; rw [a1, g4, a3, take_two]
    · unfold fE; simp only [if_neg e3', if_pos e]
      unfold wC
      rw [a1, wS_ok (by omega) (by omega), if_neg (by simp), a4]
    · unfold cp; simp [e]
  all_goals
    have hle := hf.tex (by omega)
    rw [if_neg (by omega), if_neg (by omega)] at h
    split at h
    · simp at h
    split at h
    · simp at h
    try rw [if_neg (by omega), if_neg (by omega)] at h
    obtain ⟨⟨e3, u3, s⟩, hr⟩ : ∃ q, rdT n (l.drop u1) = q := ⟨_, rfl⟩
    simp only [hr] at h
    split at h
    · rename_i h5; simp only [Prod.mk.injEq] at h; exact absurd h.1 h5
    rename_i h5
    simp only [Prod.mk.injEq, true_and] at h
    obtain ⟨rfl, rfl⟩ := h
    have h6 : e3 = 0 := by simpa using h5
    subst h6
    obtain ⟨a1, a2, a3, a4, a5⟩ := rdT_ok (hl.drop u1) hr
    rw [List.length_drop] at a3
    subst a1
    have e3' : ¬ f.so = 3 := by omega
    have e4' : ¬ f.so = 4 := by omega
  · try rw [if_pos e]
    refine ⟨by omega, ?_, ?_, ?_⟩
    · unfold mpart; simp only [if_neg e3', if_neg e4', if_pos e]; rw [a2, g4, a4, take_two]
    · unfold fE; simp only [if_neg e3', if_neg e4', if_pos e]
      unfold wT
      rw [a2, if_neg (by omega), if_pos a5]
    · unfold cp; simp [e]
  · have e5' : ¬ f.so = 5 := by omega
    try rw [if_neg e5']
    refine ⟨by omega, ?_, ?_, ?_⟩
    · unfold mpart; simp only [if_neg e3', if_neg e4', if_neg e5', if_pos e]; rw [a2, g4, a4, take_two]
    · unfold fE; simp only [if_neg e3', if_neg e4', if_neg e5', if_pos e]
      unfold wT
      rw [a2, if_neg (by omega), if_pos a5]
    · unfold cp; simp [e]

/-! ### fields that are apart -/
theorem cp_p {f : Fd} (h : f.so ≠ 3) (N M : Mg) : (cp N M f).p = N.p := by
  unfold cp
  repeat' split
  all_goals first | rfl | exact absurd (by assumption) h | exact Mg.put_p ..
theorem cp_c {f : Fd} (h : f.so ≠ 4) (N M : Mg) : (cp N M f).c = N.c := by
  unfold cp
  repeat' split
  all_goals first | rfl | exact absurd (by assumption) h | exact Mg.put_c ..
/-- fields of one message, and room for their lists -/
structure Flds (fs : List Fd) (N : Mg) : Prop where
  fdx : ∀ f ∈ fs, FdX f
  apt : fs.Pairwise Apt
  p : ∀ f ∈ fs, f.so = 3 → N.p = []
  c : ∀ f ∈ fs, f.so = 4 → N.c = []
theorem apt_so {f g : Fd} (h : Apt f g) (hf : 3 ≤ f.so) : f.so ≠ g.so := by
  rcases h with h | h
  · exact h.1
  · omega
theorem Flds.next {f : Fd} {r : List Fd} {N : Mg} (h : Flds (f :: r) N) (M : Mg) : Flds r (cp N M f) := by
  obtain ⟨h1, h2, h3, h4⟩ := h
  rw [List.pairwise_cons] at h2
  refine ⟨fun g hg => h1 g (List.mem_cons_of_mem _ hg), h2.2, fun g hg e => ?_, fun g hg e => ?_⟩
  · rw [cp_p (fun e2 => apt_so (h2.1 g hg) (by omega) (by omega))]
    exact h3 g (List.mem_cons_of_mem _ hg) e
  · rw [cp_c (fun e2 => apt_so (h2.1 g hg) (by omega) (by omega))]
    exact h4 g (List.mem_cons_of_mem _ hg) e
theorem rdL_told (M : Mg) (r : List Int) : ∀ (fs : List Fd) (N : Mg), Flds fs N → (∀ f ∈ fs, fE M f = 0) → rdL fs N ((fs.map (mpart M)).flatten ++ r) = (0, ((fs.map (mpart M)).flatten).length, fs.foldl (fun N f => cp N M f) N)
  | [], N, _, _ => rfl
  | f :: fs, N, h, he => by
    have h1 := rdF_told (h.fdx f (List.mem_cons_self ..)) (he f (List.mem_cons_self ..)) (h.p f (List.mem_cons_self ..)) (h.c f (List.mem_cons_self ..)) ((fs.map (mpart M)).flatten ++ r)
    have ih := rdL_told M r fs (cp N M f) (h.next M) fun g hg => he g (List.mem_cons_of_mem _ hg)
    rw [List.map_cons, List.flatten_cons, List.append_assoc, rdL, h1]
    simp only [ne_eq, not_true_eq_false, if_false, List.drop_left]
    rw [ih]
    simp only [List.length_append, List.foldl_cons]
end Go.Proofs.YtlbfibnfmijahaaGreat

namespace Go.Proofs.YtlbfibnfmijahaaGreat
open Go.RowKit
set_option maxRecDepth 100000

theorem FDv_sub {k v : Int} {f : Fd} (h : f ∈ FDv k v) : f ∈ FD k := (List.mem_filter.1 h).1
theorem FDv_flds (k v : Int) : Flds (FDv k v) (Mg.zero k) :=
  ⟨fun f hf => FD_fdx k f (FDv_sub hf), (FD_apt k).sublist List.filter_sublist, fun _ _ _ => rfl, fun _ _ _ => rfl⟩
theorem cp_k (N M : Mg) (f : Fd) : (cp N M f).k = N.k := by
  unfold cp
  repeat' split
  all_goals first | rfl | exact Mg.put_k ..
theorem fold_cp_k (M : Mg) : ∀ (l : List Fd) (N : Mg), (l.foldl (fun N f => cp N M f) N).k = N.k
  | [], _ => rfl
  | f :: r, N => by rw [List.foldl_cons, fold_cp_k M r, cp_k]
theorem six (P : Nat → Prop) : (∀ i : Nat, i < 6 → P i) ↔ (P 0 ∧ P 1 ∧ P 2 ∧ P 3 ∧ P 4 ∧ P 5) := ⟨fun h => ⟨h 0 (by omega), h 1 (by omega), h 2 (by omega), h 3 (by omega), h 4 (by omega), h 5 (by omega)⟩, fun ⟨a, b, c, d, e, f⟩ i hi => by
  rcases i with _ | _ | _ | _ | _ | _ | i <;> first | assumption | omega⟩
/-- all fields of a version, and what stands for the others -/
theorem fold_proj {M : Mg} {v : Int} (hv : v = 1 ∨ v = 2) (h : mck M = 0) : mproj ((FDv M.k v).foldl (fun N f => cp N M f) (Mg.zero M.k)) v = mproj M v := by
  rw [mck_zero, rest_iff, six] at h
  unfold mproj
  rw [fold_cp_k]
  show (if v = 1 then (FD M.k).foldl prj _ else _) = _
  obtain ⟨k, n0, n1, n2, n3, n4, n5, p, c, tx, tg⟩ := M
  simp only at h ⊢
  rcases kind_ways k with rfl | rfl | rfl | rfl | rfl | ⟨h1, h2, h3, h4, h5⟩
  case inr.inr.inr.inr.inr => exact absurd (show FD k = [] by simp [FD, raw, h1, h2, h3, h4, h5, pls]) h.1
  all_goals
    obtain ⟨h1, h2, h3⟩ := h
    clear h1 h2
    rcases hv with rfl | rfl
    all_goals
      simp [FD, raw, pls, isN, isS, Mg.at'] at h3
      simp [FDv, FD, raw, pls, cp, prj, Mg.put, Mg.at', Mg.zero, h3]
/-- what is encoded is decoded as its projection -/
theorem bdec_body {M : Mg} {v : Int} (hv : v = 1 ∨ v = 2) (h : mck M = 0) : bdec M.k v (body M v) = (0, mproj M v) := by
  have h0 := h
  rw [mck_zero] at h
  have hr := rdL_told M [] (FDv M.k v) (Mg.zero M.k) (FDv_flds M.k v) fun f hf => h.2.1 f (FDv_sub hf)
  rw [List.append_nil] at hr
  unfold bdec body
  rw [hr, if_neg (by omega), if_neg h.1, if_neg (by simp), if_neg (by simp), fold_proj hv h0]
/-! ### how many bytes -/
theorem dlt_len : ∀ (l : List (Int × Int)) (a : Int × Int), ptOk a → (∀ q ∈ l, ptOk q) → (dlt a l).length ≤ 8 * l.length
  | [], _, _, _ => Nat.le_refl _
  | q :: l, a, ha, hl => by
    have hq := hl q (List.mem_cons_self ..)
    have ih := dlt_len l q hq fun x hx => hl x (List.mem_cons_of_mem _ hx)
    unfold ptOk at ha hq
    have h1 := Vi.enc_le 3 (zg (q.1 - a.1)) (Nat.lt_of_le_of_lt (zg_le (b := 2000000) (by omega) (by omega)) (by decide))
    have h2 := Vi.enc_le 3 (zg (q.2 - a.2)) (Nat.lt_of_le_of_lt (zg_le (b := 2000000) (by omega) (by omega)) (by decide))
    rw [dlt, List.length_append, List.length_append, List.length_cons]
    omega
theorem gaps_len : ∀ (l : List Int) (a : Int), -1 ≤ a → cE a l = 0 → (gaps a l).length ≤ 3 * l.length
  | [], _, _, _ => Nat.le_refl _
  | c :: l, a, ha, h => by
    rw [cE] at h
    by_cases h1 : c < 0 ∨ 65535 < c
    · rw [if_pos h1] at h; omega
    rw [if_neg h1] at h
    by_cases h2 : c ≤ a
    · rw [if_pos h2] at h; omega
    rw [if_neg h2] at h
    have ih := gaps_len l c (by omega) h
    have h3 := Vi.enc_le 2 (c - a - 1).toNat (Nat.lt_of_le_of_lt (m := 65536) (by omega) (by decide))
    rw [gaps, List.length_append, List.length_cons]
    omega
def bnd (f : Fd) : Nat := if f.so = 3 then 129 else if f.so = 4 then 97 else if f.so = 5 then 65 else if f.so = 6 then 17 else 3
theorem part_len {f : Fd} (hf : FdX f) {M : Mg} (he : fE M f = 0) : (mpart M f).length ≤ bnd f := by
  have hmo := hf.mo
  have hle := hf.le
  unfold mpart bnd
  unfold fE at he
  rcases so_ways hf with e | e | e | e | e | e
  all_goals simp only [e] at he ⊢
  · have h0 := hf.one e
    have hw := wN_zero (by simpa using he)
    simp
    exact Vi.enc_le 2 _ (by omega)
  · obtain ⟨h1, h2⟩ := hf.two e
    have hw := wN_zero (by simpa using he)
    simp
    exact Vi.enc_le 2 _ (Nat.lt_of_le_of_lt (zg_le (b := 1000000) (by omega) (by omega)) (by decide))
  · have hm := hmo.1 e
    obtain ⟨w1, w2, w3⟩ := wP_zero (by simpa using he)
    have h1 := dlt_len M.p (0, 0) ⟨by decide, by decide, by decide, by decide⟩ w3
    have h2 := Vi.enc_le 0 M.p.length (by omega)
    simp only [if_true, List.length_append]
    omega
  · have hm := hmo.2.1 e
    obtain ⟨w1, w2, w3⟩ := wC_zero (by simpa using he)
    have h1 := gaps_len M.c (-1) (by omega) w3
    have h2 := Vi.enc_le 0 M.c.length (by omega)
    simp
    omega
  · have hm := hmo.2.2.1 e
    obtain ⟨w1, w2⟩ := wT_zero (by simpa using he)
    have h2 := Vi.enc_le 0 M.tx.size (by omega)
    simp [bts_len]
    omega
  · have hm := hmo.2.2.2 e
    obtain ⟨w1, w2⟩ := wT_zero (by simpa using he)
    have h2 := Vi.enc_le 0 M.tg.size (by omega)
    simp [bts_len]
    omega
theorem sum_le_bnd (M : Mg) : ∀ (l : List Fd), (∀ f ∈ l, FdX f ∧ fE M f = 0) → ((l.map (mpart M)).flatten).length ≤ (l.map bnd).sum
  | [], _ => Nat.le_refl _
  | f :: r, h => by
    have h1 := part_len (h f (List.mem_cons_self ..)).1 (h f (List.mem_cons_self ..)).2
    have h2 := sum_le_bnd M r fun g hg => h g (List.mem_cons_of_mem _ hg)
    rw [List.map_cons, List.flatten_cons, List.length_append, List.map_cons, List.sum_cons]
    omega
theorem FDv_sum (k : Int) {v : Int} (hv : v = 1 ∨ v = 2) : ((FDv k v).map bnd).sum ≤ 192 := by
  rcases kind_ways k with rfl | rfl | rfl | rfl | rfl | ⟨h1, h2, h3, h4, h5⟩
  case inr.inr.inr.inr.inr => rw [show FDv k v = [] by simp [FDv, FD, raw, h1, h2, h3, h4, h5, pls]]; decide
  all_goals
    rcases hv with rfl | rfl
    all_goals decide
theorem body_len {M : Mg} {v : Int} (hv : v = 1 ∨ v = 2) (h : mck M = 0) : (body M v).length ≤ 192 := by
  rw [mck_zero] at h
  exact Nat.le_trans (sum_le_bnd M _ fun f hf => ⟨FD_fdx M.k f (FDv_sub hf), h.2.1 f (FDv_sub hf)⟩) (FDv_sum M.k hv)
theorem body_byte (M : Mg) (v : Int) : Bys (body M v) := by
  intro c hc
  unfold body at hc
  rw [List.mem_flatten] at hc
  obtain ⟨l, hl, hcl⟩ := hc
  rw [List.mem_map] at hl
  obtain ⟨f, _, rfl⟩ := hl
  have hd : ∀ (q : List (Int × Int)) (a : Int × Int), ∀ c ∈ dlt a q, 0 ≤ c ∧ c ≤ 255 := by
    intro q
    induction q with
    | nil => intro a c hc; simp [dlt] at hc
    | cons x r ih =>
      intro a c hc
      rw [dlt, List.mem_append, List.mem_append] at hc
      rcases hc with hc | hc | hc
      · exact Vi.enc_byte _ c hc
      · exact Vi.enc_byte _ c hc
      · exact ih x c hc
  have hg : ∀ (q : List Int) (a : Int), ∀ c ∈ gaps a q, 0 ≤ c ∧ c ≤ 255 := by
    intro q
    induction q with
    | nil => intro a c hc; simp [gaps] at hc
    | cons x r ih =>
      intro a c hc
      rw [gaps, List.mem_append] at hc
      rcases hc with hc | hc
      · exact Vi.enc_byte _ c hc
      · exact ih x c hc
  unfold mpart at hcl
  repeat' split at hcl
  all_goals first
    | exact Vi.enc_byte _ c hcl
    | (rw [List.mem_append] at hcl
       rcases hcl with hcl | hcl
       · exact Vi.enc_byte _ c hcl
       · first | exact hd _ _ c hcl | exact hg _ _ c hcl | exact bts_byte _ c hcl)
end Go.Proofs.YtlbfibnfmijahaaGreat

namespace Go.Proofs.YtlbfibnfmijahaaGreat
open Go.RowKit
set_option maxRecDepth 100000

/-- does a message fit a version? -/
def mfits (M : Mg) (v : Int) : Bool := decide (mck M = 0) && decide (mproj M v = M)
/-- the least version that it fits; the error -/
def mbest (M : Mg) : Int × Int := if mck M ≠ 0 then (0, mck M) else if mproj M 1 = M then (1, 0) else (2, 0)
/-- is a field lost in version 1? -/
def lostF (M : Mg) (f : Fd) : Bool := decide (f.si = 2) && (decide (f.so = 6 ∧ M.tg ≠ ⟨#[]⟩) || decide (0 ≤ f.pl ∧ M.at' f.pl.toNat ≠ f.ab))
def mlost (M : Mg) (v : Int) : List Fd := if mck M ≠ 0 ∨ v ≠ 1 then [] else (FD M.k).filter (lostF M)

/-- by the projection -/
theorem lost_alt (M : Mg) : ∀ f ∈ FD M.k, lostF M f = (decide (f.si = 2) && (if f.so = 6 then decide (M.tg ≠ (mproj M 1).tg) else decide (0 ≤ f.pl ∧ M.at' f.pl.toNat ≠ (mproj M 1).at' f.pl.toNat))) := by
  unfold mproj
  rw [if_pos rfl]
  obtain ⟨k, n0, n1, n2, n3, n4, n5, p, c, tx, tg⟩ := M
  simp only
  rcases kind_ways k with rfl | rfl | rfl | rfl | rfl | ⟨h1, h2, h3, h4, h5⟩
  case' inr.inr.inr.inr.inr => rw [show FD k = [] by simp [FD, raw, h1, h2, h3, h4, h5, pls]]
  all_goals simp [FD, raw, pls, prj, Mg.put, Mg.at', lostF]
theorem sproj_two (M : Mg) : mproj M 2 = M := by unfold mproj; rw [if_neg (by decide)]
theorem mfits_proj {M : Mg} (h : mck M = 0) (v : Int) : mfits (mproj M v) v = true := by
  unfold mfits
  rw [mck_proj M v h, mproj_twice]
  simp
/-- a field since version 2 is a number or a tag -/
theorem FD_two (k : Int) : ∀ f ∈ FD k, f.si = 2 → (f.so = 1 ∧ ∃ jj : Nat, jj < 6 ∧ f.pl = (jj : Int)) ∨ (f.so = 6 ∧ f.pl = -1) := by
  have hall : ∀ L : List Fd, (L.all fun f => decide (f.si = 2 → (f.so = 1 ∧ 0 ≤ f.pl ∧ f.pl < 6) ∨ (f.so = 6 ∧ f.pl = -1))) = true → ∀ f ∈ L, f.si = 2 → (f.so = 1 ∧ ∃ jj : Nat, jj < 6 ∧ f.pl = (jj : Int)) ∨ (f.so = 6 ∧ f.pl = -1) := by
    intro L h f hf h2
    rw [List.all_eq_true] at h
    have h3 := of_decide_eq_true (h f hf) h2
    rcases h3 with ⟨a, b, c⟩ | h3
    · exact .inl ⟨a, f.pl.toNat, by omega, by omega⟩
    · exact .inr h3
  refine hall _ ?_
  rcases kind_ways k with rfl | rfl | rfl | rfl | rfl | ⟨h1, h2, h3, h4, h5⟩
  case' inr.inr.inr.inr.inr => rw [show FD k = [] by simp [FD, raw, h1, h2, h3, h4, h5, pls]]
  all_goals decide
theorem lost_num {M : Mg} {f : Fd} {jj : Nat} (h2 : f.si = 2) (hs : f.so = 1) (hp : f.pl = (jj : Int)) : lostF M f = decide (M.at' jj ≠ f.ab) := by
  unfold lostF
  rw [hp]
  simp [h2, hs]
theorem lost_tag {M : Mg} {f : Fd} (h2 : f.si = 2) (hs : f.so = 6) (hp : f.pl = -1) : lostF M f = decide (M.tg ≠ ⟨#[]⟩) := by
  unfold lostF
  rw [hp]
  simp [h2, hs]
theorem lost_old {M : Mg} {f : Fd} (h2 : f.si ≠ 2) : lostF M f = false := by
  unfold lostF
  simp [h2]
end Go.Proofs.YtlbfibnfmijahaaGreat

namespace Go.Proofs.YtlbfibnfmijahaaGreat
open Go.RowKit
set_option maxRecDepth 100000
theorem byteInfo : (Tryz.prog.info? 5).map (fun i => (i.zero, i.size, i.bytes)) = some (some (.int .u8 0), 1, 1) := by kernel_rfl
end Go.Proofs.YtlbfibnfmijahaaGreat

namespace Go.Proofs.YtlbfibnfmijahaaGreat
open Go.RowKit
set_option maxRecDepth 100000

/-- Same, of lists that are the same -/
theorem same_eq (B : Nat) (a1 a2 : Option Addr) (c1 c2 : Nat) (zs : List Int) (w : World) (hl : zs.length ≤ 9223372036854775807) (h1 : Nums .u8 w B a1 zs) (h2 : Nums .u8 w B a2 zs) :
    Calls Tryz.prog 18 #[.slice a1 zs.length c1, .slice a2 zs.length c2] w fun e w' => e = .returned (.bool true) ∧ ∃ n, w' = w.drewN n := by
  go_enter Tryz.func18, Tryz.ntmps18
  go_wp2
  go_loopw [5] (fun i wr => ∃ k : Nat, k ≤ zs.length ∧ i = .int .i64 k ∧ ∃ n, wr = w.drewN n) (fun i _ => zs.length - (intOf i).toNat)
  case atStart => exact ⟨0, by omega, rfl, 0, rfl⟩
  case round =>
    obtain ⟨k, hk, rfl, n, rfl⟩ := hrel
    by_cases hlt : k < zs.length
    · obtain ⟨c, hc⟩ : ∃ c, zs[k]? = some c := ⟨_, List.getElem?_eq_getElem hlt⟩
      obtain ⟨b1, o1, rfl, hb1, hc1⟩ := h1.open hc
      obtain ⟨b2, o2, rfl, hb2, hc2⟩ := h2.open hc
      clear h1 h2 hc
      have hlt' : (k : Int) < (zs.length : Int) := by omega
      go_wp2
      go_quiet (fail)
      go_wp2
      go_roundw
      case rel => exact ⟨k + 1, by omega, by go_num, _, rfl⟩
      case measure => simp [intOf]; omega
    · go_wp2
      go_ret
      exact ⟨rfl, n, rfl⟩

theorem same_len (B : Nat) (a1 a2 : Option Addr) (n1 n2 c1 c2 : Nat) (x y : List Int) (w : World) (hxy : x = y) (hn1 : x.length = n1) (hn2 : y.length = n2) (hl : n1 ≤ 9223372036854775807) (h1 : Nums .u8 w B a1 x) (h2 : Nums .u8 w B a2 y) :
    Calls Tryz.prog 18 #[.slice a1 n1 c1, .slice a2 n2 c2] w fun e w' => e = .returned (.bool true) ∧ ∃ n, w' = w.drewN n := by
  subst hxy hn1 hn2; exact same_eq B a1 a2 c1 c2 x w hl h1 h2

end Go.Proofs.YtlbfibnfmijahaaGreat

namespace Go.Proofs.YtlbfibnfmijahaaGreat
open Go.RowKit
set_option maxRecDepth 100000

/-- the bytes of numbers, one behind the other -/
def puts (zs : List Int) : List Int := zs.flatMap fun z => Vi.enc z.toNat
theorem puts_append (a b : List Int) : puts (a ++ b) = puts a ++ puts b := by simp [puts]
theorem puts_one (z : Int) : puts [z] = Vi.enc z.toNat := by simp [puts]
theorem puts_length (zs : List Int) (h : ∀ z ∈ zs, 0 ≤ z ∧ z ≤ 18446744073709551615) : (puts zs).length ≤ 10 * zs.length := by
  induction zs with
  | nil => simp [puts]
  | cons z zs ih =>
    have h1 := ih (fun x hx => h x (by simp [hx]))
    have h2 := Vi.enc_le10 (n := z.toNat) (by have := h z (by simp); omega)
    rw [show z :: zs = [z] ++ zs from rfl, puts_append, puts_one, List.length_append, List.length_append, List.length_singleton]
    omega
theorem ptake_more {zs : List Int} {k : Nat} {z : Int} (h : zs[k]? = some z) : zs.take (k + 1) = zs.take k ++ [z] := by
  have hk : k < zs.length := by
    rcases Nat.lt_or_ge k zs.length with h1 | h1
    · exact h1
    · rw [List.getElem?_eq_none h1] at h; simp at h
  rw [List.getElem?_eq_getElem hk] at h
  injection h with h
  rw [List.take_succ_eq_append_getElem hk, h]

theorem or128 (m : Nat) : bits .or .u8 (IntKind.u8.wrap (m : Int)) 128 = ((m % 128 + 128 : Nat) : Int) := by
  rw [IntKind.wrap_u8, show (m : Int) % 256 = ((m % 256 : Nat) : Int) by omega, show (128 : Int) = ((128 : Nat) : Int) from rfl, u8_or_nat _ _ (by omega) (by omega)]
  have h : m % 256 ||| 128 = m % 128 + 128 := by
    have h1 : ∀ i : Fin 256, i.val ||| 128 = i.val % 128 + 128 := by decide +kernel
    have := h1 ⟨m % 256, by omega⟩
    simp only at this
    omega
  rw [h]

/-- bytes that a call has made -/
def Made (w w' : World) (L : List Int) (v : Value) : Prop := w'.ownsRow w.heap.size 5 1 v L.length (L.map (Value.int .u8)) ∧ Below w.heap.size w w'
theorem Made.nil (w : World) : Made w w [] (.slice none 0 0) := ⟨World.ownsRow_nil _ _ _ _, Below.refl _ _⟩
theorem Made.slice {w w' : World} {L : List Int} {v : Value} (h : Made w w' L v) : ∃ A c, v = .slice A L.length c ∧ L.length ≤ c ∧ Nums .u8 w' w'.heap.size A L := by
  have h1 := h.1
  obtain ⟨_, h2⟩ := h1
  rcases h2 with ⟨rfl, h0⟩ | ⟨g, cap, cur, rfl, hg, hh, hn, _⟩
  · have : L = [] := List.eq_nil_of_length_eq_zero h0
    subst this
    exact ⟨none, 0, rfl, by simp, Nums.nil⟩
  · exact ⟨some ⟨g, 0, none⟩, cap, rfl, hn, Nums.of_own h.1⟩
theorem Made.app {w w1 w2 : World} {L : List Int} {v v' : Value} {x y : Int} {o : Obj} (h : Made w w1 L v) (hown : w2.ownsRow w.heap.size 5 1 v' (L.length + 1) (L.map (Value.int .u8) ++ [.int .u8 x])) (hg : (w1.alloc o).grownBy w2 v.ownBlock) (hx : x = y) : Made w w2 (L ++ [y]) v' := by
  subst hx
  refine ⟨by simpa using hown, ((h.2.alloc h.2.size o).grown hg (by have := h.2.size; simp; omega) (fun k hk => ?_))⟩
  have hv := h.1
  obtain ⟨_, h2⟩ := hv
  rcases h2 with ⟨rfl, h0⟩ | ⟨g, cap, cur, rfl, hg, hh, hn, _⟩
  · simp [Value.ownBlock] at hk
  · simp [Value.ownBlock] at hk; omega

set_option maxHeartbeats 800000 in
theorem put_any (B : Nat) (a : Option Addr) (cap : Nat) (zs : List Int) (w : World) (hl : zs.length ≤ 1000000) (hz : ∀ c ∈ zs, 0 ≤ c ∧ c ≤ 18446744073709551615) (hB : B ≤ w.heap.size) (h1 : Nums .u64 w B a zs) :
    Calls Tryz.prog 94 #[.slice a zs.length cap] w fun e w' => ∃ v, e = .returned v ∧ Made w w' (puts zs) v := by
  have HZ := Lib.hid hz
  have HP := Lib.hid (puts_length zs hz)
  clear hz
  obtain ⟨i0, hi, hz0, hz1, hz2⟩ := info_parts byteInfo
  go_enter Tryz.func94, Tryz.ntmps94
  go_wp2
  go_loopw [3, 8] (fun v i wr => ∃ k : Nat, k ≤ zs.length ∧ i = .int .i64 k ∧ Made w wr (puts (zs.take k)) v) (fun _ i _ => zs.length - (intOf i).toNat)
  case atStart => exact ⟨0, by omega, rfl, Made.nil w⟩
  case round =>
    obtain ⟨k, hk, rfl, hm⟩ := hrel
    by_cases hlt : k < zs.length
    · obtain ⟨z, hz⟩ : ∃ z, zs[k]? = some z := ⟨_, List.getElem?_eq_getElem hlt⟩
      obtain ⟨b1, o1, rfl, hb1, hc1⟩ := (h1.below (hm.2.mono hB)).open hz
      have hzb := HZ.out z (List.mem_of_getElem? hz)
      have HT := Lib.hid (ptake_more hz)
      have HH1 := Lib.hid h1
      clear h1 hz
      have HL : Hid ((puts (zs.take k)).length + (Vi.enc z.toNat).length ≤ 10000010) := by
        have e1 := puts_length (zs.take k) (fun c hc => HZ.out c (List.mem_of_mem_take hc))
        have e2 := Vi.enc_le10 (n := z.toNat) (by omega)
        have e3 : (zs.take k).length ≤ 1000000 := by rw [List.length_take]; omega
        show _ ≤ _
        omega
      go_wp2
      go_loopw [3, 5] (fun v n wx => ∃ (m : Nat) (L : List Int), m ≤ 18446744073709551615 ∧ n = .int .u64 m ∧ Hid (L ++ Vi.enc m = puts (zs.take k) ++ Vi.enc z.toNat) ∧ Made w wx L v) (fun _ n _ => (intOf n).toNat)
      case atStart => exact ⟨z.toNat, _, by omega, by rw [Int.toNat_of_nonneg hzb.1], rfl, hm⟩
      case round =>
        obtain ⟨m, L, hm64, rfl, HE, hmx⟩ := hrel
        have hLl : L.length + (Vi.enc m).length ≤ 10000010 := by
          have e := congrArg List.length HE.out
          rw [List.length_append, List.length_append] at e
          have := HL.out
          omega
        have hep := Vi.enc_pos m
        have hsz := hmx.2.size
        by_cases h128 : 128 ≤ m
        · have h128' : (128 : Int) ≤ (m : Int) := by omega
          go_wp2_with (at_builtin; refine wpList_append_own _ rfl _ _ 49 rfl w.heap.size 5 i0 (.int .u8 0) 1 1 Tryz.underlying49 hi hz0 hz1 hz2 rfl (by decide) _ _ _ rfl (hmx.1.alloc _) ⟨wr.heap.size, 0, none⟩ 1 1 [_] rfl rfl (cell_one_new _ _ _) ?c2 ?c3 ?c4 ?c5 ?_)
          case c2 => intro u hu; simp at hu; subst hu; rfl
          case c3 => unfold maxLen; omega
          case c4 => omega
          case c5 => simp; omega
          intro v' w1 hown' hgrow _
          have HM := Lib.hid (hmx.app hown' hgrow (or128 m))
          clear hown' hgrow hmx hm
          go_wp2
          go_roundw
          case rel => exact ⟨m / 128, _, by omega, by go_num, by have := HE.out; rw [Vi.enc_big h128] at this; simpa [Hid] using this, HM.out⟩
          case measure => simp [intOf]; omega
        · have h128' : (m : Int) < 128 := by omega
          go_wp2_with (at_builtin; refine wpList_append_own _ rfl _ _ 49 rfl w.heap.size 5 i0 (.int .u8 0) 1 1 Tryz.underlying49 hi hz0 hz1 hz2 rfl (by decide) _ _ _ rfl (hmx.1.alloc _) ⟨wr.heap.size, 0, none⟩ 1 1 [_] rfl rfl (cell_one_new _ _ _) ?d2 ?d3 ?d4 ?d5 ?_)
          case d2 => intro u hu; simp at hu; subst hu; rfl
          case d3 => unfold maxLen; omega
          case d4 => omega
          case d5 => simp; omega
          intro v' w1 hown' hgrow _
          have HM := Lib.hid (hmx.app (y := (m : Int)) hown' hgrow (by first | rfl | (rw [IntKind.wrap_u8]; omega)))
          clear hown' hgrow hmx hm
          go_wp2
          go_roundw
          case rel =>
            have he := HE.out
            rw [Vi.enc_small (by omega)] at he
            refine ⟨k + 1, by omega, by go_num, ?_⟩
            rw [HT.out, puts_append, puts_one, ← he]
            exact HM.out
          case measure => simp [intOf]; omega
    · go_wp2
      go_ret
      rw [List.take_of_length_le (by omega)] at hm
      exact ⟨_, rfl, hm⟩

set_option maxHeartbeats 800000 in
theorem rput_any (B : Nat) (a : Option Addr) (cap : Nat) (zs : List Int) (w : World) (hl : zs.length ≤ 1000000) (hz : ∀ c ∈ zs, 0 ≤ c ∧ c ≤ 18446744073709551615) (hB : B ≤ w.heap.size) (h1 : Nums .u64 w B a zs) :
    Calls Tryz.prog 76 #[.slice a zs.length cap] w fun e w' => ∃ v, e = .returned v ∧ Made w w' (puts zs) v := by
  have HZ := Lib.hid hz
  have HP := Lib.hid (puts_length zs hz)
  clear hz
  obtain ⟨i0, hi, hz0, hz1, hz2⟩ := info_parts byteInfo
  go_enter Tryz.func76, Tryz.ntmps76
  go_wp2
  go_loopw [3, 4] (fun v i wr => ∃ k : Nat, k ≤ zs.length ∧ i = .int .i64 k ∧ Made w wr (puts (zs.take k)) v) (fun _ i _ => zs.length - (intOf i).toNat)
  case atStart => exact ⟨0, by omega, rfl, Made.nil w⟩
  case round =>
    obtain ⟨k, hk, rfl, hm⟩ := hrel
    by_cases hlt : k < zs.length
    · obtain ⟨z, hz⟩ : ∃ z, zs[k]? = some z := ⟨_, List.getElem?_eq_getElem hlt⟩
      obtain ⟨b1, o1, rfl, hb1, hc1⟩ := (h1.below (hm.2.mono hB)).open hz
      have hzb := HZ.out z (List.mem_of_getElem? hz)
      have HT := Lib.hid (ptake_more hz)
      have HH1 := Lib.hid h1
      clear h1 hz
      have HL : Hid ((puts (zs.take k)).length + (Vi.enc z.toNat).length ≤ 10000010) := by
        have e1 := puts_length (zs.take k) (fun c hc => HZ.out c (List.mem_of_mem_take hc))
        have e2 := Vi.enc_le10 (n := z.toNat) (by omega)
        have e3 : (zs.take k).length ≤ 1000000 := by rw [List.length_take]; omega
        show _ ≤ _
        omega
      go_wp2
      go_loopw [3, 5] (fun v n wx => ∃ (m : Nat) (L : List Int), m ≤ 18446744073709551615 ∧ n = .int .u64 m ∧ Hid (L ++ Vi.enc m = puts (zs.take k) ++ Vi.enc z.toNat) ∧ Made w wx L v) (fun _ n _ => (intOf n).toNat)
      case atStart => exact ⟨z.toNat, _, by omega, by rw [Int.toNat_of_nonneg hzb.1], rfl, hm⟩
      case round =>
        obtain ⟨m, L, hm64, rfl, HE, hmx⟩ := hrel
        have hLl : L.length + (Vi.enc m).length ≤ 10000010 := by
          have e := congrArg List.length HE.out
          rw [List.length_append, List.length_append] at e
          have := HL.out
          omega
        have hep := Vi.enc_pos m
        have hsz := hmx.2.size
        by_cases h128 : 128 ≤ m
        · have h128' : (127 : Int) < (m : Int) := by omega
          go_wp2_with (at_builtin; refine wpList_append_own _ rfl _ _ 49 rfl w.heap.size 5 i0 (.int .u8 0) 1 1 Tryz.underlying49 hi hz0 hz1 hz2 rfl (by decide) _ _ _ rfl (hmx.1.alloc _) ⟨wr.heap.size, 0, none⟩ 1 1 [_] rfl rfl (cell_one_new _ _ _) ?c2 ?c3 ?c4 ?c5 ?_)
          case c2 => intro u hu; simp at hu; subst hu; rfl
          case c3 => unfold maxLen; omega
          case c4 => omega
          case c5 => simp; omega
          intro v' w1 hown' hgrow _
          have HM := Lib.hid (hmx.app (y := ((m % 128 + 128 : Nat) : Int)) hown' hgrow (by omega))
          clear hown' hgrow hmx hm
          go_wp2
          go_roundw
          case rel => exact ⟨m / 128, _, by omega, by go_num, by have := HE.out; rw [Vi.enc_big h128] at this; simpa [Hid] using this, HM.out⟩
          case measure => simp [intOf]; omega
        · have h128' : (m : Int) ≤ 127 := by omega
          go_wp2_with (at_builtin; refine wpList_append_own _ rfl _ _ 49 rfl w.heap.size 5 i0 (.int .u8 0) 1 1 Tryz.underlying49 hi hz0 hz1 hz2 rfl (by decide) _ _ _ rfl (hmx.1.alloc _) ⟨wr.heap.size, 0, none⟩ 1 1 [_] rfl rfl (cell_one_new _ _ _) ?d2 ?d3 ?d4 ?d5 ?_)
          case d2 => intro u hu; simp at hu; subst hu; rfl
          case d3 => unfold maxLen; omega
          case d4 => omega
          case d5 => simp; omega
          intro v' w1 hown' hgrow _
          have HM := Lib.hid (hmx.app (y := (m : Int)) hown' hgrow (by first | rfl | (rw [IntKind.wrap_u8]; omega)))
          clear hown' hgrow hmx hm
          go_wp2
          go_roundw
          case rel =>
            have he := HE.out
            rw [Vi.enc_small (by omega)] at he
            refine ⟨k + 1, by omega, by go_num, ?_⟩
            rw [HT.out, puts_append, puts_one, ← he]
            exact HM.out
          case measure => simp [intOf]; omega
    · go_wp2
      go_ret
      rw [List.take_of_length_le (by omega)] at hm
      exact ⟨_, rfl, hm⟩

end Go.Proofs.YtlbfibnfmijahaaGreat

namespace Go.Proofs.YtlbfibnfmijahaaGreat
open Go.RowKit

/-- bytes -/
def Bytes (zs : List Int) : Prop := ∀ z ∈ zs, 0 ≤ z ∧ z < 256
theorem Bytes.take {zs : List Int} (h : Bytes zs) (n : Nat) : Bytes (zs.take n) := fun z hz => h z (List.mem_of_mem_take hz)
theorem Bytes.drop {zs : List Int} (h : Bytes zs) (n : Nat) : Bytes (zs.drop n) := fun z hz => h z (List.mem_of_mem_drop hz)
theorem Bytes.append {x y : List Int} (hx : Bytes x) (hy : Bytes y) : Bytes (x ++ y) := fun z hz => by
  rcases List.mem_append.1 hz with h | h
  · exact hx z h
  · exact hy z h
theorem Bytes.lt {zs : List Int} (h : Bytes zs) : ∀ z ∈ zs, z < 256 := fun z hz => (h z hz).2
theorem ret_int {k : IntKind} {a b : Int} (h : a = b) : Ending.returned (.int k a) = .returned (.int k b) := by rw [h]
end Go.Proofs.YtlbfibnfmijahaaGreat

namespace Go.Proofs.YtlbfibnfmijahaaGreat
open Go.RowKit
set_option maxRecDepth 100000


theorem u64_not (y : Int) (h0 : 0 ≤ y) (h1 : y ≤ 18446744073709551615) : bits .xor .u64 18446744073709551615 y = 18446744073709551615 - y := by
  obtain ⟨m, rfl⟩ := Int.eq_ofNat_of_zero_le h0
  have h := u64_xor_nat 18446744073709551615 m (by omega) (by omega)
  have e : 18446744073709551615 ^^^ m = 18446744073709551615 - m := by
    have hx := congrArg BitVec.toNat (BitVec.xor_allOnes (x := BitVec.ofNat 64 m))
    rw [BitVec.toNat_xor, BitVec.toNat_not, BitVec.toNat_allOnes, BitVec.toNat_ofNat, Nat.mod_eq_of_lt (by omega)] at hx
    rw [Nat.xor_comm]
    exact hx
  rw [e] at h
  rw [show (18446744073709551615 : Int) = ((18446744073709551615 : Nat) : Int) from rfl, h]
  omega

theorem zig_val (n : Int) (h0 : n < 0) (h1 : -9223372036854775808 ≤ n) : bits .xor .u64 IntKind.u64.max (IntKind.u64.wrap (IntKind.u64.wrap n * 2)) = -2 * n - 1 := by
  rw [show IntKind.u64.max = 18446744073709551615 from rfl, u64_not _ (by rw [IntKind.wrap_u64]; omega) (by rw [IntKind.wrap_u64]; omega), IntKind.wrap_u64, IntKind.wrap_u64]
  omega

theorem zig_neg (n : Int) (w : World) (h0 : n < 0) (h1 : -9223372036854775808 ≤ n) :
    Calls Tryz.prog 95 #[.int .i64 n] w fun e w' => e = .returned (.int .u64 (-2 * n - 1)) ∧ w = w' := by
  go_enter Tryz.func95, Tryz.ntmps95
  go_wp2
  go_ret
  exact ⟨ret_int (zig_val n h0 h1), rfl⟩
theorem zig_pos (n : Int) (w : World) (h0 : 0 ≤ n) (h1 : n ≤ 9223372036854775807) :
    Calls Tryz.prog 95 #[.int .i64 n] w fun e w' => e = .returned (.int .u64 (2 * n)) ∧ w = w' := by
  go_enter Tryz.func95, Tryz.ntmps95
  go_wp2
  go_ret
  exact ⟨ret_int (by omega), rfl⟩
theorem rzig_neg (n : Int) (w : World) (h0 : n < 0) (h1 : -9223372036854775808 ≤ n) :
    Calls Tryz.prog 77 #[.int .i64 n] w fun e w' => e = .returned (.int .u64 (-2 * n - 1)) ∧ w = w' := by
  go_enter Tryz.func77, Tryz.ntmps77
  go_wp2
  go_ret
  exact ⟨ret_int (by omega), rfl⟩
theorem rzig_pos (n : Int) (w : World) (h0 : 0 ≤ n) (h1 : n ≤ 9223372036854775807) :
    Calls Tryz.prog 77 #[.int .i64 n] w fun e w' => e = .returned (.int .u64 (2 * n)) ∧ w = w' := by
  go_enter Tryz.func77, Tryz.ntmps77
  go_wp2
  go_ret
  exact ⟨ret_int (by omega), rfl⟩
end Go.Proofs.YtlbfibnfmijahaaGreat

namespace Go.Proofs.YtlbfibnfmijahaaGreat
open Go.RowKit Go.Shelf
set_option maxRecDepth 100000
attribute [local go_sem] Oper.semAt_some

theorem Made.since {w0 w w' : World} {L : List Int} {v : Value} (h : Made w w' L v) (hb : Below w0.heap.size w0 w) : Made w0 w' L v := by
  obtain ⟨h1, h2⟩ := h
  refine ⟨⟨h1.1, h1.2.imp id ?_⟩, hb.trans (h2.mono hb.size)⟩
  rintro ⟨g, cap, cur, hv, hg, r⟩
  exact ⟨g, cap, cur, hv, Nat.le_trans hb.size hg, r⟩
theorem rplain_any (n : Int) (w : World) (h0 : 0 ≤ n) (h1 : n ≤ 9223372036854775807) : Calls Tryz.prog 57 #[.int .i64 n] w fun e w' => ∃ v, e = .returned v ∧ Made w w' (Vi.enc n.toNat) v := by
  obtain ⟨w1, hw1⟩ : ∃ w1, w.alloc (.cells #[.int .u64 n] 135) = w1 := ⟨_, rfl⟩
  have hb1 : Below w.heap.size w w1 := by rw [← hw1]; exact (Below.refl _ w).alloc (Nat.le_refl _) _
  have hs1 : w.heap.size + 1 = w1.heap.size := by rw [← hw1]; simp
  have hn := Nums.new .u64 w 135 [n] #[.int .u64 n] rfl
  rw [hw1, hs1] at hn
  have K := rput_any w1.heap.size (some ⟨w.heap.size, 0, none⟩) 1 [n] w1 (by simp) (fun c hc => by simp at hc; omega) (Nat.le_refl _) hn
  simp only [List.length_cons, List.length_nil, Nat.zero_add] at K
  rw [puts_one] at K
  have K := Lib.hid K
  have HW1 := Lib.hid hw1
  have HB1 := Lib.hid hb1
  have hn2 : n < 18446744073709551616 := by omega
  clear hw1 hb1 hs1 hn
  go_enter Tryz.func57, Tryz.ntmps57
  go_wp2_with fail
  rw [HW1.out]
  refine K.out.mono ?_
  rintro e w2 ⟨v, rfl, hm⟩
  have HM := Lib.hid (hm.since HB1.out)
  clear hm
  go_wp2
  go_ret
  exact ⟨_, rfl, HM.out⟩
theorem rzig_any (n : Int) (w : World) (h0 : -9223372036854775808 ≤ n) (h1 : n ≤ 9223372036854775807) : Calls Tryz.prog 77 #[.int .i64 n] w fun e w' => e = .returned (.int .u64 (zg n : Int)) ∧ w = w' := by
  by_cases h : n < 0
  · have := rzig_neg n w h h0
    rwa [show -2 * n - 1 = ((zg n : Nat) : Int) by unfold zg; rw [if_pos h]; omega] at this
  · have := rzig_pos n w (by omega) h1
    rwa [show 2 * n = ((zg n : Nat) : Int) by unfold zg; rw [if_neg h]; omega] at this
theorem rzig18_any (n : Int) (w : World) (h0 : -9223372036854775808 ≤ n) (h1 : n ≤ 9223372036854775807) : Calls Tryz.prog 58 #[.int .i64 n] w fun e w' => ∃ v, e = .returned v ∧ Made w w' (Vi.enc (zg n)) v := by
  obtain ⟨z, hz⟩ : ∃ z, ((zg n : Nat) : Int) = z := ⟨_, rfl⟩
  have hzb : 0 ≤ z ∧ z ≤ 18446744073709551615 := by rw [← hz]; unfold zg; split <;> omega
  obtain ⟨w1, hw1⟩ : ∃ w1, w.alloc (.cells #[.int .u64 z] 135) = w1 := ⟨_, rfl⟩
  have hb1 : Below w.heap.size w w1 := by rw [← hw1]; exact (Below.refl _ w).alloc (Nat.le_refl _) _
  have hs1 : w.heap.size + 1 = w1.heap.size := by rw [← hw1]; simp
  have hn := Nums.new .u64 w 135 [z] #[.int .u64 z] rfl
  rw [hw1, hs1] at hn
  have K := rput_any w1.heap.size (some ⟨w.heap.size, 0, none⟩) 1 [z] w1 (by simp) (fun c hc => by simp at hc; omega) (Nat.le_refl _) hn
  simp only [List.length_cons, List.length_nil, Nat.zero_add] at K
  rw [puts_one, ← hz, Int.toNat_natCast] at K
  have KZ := rzig_any n w h0 h1
  rw [hz] at KZ
  have K := Lib.hid K
  have KZ := Lib.hid KZ
  have HW1 := Lib.hid hw1
  have HB1 := Lib.hid hb1
  clear hw1 hb1 hs1 hn hz
  go_enter Tryz.func58, Tryz.ntmps58
  go_wp2_with fail
  refine KZ.out.mono ?_
  rintro e wz ⟨rfl, rfl⟩
  go_wp2_with fail
  rw [HW1.out]
  refine K.out.mono ?_
  rintro e w2 ⟨v, rfl, hm⟩
  have HM := Lib.hid (hm.since HB1.out)
  clear hm
  go_wp2
  go_ret
  exact ⟨_, rfl, HM.out⟩
end Go.Proofs.YtlbfibnfmijahaaGreat

namespace Go.Proofs.YtlbfibnfmijahaaGreat
open Go.RowKit Go.Shelf
set_option maxRecDepth 100000
attribute [local go_sem] Oper.semAt_some

theorem wnum_any (n le mo : Int) (w : World) : Calls Tryz.prog 45 #[.int .i64 n, .int .i64 le, .int .i64 mo] w fun e w' => e = .returned (.int .i64 (wN n le mo)) ∧ w = w' := by
  by_cases h1 : n < le
  · rw [show wN n le mo = 5 from if_pos (.inl h1)]
    go_enter Tryz.func45, Tryz.ntmps45
    go_wp2
    go_ret
    exact ⟨rfl, rfl⟩
  · by_cases h2 : mo < n
    · rw [show wN n le mo = 5 from if_pos (.inr h2)]
      go_enter Tryz.func45, Tryz.ntmps45
      go_wp2
      go_ret
      exact ⟨rfl, rfl⟩
    · rw [show wN n le mo = 0 from if_neg (by omega)]
      go_enter Tryz.func45, Tryz.ntmps45
      go_wp2
      go_ret
      exact ⟨rfl, rfl⟩
theorem wsize_any (n mo : Int) (w : World) : Calls Tryz.prog 64 #[.int .i64 n, .int .i64 mo] w fun e w' => e = .returned (.int .i64 (wS n mo)) ∧ w = w' := by
  by_cases h1 : n = 0
  · subst h1
    rw [show wS 0 mo = 13 from rfl]
    go_enter Tryz.func64, Tryz.ntmps64
    go_wp2
    go_ret
    exact ⟨rfl, rfl⟩
  · have hb : (n == 0) = false := by simpa using h1
    by_cases h2 : mo < n
    · rw [show wS n mo = 6 by simp [wS, h1, h2]]
      go_enter Tryz.func64, Tryz.ntmps64
      go_wp2
      go_ret
      exact ⟨rfl, rfl⟩
    · rw [show wS n mo = 0 by simp [wS, h1, h2]]
      go_enter Tryz.func64, Tryz.ntmps64
      go_wp2
      go_ret
      exact ⟨rfl, rfl⟩
theorem byte_at (s : ByteArray) (j : Nat) (hj : j < s.size) : s.data.toList[j]? = some s[j] := by
  rw [Array.getElem?_toList]
  exact Array.getElem?_eq_getElem hj
set_option maxHeartbeats 2000000 in
theorem wtext_any (s : ByteArray) (mo : Int) (hs : s.size ≤ maxLen) (w : World) : Calls Tryz.prog 44 #[.string s, .int .i64 mo] w fun e w' => e = .returned (.int .i64 (wT s mo)) ∧ w = w' := by
  obtain ⟨n, hn⟩ : ∃ n, s.size = n := ⟨_, rfl⟩
  have hl : n ≤ 9223372036854775807 := by unfold maxLen at hs; omega
  clear hs
  by_cases h1 : mo < (n : Int)
  · rw [show wT s mo = 6 by unfold wT; rw [hn]; exact if_pos h1]
    go_enter Tryz.func44, Tryz.ntmps44
    go_wp2
    refine wp_scope_straight ?_
    go_wp2
    simp only [Exit.noGoto]
    go_ret
    exact ⟨rfl, rfl⟩
  · obtain ⟨R, hR⟩ : ∃ R, wT s mo = R := ⟨_, rfl⟩
    rw [hR]
    have HR := Lib.hid hR
    clear hR
    go_enter Tryz.func44, Tryz.ntmps44
    go_wp2
    refine wp_scope_straight ?_
    go_wp2
    refine wp_label ?_
    go_wp2
    go_loopw [5, 13] (fun x iv wr => ∃ j : Nat, j ≤ n ∧ x = .int .i64 0 ∧ iv = .int .i64 (j : Int) ∧ Hid (∀ b ∈ s.data.toList.take j, byOk b) ∧ wr = w) (fun _ iv _ => n - (intOf iv).toNat)
    case atStart => exact ⟨0, by omega, rfl, rfl, Lib.hid (by simp), rfl⟩
    case round =>
      obtain ⟨j, hj, rfl, rfl, HB, rfl⟩ := hrel
      rcases Nat.lt_or_ge j n with hlt | hge
      · have hg : s.data.toList[j]? = some (s[j]'(by omega)) := byte_at s j (by omega)
        by_cases hb : byOk (s[j]'(by omega))
        · have HB2 : Hid (∀ b ∈ s.data.toList.take (j + 1), byOk b) := Lib.hid (fun b hb2 => by
            rw [List.take_add_one, hg, List.mem_append] at hb2
            rcases hb2 with hb2 | hb2
            · exact HB.out b hb2
            · simp at hb2; subst hb2; exact hb)
          unfold byOk at hb
          clear hg
          go_wp2
          exact ⟨⟨j + 1, by omega, rfl, by go_num, HB2, trivial⟩, by simp only [intOf]; omega⟩
        · obtain rfl : R = 19 := by
            rw [← HR.out]
            unfold wT
            rw [hn, if_neg (by omega), if_neg (fun h => hb (h _ (List.mem_of_getElem? hg)))]
          unfold byOk at hb
          clear hg
          go_wp2
          all_goals
            try simp only [Exit.noGoto]
            go_ret
            exact ⟨rfl, rfl⟩
      · obtain rfl : j = n := by omega
        obtain rfl : R = 0 := by
          rw [← HR.out]
          unfold wT
          rw [hn, if_neg (by omega), if_pos]
          have h2 := HB.out
          rwa [List.take_of_length_le (by show s.data.toList.length ≤ j; rw [Array.length_toList]; exact Nat.le_of_eq hn)] at h2
        go_wp2
        simp only [Exit.noGoto]
        go_ret
        exact ⟨rfl, rfl⟩
end Go.Proofs.YtlbfibnfmijahaaGreat

namespace Go.Proofs.YtlbfibnfmijahaaGreat
open Go.RowKit Go.Shelf
set_option maxRecDepth 100000
attribute [local go_sem] Oper.semAt_some

/-- points as they lie -/
def fl2 : List (Int × Int) → List Int
  | [] => []
  | q :: r => q.1 :: q.2 :: fl2 r
theorem fl2_len : ∀ l : List (Int × Int), (fl2 l).length = l.length * 2
  | [] => rfl
  | q :: r => by
    rw [fl2, List.length_cons, List.length_cons, fl2_len r, List.length_cons]
    omega
theorem fl2_get : ∀ (l : List (Int × Int)) (j : Nat) (q : Int × Int), l[j]? = some q → (fl2 l)[j * 2]? = some q.1 ∧ (fl2 l)[j * 2 + 1]? = some q.2
  | [], _, _, h => by simp at h
  | g :: r, 0, q, h => by
    simp only [List.getElem?_cons_zero, Option.some.injEq] at h
    subst h
    exact ⟨rfl, rfl⟩
  | g :: r, j + 1, q, h => by
    have h1 := fl2_get r j q (by simpa using h)
    rw [fl2, show (j + 1) * 2 = j * 2 + 1 + 1 by omega]
    exact h1
theorem fl2_app (l m : List (Int × Int)) : fl2 (l ++ m) = fl2 l ++ fl2 m := by
  induction l with
  | nil => rfl
  | cons q r ih => rw [List.cons_append, fl2, ih]; rfl
/-- a point's cells -/
theorem pts_two {w : World} {B : Nat} {A : Option Addr} {l : List (Int × Int)} (h : Nums .i64 w B A (fl2 l)) {j : Nat} {q : Int × Int} (hj : l[j]? = some q) : ∃ b off, A = some ⟨b, off, none⟩ ∧ b < B ∧ w.cell? ⟨b, off + j * 2, none⟩ = some (.int .i64 q.1) ∧ w.cell? ⟨b, off + j * 2 + 1, none⟩ = some (.int .i64 q.2) := by
  obtain ⟨h1, h2⟩ := fl2_get l j q hj
  obtain ⟨b, off, e, hb, hc⟩ := h (by intro e; rw [e] at h1; simp at h1)
  exact ⟨b, off, e, hb, hc _ _ h1, hc _ _ h2⟩

theorem idx2 (x y : Int) (W : World) : (Instr.index 77 (.agg #[.int .i64 x, .int .i64 y]) (.int .i64 0)).run Tryz.prog W = .ok (.int .i64 x) W ∧ (Instr.index 77 (.agg #[.int .i64 x, .int .i64 y]) (.int .i64 1)).run Tryz.prog W = .ok (.int .i64 y) W := by
  refine ⟨?_, ?_⟩ <;> simp [Instr.index, run_underlying Tryz.underlying77, asIntOf, part, go_sem, Tryz.sizeOf3]

set_option maxHeartbeats 4000000 in
theorem wpath_any (A : Option Addr) (n cp : Nat) (l : List (Int × Int)) (mo : Int) (w : World) (hn : l.length = n) (hcp : n ≤ cp) (hmo : mo ≤ 1000000) (hA : Nums .i64 w w.heap.size A (fl2 l)) :
    Calls Tryz.prog 42 #[.slice A n cp, .int .i64 mo] w fun e w' => e = .returned (.int .i64 (wP l mo)) ∧ Below w.heap.size w w' := by
  obtain ⟨R, hR⟩ : ∃ R, wP l mo = R := ⟨_, rfl⟩
  rw [hR]
  unfold wP at hR
  rw [hn] at hR
  have HR := Lib.hid hR
  have HN := Lib.hid hn
  have HA := Lib.hid hA
  have KS := Lib.hid (wsize_any n mo)
  obtain ⟨s, hs⟩ : ∃ s, wS n mo = s := ⟨_, rfl⟩
  rw [hs] at KS HR
  have HS := Lib.hid hs
  clear hR hn hA hs
  go_enter Tryz.func42, Tryz.ntmps42
  go_wp2
  refine wp_scope_straight ?_
  go_wp2_with fail
  refine (KS.out w).mono ?_
  rintro e w1 ⟨rfl, rfl⟩
  clear KS
  by_cases h0 : s = 0
  · subst h0
    have hsm : n ≤ 1000000 := by
      have := HS.out
      unfold wS at this
      by_cases h1 : (n : Int) = 0
      · omega
      · by_cases h2 : mo < (n : Int)
        · rw [if_neg h1, if_pos h2] at this; omega
        · omega
    rw [if_neg (by omega)] at HR
    go_wp2
    refine wp_label ?_
    go_wp2
    go_loopw [5, 19] (fun x iv wr => ∃ j : Nat, j ≤ n ∧ x = .int .i64 0 ∧ iv = .int .i64 (j : Int) ∧ Hid (∀ q ∈ l.take j, ptOk q) ∧ Hid (Below w.heap.size w wr)) (fun _ iv _ => n - (intOf iv).toNat)
    case atStart => exact ⟨0, by omega, rfl, rfl, Lib.hid (by simp), Lib.hid (Below.refl _ _)⟩
    case round =>
      obtain ⟨j, hj, rfl, rfl, HP, HB⟩ := hrel
      rcases Nat.lt_or_ge j n with hlt | hge
      · obtain ⟨⟨x, y⟩, hq⟩ : ∃ q, l[j]? = some q := ⟨_, List.getElem?_eq_getElem (by rw [HN.out]; exact hlt)⟩
        obtain ⟨b, off, rfl, hb, c0, c1⟩ := pts_two (HA.out.below HB.out) hq
        have HQ := Lib.hid hq
        have HW := Lib.hid (HB.out.alloc HB.out.size (.cells #[.int .i64 x, .int .i64 y] 76))
        dsimp only at c0 c1
        clear hq
        go_wp2_with fail
        go_loopw [5, 28] (fun x' iv wr' => ∃ i : Nat, i ≤ 2 ∧ x' = .int .i64 0 ∧ iv = .int .i64 (i : Int) ∧ Hid ((0 < i → -1000000 ≤ x ∧ x ≤ 1000000) ∧ (1 < i → -1000000 ≤ y ∧ y ≤ 1000000)) ∧ Hid (Below w.heap.size w wr')) (fun _ iv _ => 2 - (intOf iv).toNat)
        case atStart => exact ⟨0, by omega, rfl, rfl, Lib.hid (by omega), HW⟩
        case round =>
          obtain ⟨i, hi, rfl, rfl, HI, HB2⟩ := hrel
          have hix := fun W => (idx2 x y W).1
          have hiy := fun W => (idx2 x y W).2
          obtain rfl | rfl | rfl : i = 0 ∨ i = 1 ∨ i = 2 := by omega
          · by_cases hv : -1000000 ≤ x ∧ x ≤ 1000000
            · have HI2 : Hid ((0 < 0 + 1 → -1000000 ≤ x ∧ x ≤ 1000000) ∧ (1 < 0 + 1 → -1000000 ≤ y ∧ y ≤ 1000000)) := Lib.hid ⟨fun _ => hv, fun h => by omega⟩
              have KN := Lib.hid (wnum_any x (-1000000) 1000000)
              rw [show wN x (-1000000) 1000000 = 0 from if_neg (by omega)] at KN
              go_wp2_with fail
              refine (KN.out _).mono ?_
              rintro e w2 ⟨rfl, rfl⟩
              clear KN
              go_wp2
              exact ⟨⟨0 + 1, by omega, rfl, rfl, HI2, HB2⟩, by simp only [intOf]; omega⟩
            · obtain rfl : R = 5 := by
                rw [← HR.out, if_neg (fun h => hv ⟨(h _ (List.mem_of_getElem? HQ.out)).1, (h _ (List.mem_of_getElem? HQ.out)).2.1⟩)]
              have KN := Lib.hid (wnum_any x (-1000000) 1000000)
              rw [show wN x (-1000000) 1000000 = 5 from if_pos (by omega)] at KN
              clear hv
              go_wp2_with fail
              refine (KN.out _).mono ?_
              rintro e w2 ⟨rfl, rfl⟩
              clear KN
              go_wp2
              try simp only [Exit.noGoto]
              go_ret
              exact ⟨rfl, HB2.out⟩
          · by_cases hv : -1000000 ≤ y ∧ y ≤ 1000000
            · have HI2 : Hid ((0 < 1 + 1 → -1000000 ≤ x ∧ x ≤ 1000000) ∧ (1 < 1 + 1 → -1000000 ≤ y ∧ y ≤ 1000000)) := Lib.hid ⟨fun _ => HI.out.1 (by omega), fun _ => hv⟩
              have KN := Lib.hid (wnum_any y (-1000000) 1000000)
              rw [show wN y (-1000000) 1000000 = 0 from if_neg (by omega)] at KN
              go_wp2_with fail
              refine (KN.out _).mono ?_
              rintro e w2 ⟨rfl, rfl⟩
              clear KN
              go_wp2
              exact ⟨⟨1 + 1, by omega, rfl, rfl, HI2, HB2⟩, by simp only [intOf]; omega⟩
            · obtain rfl : R = 5 := by
                rw [← HR.out, if_neg (fun h => hv ⟨(h _ (List.mem_of_getElem? HQ.out)).2.2.1, (h _ (List.mem_of_getElem? HQ.out)).2.2.2⟩)]
              have KN := Lib.hid (wnum_any y (-1000000) 1000000)
              rw [show wN y (-1000000) 1000000 = 5 from if_pos (by omega)] at KN
              clear hv
              go_wp2_with fail
              refine (KN.out _).mono ?_
              rintro e w2 ⟨rfl, rfl⟩
              clear KN
              go_wp2
              try simp only [Exit.noGoto]
              go_ret
              exact ⟨rfl, HB2.out⟩
          · have HP2 : Hid (∀ q ∈ l.take (j + 1), ptOk q) := Lib.hid (fun q hq => by
              rw [List.take_add_one, HQ.out, List.mem_append] at hq
              rcases hq with hq | hq
              · exact HP.out q hq
              · simp at hq
                subst hq
                have h1 := HI.out.1 (by omega)
                have h2 := HI.out.2 (by omega)
                exact ⟨h1.1, h1.2, h2.1, h2.2⟩)
            go_wp2
            go_roundw
            case rel => exact ⟨j + 1, by omega, rfl, by go_num, HP2, HB2⟩
            case measure => simp [intOf]; omega
      · obtain rfl : j = n := by omega
        obtain rfl : R = 0 := by
          rw [← HR.out, if_pos]
          have h1 := HP.out
          rwa [List.take_of_length_le (by rw [HN.out]; exact Nat.le_refl _)] at h1
        go_wp2
        try simp only [Exit.noGoto]
        go_ret
        exact ⟨rfl, HB.out⟩
  · rw [if_pos h0] at HR
    obtain rfl : s = R := HR.out
    have hs0 : (s != 0) = true := by simpa using h0
    go_wp2
    try simp only [Exit.noGoto]
    go_ret
    exact ⟨rfl, Below.refl _ _⟩

/-- behind j cells of a list, none of which is wrong, the rest is looked at behind the last one -/
theorem cE_at : ∀ (l : List Int) (a : Int) (j : Nat) (c : Int), l[j]? = some c → cE a (l.take j) = 0 → cE a l = cE (if j = 0 then a else l.getD (j - 1) 0) (l.drop j)
  | [], _, _, _, h, _ => by simp at h
  | x :: r, a, 0, c, _, _ => by simp
  | x :: r, a, j + 1, c, h, h0 => by
    rw [List.take_succ_cons, cE] at h0
    by_cases h1 : x < 0 ∨ 65535 < x
    · rw [if_pos h1] at h0; omega
    · by_cases h2 : x ≤ a
      · rw [if_neg h1, if_pos h2] at h0; omega
      · rw [if_neg h1, if_neg h2] at h0
        have e : (if j = 0 then x else r.getD (j - 1) 0) = (if j + 1 = 0 then a else (x :: r).getD (j + 1 - 1) 0) := by
          rw [if_neg (Nat.succ_ne_zero j)]
          rcases j with _ | j <;> simp
        rw [cE, if_neg h1, if_neg h2, cE_at r x j c (by simpa using h) h0, List.drop_succ_cons, e]
theorem cE_next : ∀ (l : List Int) (a : Int) (j : Nat) (c : Int), l[j]? = some c → cE a (l.take j) = 0 → 0 ≤ c → c ≤ 65535 → (if j = 0 then a else l.getD (j - 1) 0) < c → cE a (l.take (j + 1)) = 0
  | [], _, _, _, h, _, _, _, _ => by simp at h
  | x :: r, a, 0, c, h, _, h1, h2, h3 => by
    simp only [List.getElem?_cons_zero, Option.some.injEq] at h
    subst h
    rw [if_pos rfl] at h3
    rw [List.take_succ_cons, List.take_zero, cE, if_neg (by omega), if_neg (by omega), cE]
  | x :: r, a, j + 1, c, h, h0, h1, h2, h3 => by
    rw [List.take_succ_cons, cE] at h0
    by_cases g1 : x < 0 ∨ 65535 < x
    · rw [if_pos g1] at h0; omega
    · by_cases g2 : x ≤ a
      · rw [if_neg g1, if_pos g2] at h0; omega
      · rw [if_neg g1, if_neg g2] at h0
        rw [List.take_succ_cons, cE, if_neg g1, if_neg g2]
        refine cE_next r x j c (by simpa using h) h0 h1 h2 ?_
        rw [if_neg (by omega)] at h3
        rcases j with _ | j
        · simpa using h3
        · simpa using h3
/-- the one that a cell is held against -/
def ahd (l : List Int) (j : Nat) : Int := if j = 0 then -1 else l.getD (j - 1) 0
theorem cE_bad {l : List Int} {j : Nat} {c : Int} (h : l[j]? = some c) (h0 : cE (-1) (l.take j) = 0) : cE (-1) l = if c < 0 ∨ 65535 < c then 5 else if c ≤ ahd l j then 3 else cE c (l.drop (j + 1)) := by
  rw [cE_at l (-1) j c h h0]
  have hi := (List.getElem?_eq_some_iff.1 h).1
  rw [List.drop_eq_getElem_cons hi, (List.getElem?_eq_some_iff.1 h).2, cE]
  rfl

set_option maxHeartbeats 4000000 in
theorem wcells_any (A : Option Addr) (n cp : Nat) (l : List Int) (mo : Int) (w : World) (hn : l.length = n) (hcp : n ≤ cp) (hmo : mo ≤ 1000000) (hA : Nums .i64 w w.heap.size A l) :
    Calls Tryz.prog 43 #[.slice A n cp, .int .i64 mo] w fun e w' => e = .returned (.int .i64 (wC l mo)) ∧ w = w' := by
  obtain ⟨R, hR⟩ : ∃ R, wC l mo = R := ⟨_, rfl⟩
  rw [hR]
  unfold wC at hR
  rw [hn] at hR
  have HR := Lib.hid hR
  have HN := Lib.hid hn
  have HA := Lib.hid hA
  have KS := Lib.hid (wsize_any n mo)
  obtain ⟨s, hs⟩ : ∃ s, wS n mo = s := ⟨_, rfl⟩
  rw [hs] at KS HR
  have HS := Lib.hid hs
  clear hR hn hA hs
  go_enter Tryz.func43, Tryz.ntmps43
  go_wp2
  refine wp_scope_straight ?_
  go_wp2_with fail
  refine (KS.out w).mono ?_
  rintro e w1 ⟨rfl, rfl⟩
  clear KS
  by_cases h0 : s = 0
  · subst h0
    have hsm : n ≤ 1000000 := by
      have := HS.out
      unfold wS at this
      by_cases h1 : (n : Int) = 0
      · omega
      · by_cases h2 : mo < (n : Int)
        · rw [if_neg h1, if_pos h2] at this; omega
        · omega
    rw [if_neg (by omega)] at HR
    go_wp2
    refine wp_label ?_
    go_wp2
    go_loopw [5, 6, 18] (fun x y iv wr => ∃ (j : Nat) (a : Int), j ≤ n ∧ x = .int .i64 0 ∧ y = .int .i64 a ∧ iv = .int .i64 (j : Int) ∧ Hid (cE (-1) (l.take j) = 0) ∧ Hid (a = ahd l j) ∧ wr = w) (fun _ _ iv _ => n - (intOf iv).toNat)
    case atStart => exact ⟨0, -1, by omega, rfl, rfl, rfl, Lib.hid (by simp [cE]), Lib.hid rfl, rfl⟩
    case round =>
      obtain ⟨j, a, hj, rfl, rfl, rfl, HP, HD, rfl⟩ := hrel
      rcases Nat.lt_or_ge j n with hlt | hge
      · obtain ⟨c, hq⟩ : ∃ c, l[j]? = some c := ⟨_, List.getElem?_eq_getElem (by rw [HN.out]; exact hlt)⟩
        obtain ⟨b, off, rfl, hb, c0⟩ := HA.out.open hq
        have HQ := Lib.hid hq
        clear hq
        have KN := Lib.hid (wnum_any c 0 65535)
        have HB := Lib.hid (cE_bad HQ.out HP.out)
        rw [HR.out] at HB
        by_cases hv : c < 0 ∨ 65535 < c
        · rw [if_pos hv] at HB
          rw [show wN c 0 65535 = 5 from if_pos hv] at KN
          obtain rfl : R = 5 := HB.out
          clear hv
          go_wp2_with fail
          refine (KN.out _).mono ?_
          rintro e w2 ⟨rfl, rfl⟩
          clear KN
          go_wp2
          try simp only [Exit.noGoto]
          go_ret
          exact ⟨rfl, rfl⟩
        · rw [if_neg hv] at HB
          rw [show wN c 0 65535 = 0 from if_neg hv] at KN
          rw [← HD.out] at HB
          by_cases hc : c ≤ a
          · rw [if_pos hc] at HB
            obtain rfl : R = 3 := HB.out
            clear hv
            go_wp2_with fail
            refine (KN.out _).mono ?_
            rintro e w2 ⟨rfl, rfl⟩
            clear KN
            go_wp2
            try simp only [Exit.noGoto]
            go_ret
            exact ⟨rfl, rfl⟩
          · have HP2 : Hid (cE (-1) (l.take (j + 1)) = 0) := Lib.hid (cE_next l (-1) j c HQ.out HP.out (by omega) (by omega) (by have := HD.out; unfold ahd at this; omega))
            have HD2 : Hid (c = ahd l (j + 1)) := Lib.hid (by
              unfold ahd
              rw [if_neg (by omega), Nat.add_sub_cancel, List.getD, HQ.out]
              rfl)
            clear hv
            go_wp2_with fail
            refine (KN.out _).mono ?_
            rintro e w2 ⟨rfl, rfl⟩
            clear KN
            go_wp2
            exact ⟨⟨j + 1, c, by omega, rfl, rfl, by go_num, HP2, HD2, trivial⟩, by simp only [intOf]; omega⟩
      · obtain rfl : j = n := by omega
        obtain rfl : R = 0 := by
          rw [← HR.out]
          have h1 := HP.out
          rwa [List.take_of_length_le (by rw [HN.out]; exact Nat.le_refl _)] at h1
        go_wp2
        try simp only [Exit.noGoto]
        go_ret
        exact ⟨rfl, rfl⟩
  · rw [if_pos h0] at HR
    obtain rfl : s = R := HR.out
    have hs0 : (s != 0) = true := by simpa using h0
    go_wp2
    try simp only [Exit.noGoto]
    go_ret
    exact ⟨rfl, rfl⟩
end Go.Proofs.YtlbfibnfmijahaaGreat

namespace Go.Proofs.YtlbfibnfmijahaaGreat
open Go.RowKit
set_option maxRecDepth 100000

theorem run_item (d : Nat) (xs ys : Array Value) (x y : Int) (i : Nat) (is : List Nat) (W : World) (hx : xs[i]? = some (.int .i64 x)) (hy : ys[i]? = some (.int .i64 y)) :
    (Op.eqItems (d + 1) 3 (Tryz.prog.cellsOf 3) xs ys (i :: is)).run Tryz.prog W = if x = y then (Op.eqItems (d + 1) 3 (Tryz.prog.cellsOf 3) xs ys is).run Tryz.prog W else .ok false W := by
  have hc : Tryz.prog.cellsOf 3 = 1 := by kernel_rfl
  rw [Op.eqItems, hc]
  have h1 : (part 3 xs (i * 1)).run Tryz.prog W = .ok (.int .i64 x) W := by simp [part, go_sem, hx, Tryz.sizeOf3]
  have h2 : (part 3 ys (i * 1)).run Tryz.prog W = .ok (.int .i64 y) W := by simp [part, go_sem, hy, Tryz.sizeOf3]
  simp only [Sem.run_bind, h1, h2, Result.andThen_ok, run_equalIn_int W d 3 .i64 .i64 x y Tryz.underlying3]
  by_cases h : x = y
  · subst h; simp
  · simp [h]
theorem run_items (d : Nat) (W : World) : ∀ (is : List Nat) (xs ys : Array Value) (us vs : List Int), (∀ i ∈ is, xs[i]? = (us[i]?).map (Value.int .i64) ∧ i < us.length) → (∀ i ∈ is, ys[i]? = (vs[i]?).map (Value.int .i64) ∧ i < vs.length) →
    (Op.eqItems (d + 1) 3 (Tryz.prog.cellsOf 3) xs ys is).run Tryz.prog W = .ok (decide (∀ i ∈ is, us[i]? = vs[i]?)) W
  | [], xs, ys, us, vs, _, _ => by simp [Op.eqItems]
  | i :: is, xs, ys, us, vs, hx, hy => by
    have h1 := hx i (List.mem_cons_self ..)
    have h2 := hy i (List.mem_cons_self ..)
    have e1 : us[i]? = some us[i] := List.getElem?_eq_getElem h1.2
    have e2 : vs[i]? = some vs[i] := List.getElem?_eq_getElem h2.2
    rw [run_item d xs ys us[i] vs[i] i is W (by rw [h1.1, e1]; rfl) (by rw [h2.1, e2]; rfl), run_items d W is xs ys us vs (fun j hj => hx j (List.mem_cons_of_mem _ hj)) (fun j hj => hy j (List.mem_cons_of_mem _ hj))]
    by_cases h : us[i] = vs[i]
    · rw [if_pos h]
      congr 1
      have : us[i]? = vs[i]? := by rw [e1, e2, h]
      simp [this]
    · rw [if_neg h]
      congr 1
      have : us[i]? ≠ vs[i]? := by rw [e1, e2]; exact fun e => h (Option.some.inj e)
      simp [this]
theorem run_arr (t : TypeId) (n : Nat) (hu : Tryz.prog.underlying t = some (.array n 3)) (us vs : List Int) (h1 : us.length = n) (h2 : vs.length = n) (W : World) :
    (Op.equalIn 10000 t (.agg (us.map (Value.int .i64)).toArray) (.agg (vs.map (Value.int .i64)).toArray)).run Tryz.prog W = .ok (decide (us = vs)) W := by
  obtain ⟨i, hi⟩ : ∃ i, Tryz.prog.info? 3 = some i := Option.isSome_iff_exists.1 (by kernel_rfl)
  rw [show (10000 : Nat) = 9999 + 1 from rfl, run_equalIn_array W 9999 _ _ hu hi, show (9999 : Nat) = 9998 + 1 from rfl, run_items 9998 W (List.range n) _ _ us vs (fun j hj => ⟨by simp, by rw [List.mem_range] at hj; omega⟩) (fun j hj => ⟨by simp, by rw [List.mem_range] at hj; omega⟩)]
  congr 1
  refine decide_eq_decide.2 ⟨fun h => List.ext_getElem? fun j => ?_, fun h => by subst h; simp⟩
  rcases Nat.lt_or_ge j n with hj | hj
  · exact h j (List.mem_range.2 hj)
  · rw [List.getElem?_eq_none (by omega), List.getElem?_eq_none (by omega)]
/-- arrays of six -/
theorem eql_six (a0 a1 a2 a3 a4 a5 b0 b1 b2 b3 b4 b5 : Int) (W : World) : (binOp .eql 22 (.agg #[.int .i64 a0, .int .i64 a1, .int .i64 a2, .int .i64 a3, .int .i64 a4, .int .i64 a5]) (.agg #[.int .i64 b0, .int .i64 b1, .int .i64 b2, .int .i64 b3, .int .i64 b4, .int .i64 b5])).run Tryz.prog W =
    .ok (.bool (decide ([a0, a1, a2, a3, a4, a5] = [b0, b1, b2, b3, b4, b5]))) W := by
  have := run_arr 22 6 Tryz.underlying22 [a0, a1, a2, a3, a4, a5] [b0, b1, b2, b3, b4, b5] rfl rfl W
  rw [run_eql_struct]
  simp only [List.map_cons, List.map_nil] at this
  rw [this]
  rfl
theorem neq_six (a0 a1 a2 a3 a4 a5 b0 b1 b2 b3 b4 b5 : Int) (W : World) : (binOp .neq 22 (.agg #[.int .i64 a0, .int .i64 a1, .int .i64 a2, .int .i64 a3, .int .i64 a4, .int .i64 a5]) (.agg #[.int .i64 b0, .int .i64 b1, .int .i64 b2, .int .i64 b3, .int .i64 b4, .int .i64 b5])).run Tryz.prog W =
    .ok (.bool (!decide ([a0, a1, a2, a3, a4, a5] = [b0, b1, b2, b3, b4, b5]))) W := by
  have := run_arr 22 6 Tryz.underlying22 [a0, a1, a2, a3, a4, a5] [b0, b1, b2, b3, b4, b5] rfl rfl W
  rw [run_neq_struct]
  simp only [List.map_cons, List.map_nil] at this
  rw [this]
  rfl
/-- arrays of two -/
theorem neq_two (a0 a1 b0 b1 : Int) (W : World) : (binOp .neq 77 (.agg #[.int .i64 a0, .int .i64 a1]) (.agg #[.int .i64 b0, .int .i64 b1])).run Tryz.prog W = .ok (.bool (!decide ([a0, a1] = [b0, b1]))) W := by
  have := run_arr 77 2 Tryz.underlying77 [a0, a1] [b0, b1] rfl rfl W
  rw [run_neq_struct]
  simp only [List.map_cons, List.map_nil] at this
  rw [this]
  rfl
/-- points -/
theorem neq_pt (a0 a1 b0 b1 : Int) (W : World) : (binOp .neq 76 (.agg #[.int .i64 a0, .int .i64 a1]) (.agg #[.int .i64 b0, .int .i64 b1])).run Tryz.prog W = .ok (.bool (!decide ([a0, a1] = [b0, b1]))) W := by
  rw [run_neq_struct, show (10000 : Nat) = 9999 + 1 from rfl, run_equalIn_agg W 9999 76 _ _ (by kernel_rfl) (by kernel_rfl)]
  by_cases h1 : a0 = b0
  · by_cases h2 : a1 = b1
    · simp [Program.fieldsOf, Tryz.underlying76, Op.eqFields, part, go_sem, Tryz.sizeOf3, h1, h2]
    · simp [Program.fieldsOf, Tryz.underlying76, Op.eqFields, part, go_sem, Tryz.sizeOf3, h1, h2]
  · simp [Program.fieldsOf, Tryz.underlying76, Op.eqFields, part, go_sem, Tryz.sizeOf3, h1]
end Go.Proofs.YtlbfibnfmijahaaGreat

namespace Go.Proofs.YtlbfibnfmijahaaGreat
open Go.RowKit
set_option maxRecDepth 100000

theorem eqi_lens (a1 a2 : Option Addr) (n1 n2 c1 c2 : Nat) (w : World) (h : n1 ≠ n2) :
    Calls Tryz.prog 66 #[.slice a1 n1 c1, .slice a2 n2 c2] w fun e w' => e = .returned (.bool false) ∧ ∃ n, w' = w.drewN n := by
  have h2 : ((n1 : Int) != (n2 : Int)) = true := by simp; omega
  have h3 : ¬ (n1 : Int) = (n2 : Int) := by omega
  go_enter Tryz.func66, Tryz.ntmps66
  go_wp2
  go_ret
  exact ⟨rfl, 0, rfl⟩
theorem eqi_any (B : Nat) (a1 a2 : Option Addr) (n1 n2 c1 c2 : Nat) (xs ys : List Int) (w : World) (e1 : xs.length = n1) (e2 : ys.length = n2) (l1 : n1 ≤ 9223372036854775807) (h1 : Nums .i64 w B a1 xs) (h2 : Nums .i64 w B a2 ys) :
    Calls Tryz.prog 66 #[.slice a1 n1 c1, .slice a2 n2 c2] w fun e w' => e = .returned (.bool (decide (xs = ys))) ∧ ∃ n, w' = w.drewN n := by
  by_cases hl : n1 = n2
  · subst hl
    have HE1 := Lib.hid e1
    have HE2 := Lib.hid e2
    clear e1 e2
    go_enter Tryz.func66, Tryz.ntmps66
    go_wp2
    go_loopw [13] (fun i wr => ∃ k : Nat, k ≤ n1 ∧ i = .int .i64 k ∧ Hid (xs.take k = ys.take k) ∧ ∃ n, wr = w.drewN n) (fun i _ => n1 - (intOf i).toNat)
    case atStart => exact ⟨0, by omega, rfl, rfl, 0, rfl⟩
    case round =>
      obtain ⟨k, hk, rfl, HT, n, rfl⟩ := hrel
      by_cases hlt : k < n1
      · obtain ⟨x, hx⟩ : ∃ x, xs[k]? = some x := ⟨_, List.getElem?_eq_getElem (by rw [HE1.out]; exact hlt)⟩
        obtain ⟨y, hy⟩ : ∃ y, ys[k]? = some y := ⟨_, List.getElem?_eq_getElem (by rw [HE2.out]; exact hlt)⟩
        obtain ⟨b1, o1, rfl, hb1, hc1⟩ := h1.open hx
        obtain ⟨b2, o2, rfl, hb2, hc2⟩ := h2.open hy
        have HX := Lib.hid hx
        have HY := Lib.hid hy
        clear h1 h2 hx hy
        have hlt' : (k : Int) < (n1 : Int) := by omega
        by_cases hxy : x = y
        · have hq : (x != y) = false := by simp [hxy]
          have HQ : Hid (xs.take (k + 1) = ys.take (k + 1)) := by
            show _ = _
            rw [List.take_add_one, List.take_add_one, HT.out, HX.out, HY.out, hxy]
          subst hxy
          go_wp2
          go_quiet (fail)
          go_wp2
          go_roundw
          case rel => exact ⟨k + 1, by omega, by go_num, HQ, _, rfl⟩
          case measure => simp [intOf]; omega
        · have hq : (x != y) = true := by simp [hxy]
          have HQ : Hid (¬ xs = ys) := fun e => hxy (by
            have h3 := HX.out
            rw [e, HY.out] at h3
            exact (Option.some.inj h3).symm)
          clear hxy
          go_wp2
          go_quiet (fail)
          go_wp2
          go_ret
          exact ⟨by rw [decide_eq_false HQ.out]; rfl, n + nq, by simp [World.drewN, Nat.add_assoc]⟩
      · have hk' : k = n1 := by omega
        have HQ : Hid (xs = ys) := by
          have h3 := HT.out
          rw [List.take_of_length_le (by rw [HE1.out]; omega), List.take_of_length_le (by rw [HE2.out]; omega)] at h3
          exact h3
        go_wp2
        go_ret
        exact ⟨by rw [decide_eq_true HQ.out]; rfl, n, rfl⟩
  · refine (eqi_lens a1 a2 n1 n2 c1 c2 w hl).mono ?_
    rintro e w' ⟨rfl, hd⟩
    exact ⟨by rw [decide_eq_false (fun e => hl (by rw [← e1, ← e2, e]))], hd⟩
theorem rints_lens (a1 a2 : Option Addr) (n1 n2 c1 c2 : Nat) (w : World) (h : n1 ≠ n2) :
    Calls Tryz.prog 39 #[.slice a1 n1 c1, .slice a2 n2 c2] w fun e w' => e = .returned (.bool false) ∧ ∃ n, w' = w.drewN n := by
  have h2 : ((n1 : Int) != (n2 : Int)) = true := by simp; omega
  have h3 : ¬ (n1 : Int) = (n2 : Int) := by omega
  go_enter Tryz.func39, Tryz.ntmps39
  go_wp2
  go_ret
  exact ⟨rfl, 0, rfl⟩
theorem rints_any (B : Nat) (a1 a2 : Option Addr) (n1 n2 c1 c2 : Nat) (xs ys : List Int) (w : World) (e1 : xs.length = n1) (e2 : ys.length = n2) (l1 : n1 ≤ 9223372036854775807) (h1 : Nums .i64 w B a1 xs) (h2 : Nums .i64 w B a2 ys) :
    Calls Tryz.prog 39 #[.slice a1 n1 c1, .slice a2 n2 c2] w fun e w' => e = .returned (.bool (decide (xs = ys))) ∧ ∃ n, w' = w.drewN n := by
  by_cases hl : n1 = n2
  · subst hl
    have HE1 := Lib.hid e1
    have HE2 := Lib.hid e2
    clear e1 e2
    go_enter Tryz.func39, Tryz.ntmps39
    go_wp2
    go_loopw [5] (fun i wr => ∃ k : Nat, k ≤ n1 ∧ i = .int .i64 k ∧ Hid (xs.take k = ys.take k) ∧ ∃ n, wr = w.drewN n) (fun i _ => n1 - (intOf i).toNat)
    case atStart => exact ⟨0, by omega, rfl, rfl, 0, rfl⟩
    case round =>
      obtain ⟨k, hk, rfl, HT, n, rfl⟩ := hrel
      by_cases hlt : k < n1
      · obtain ⟨x, hx⟩ : ∃ x, xs[k]? = some x := ⟨_, List.getElem?_eq_getElem (by rw [HE1.out]; exact hlt)⟩
        obtain ⟨y, hy⟩ : ∃ y, ys[k]? = some y := ⟨_, List.getElem?_eq_getElem (by rw [HE2.out]; exact hlt)⟩
        obtain ⟨b1, o1, rfl, hb1, hc1⟩ := h1.open hx
        obtain ⟨b2, o2, rfl, hb2, hc2⟩ := h2.open hy
        have HX := Lib.hid hx
        have HY := Lib.hid hy
        clear h1 h2 hx hy
        have hlt' : (k : Int) < (n1 : Int) := by omega
        by_cases hxy : x = y
        · have hq : (x != y) = false := by simp [hxy]
          have HQ : Hid (xs.take (k + 1) = ys.take (k + 1)) := by
            show _ = _
            rw [List.take_add_one, List.take_add_one, HT.out, HX.out, HY.out, hxy]
          subst hxy
          go_wp2
          go_quiet (fail)
          go_wp2
          go_roundw
          case rel => exact ⟨k + 1, by omega, by go_num, HQ, _, rfl⟩
          case measure => simp [intOf]; omega
        · have hq : (x != y) = true := by simp [hxy]
          have HQ : Hid (¬ xs = ys) := fun e => hxy (by
            have h3 := HX.out
            rw [e, HY.out] at h3
            exact (Option.some.inj h3).symm)
          clear hxy
          go_wp2
          go_quiet (fail)
          go_wp2
          go_ret
          exact ⟨by rw [decide_eq_false HQ.out]; rfl, n + nq, by simp [World.drewN, Nat.add_assoc]⟩
      · have hk' : k = n1 := by omega
        have HQ : Hid (xs = ys) := by
          have h3 := HT.out
          rw [List.take_of_length_le (by rw [HE1.out]; omega), List.take_of_length_le (by rw [HE2.out]; omega)] at h3
          exact h3
        go_wp2
        go_ret
        exact ⟨by rw [decide_eq_true HQ.out]; rfl, n, rfl⟩
  · refine (rints_lens a1 a2 n1 n2 c1 c2 w hl).mono ?_
    rintro e w' ⟨rfl, hd⟩
    exact ⟨by rw [decide_eq_false (fun e => hl (by rw [← e1, ← e2, e]))], hd⟩
theorem eqp_lens (a1 a2 : Option Addr) (n1 n2 c1 c2 : Nat) (w : World) (h : n1 ≠ n2) :
    Calls Tryz.prog 65 #[.slice a1 n1 c1, .slice a2 n2 c2] w fun e w' => e = .returned (.bool false) ∧ ∃ n, w' = w.drewN n := by
  have h2 : ((n1 : Int) != (n2 : Int)) = true := by simp; omega
  have h3 : ¬ (n1 : Int) = (n2 : Int) := by omega
  go_enter Tryz.func65, Tryz.ntmps65
  go_wp2
  go_ret
  exact ⟨rfl, 0, rfl⟩
theorem eqp_any (B : Nat) (a1 a2 : Option Addr) (n1 n2 c1 c2 : Nat) (xs ys : List (Int × Int)) (w : World) (e1 : xs.length = n1) (e2 : ys.length = n2) (l1 : n1 ≤ 9223372036854775807) (h1 : Nums .i64 w B a1 (fl2 xs)) (h2 : Nums .i64 w B a2 (fl2 ys)) :
    Calls Tryz.prog 65 #[.slice a1 n1 c1, .slice a2 n2 c2] w fun e w' => e = .returned (.bool (decide (xs = ys))) ∧ ∃ n, w' = w.drewN n := by
  by_cases hl : n1 = n2
  · subst hl
    have HE1 := Lib.hid e1
    have HE2 := Lib.hid e2
    clear e1 e2
    go_enter Tryz.func65, Tryz.ntmps65
    go_wp2
    go_loopw [13] (fun i wr => ∃ k : Nat, k ≤ n1 ∧ i = .int .i64 k ∧ Hid (xs.take k = ys.take k) ∧ ∃ n, wr = w.drewN n) (fun i _ => n1 - (intOf i).toNat)
    case atStart => exact ⟨0, by omega, rfl, rfl, 0, rfl⟩
    case round =>
      obtain ⟨k, hk, rfl, HT, n, rfl⟩ := hrel
      by_cases hlt : k < n1
      · obtain ⟨⟨x, x2⟩, hx⟩ : ∃ x, xs[k]? = some x := ⟨_, List.getElem?_eq_getElem (by rw [HE1.out]; exact hlt)⟩
        obtain ⟨⟨y, y2⟩, hy⟩ : ∃ y, ys[k]? = some y := ⟨_, List.getElem?_eq_getElem (by rw [HE2.out]; exact hlt)⟩
        obtain ⟨b1, o1, rfl, hb1, hc1, hd1⟩ := pts_two h1 hx
        obtain ⟨b2, o2, rfl, hb2, hc2, hd2⟩ := pts_two h2 hy
        have HX := Lib.hid hx
        have HY := Lib.hid hy
        dsimp only at hc1 hd1 hc2 hd2
        clear h1 h2 hx hy
        have hlt' : (k : Int) < (n1 : Int) := by omega
        by_cases hxy : x = y ∧ x2 = y2
        · obtain ⟨rfl, rfl⟩ := hxy
          have hnp : ∀ W, (binOp .neq 76 (.agg #[.int .i64 x, .int .i64 x2]) (.agg #[.int .i64 x, .int .i64 x2])).run Tryz.prog W = .ok (.bool false) W := fun W => by rw [neq_pt]; simp
          have HQ : Hid (xs.take (k + 1) = ys.take (k + 1)) := by
            show _ = _
            rw [List.take_add_one, List.take_add_one, HT.out, HX.out, HY.out]
          go_wp2
          go_quiet (fail)
          go_wp2
          go_roundw
          case rel => exact ⟨k + 1, by omega, by go_num, HQ, _, rfl⟩
          case measure => simp [intOf]; omega
        · have hnp : ∀ W, (binOp .neq 76 (.agg #[.int .i64 x, .int .i64 x2]) (.agg #[.int .i64 y, .int .i64 y2])).run Tryz.prog W = .ok (.bool true) W := fun W => by rw [neq_pt, decide_eq_false (by simpa using hxy)]; rfl
          have HQ : Hid (¬ xs = ys) := fun e => hxy (by
            have h3 := HX.out
            rw [e, HY.out] at h3
            simp at h3
            exact ⟨h3.1.symm, h3.2.symm⟩)
          clear hxy
          go_wp2
          go_quiet (fail)
          go_wp2
          go_ret
          exact ⟨by rw [decide_eq_false HQ.out]; rfl, n + nq, by simp [World.drewN, Nat.add_assoc]⟩
      · have hk' : k = n1 := by omega
        have HQ : Hid (xs = ys) := by
          have h3 := HT.out
          rw [List.take_of_length_le (by rw [HE1.out]; omega), List.take_of_length_le (by rw [HE2.out]; omega)] at h3
          exact h3
        go_wp2
        go_ret
        exact ⟨by rw [decide_eq_true HQ.out]; rfl, n, rfl⟩
  · refine (eqp_lens a1 a2 n1 n2 c1 c2 w hl).mono ?_
    rintro e w' ⟨rfl, hd⟩
    exact ⟨by rw [decide_eq_false (fun e => hl (by rw [← e1, ← e2, e]))], hd⟩
end Go.Proofs.YtlbfibnfmijahaaGreat

namespace Go.Proofs.YtlbfibnfmijahaaGreat
open Go.RowKit Go.Shelf
set_option maxRecDepth 100000
attribute [local go_sem] Oper.semAt_some

/-- a message's cells, its lists' slices given -/
def mC (M : Mg) (P C : Value) : Array Value := #[.int .i64 M.k, .int .i64 M.n0, .int .i64 M.n1, .int .i64 M.n2, .int .i64 M.n3, .int .i64 M.n4, .int .i64 M.n5, P, C, .string M.tx, .string M.tg]
def mV (M : Mg) (P C : Value) : Value := .agg (mC M P C)
/-- its lists lie below B -/
structure MAt (w : World) (B : Nat) (M : Mg) (P C : Value) : Prop where
  p : ∃ a c, P = .slice a M.p.length c ∧ M.p.length ≤ c ∧ Nums .i64 w B a (fl2 M.p)
  c : ∃ a c, C = .slice a M.c.length c ∧ M.c.length ≤ c ∧ Nums .i64 w B a M.c
/-- it isn't large -/
structure Msm (M : Mg) : Prop where
  p : M.p.length ≤ 40
  c : M.c.length ≤ 40
  tx : M.tx.size ≤ 80
  tg : M.tg.size ≤ 80
section
variable {w w' : World} {B B' : Nat} {M : Mg} {P C : Value}
theorem MAt.below (h : MAt w B M P C) (hb : Below B w w') : MAt w' B M P C := by
  obtain ⟨⟨a, c, h1, h2, h3⟩, ⟨a', c', h4, h5, h6⟩⟩ := h
  exact ⟨⟨a, c, h1, h2, h3.below hb⟩, ⟨a', c', h4, h5, h6.below hb⟩⟩
theorem MAt.mono (h : MAt w B M P C) (hB : B ≤ B') : MAt w B' M P C := by
  obtain ⟨⟨a, c, h1, h2, h3⟩, ⟨a', c', h4, h5, h6⟩⟩ := h
  exact ⟨⟨a, c, h1, h2, h3.mono hB⟩, ⟨a', c', h4, h5, h6.mono hB⟩⟩
theorem MAt.later (h : MAt w w.heap.size M P C) (hb : Below w.heap.size w w') : MAt w' w'.heap.size M P C := (h.below hb).mono hb.size
end

theorem row_cell {w : World} {b : Nat} {cs : Array Value} {t : TypeId} (h : w.heap[b]? = some (.cells cs t (0, 0))) (j : Nat) (x : Value) (hx : cs[j]? = some x) : w.cell? ⟨b, j, none⟩ = some x := by simp [World.cell?, h, hx]
theorem below_of_drewN {B : Nat} (w : World) (n : Nat) : Below B w (w.drewN n) := below_drewN (Below.refl B w) n
set_option maxHeartbeats 4000000 in
theorem msame_any (M M' : Mg) (P C P' C' : Value) (w : World) (hs : Msm M) (h1 : MAt w w.heap.size M P C) (h2 : MAt w w.heap.size M' P' C') :
    Calls Tryz.prog 46 #[mV M P C, mV M' P' C'] w fun e w' => e = .returned (.bool (decide (M = M'))) ∧ Below w.heap.size w w' := by
  obtain ⟨w2, hw2⟩ : ∃ w2, w2 = (w.alloc (.cells (mC M P C) 26)).alloc (.cells (mC M' P' C') 26) := ⟨_, rfl⟩
  have hb2 : Below w.heap.size w w2 := by rw [hw2]; exact ((Below.refl _ w).alloc (Nat.le_refl _) _).alloc (by simp) _
  have HW := Lib.hid hw2
  have g1 := (h1.below hb2).mono hb2.size
  have g2 := (h2.below hb2).mono hb2.size
  obtain ⟨k, n0, n1, n2, n3, n4, n5, p, c, tx, tg⟩ := M
  obtain ⟨k', n0', n1', n2', n3', n4', n5', p', c', tx', tg'⟩ := M'
  obtain ⟨⟨a, cp, rfl, hcp, ha⟩, ⟨b, cb, rfl, hcb, hb⟩⟩ := g1
  obtain ⟨⟨a', cp', rfl, hcp', ha'⟩, ⟨b', cb', rfl, hcb', hb'⟩⟩ := g2
  dsimp only at *
  have hl1 := hs.p
  have hl2 := hs.c
  dsimp only at hl1 hl2
  obtain ⟨np, hnp⟩ : ∃ np, p.length = np := ⟨_, rfl⟩
  obtain ⟨nc, hnc⟩ : ∃ nc, c.length = nc := ⟨_, rfl⟩
  obtain ⟨np', hnp'⟩ : ∃ np', p'.length = np' := ⟨_, rfl⟩
  obtain ⟨nc', hnc'⟩ : ∃ nc', c'.length = nc' := ⟨_, rfl⟩
  rw [hnp] at hcp hl1
  rw [hnc] at hcb hl2
  rw [hnp'] at hcp'
  rw [hnc'] at hcb'
  have KP := Lib.hid (eqp_any w2.heap.size a a' np np' cp cp' p p' w2 hnp hnp' (by omega) ha ha')
  have KC := fun W (hW : Below w2.heap.size w2 W) => eqi_any w2.heap.size b b' nc nc' cb cb' c c' W hnc hnc' (by omega) (hb.below hW) (hb'.below hW)
  obtain ⟨DC, hDC⟩ : ∃ DC, decide (c = c') = DC := ⟨_, rfl⟩
  rw [hDC] at KC
  have KC := Lib.hid KC
  unfold mV
  unfold mC at HW ⊢
  dsimp only at HW ⊢
  rw [hnp, hnc, hnp', hnc'] at HW ⊢
  clear hw2 h1 h2 hb2 ha ha' hb hb' hs hnp hnc hnp' hnc'
  have hfin : ∀ W, Below w2.heap.size w2 W → Hid (Below w.heap.size w W) := fun W hW => by
    have hb2 : Below w.heap.size w w2 := by rw [HW.out]; exact ((Below.refl _ w).alloc (Nat.le_refl _) _).alloc (by simp) _
    exact Lib.hid (hb2.trans (hW.mono hb2.size))
  obtain ⟨D, hD⟩ : ∃ D, decide ((⟨k, n0, n1, n2, n3, n4, n5, p, c, tx, tg⟩ : Mg) = ⟨k', n0', n1', n2', n3', n4', n5', p', c', tx', tg'⟩) = D := ⟨_, rfl⟩
  rw [hD]
  by_cases hk : k = k'
  case neg =>
    have hk1 : (k == k') = false := by simpa using hk
    obtain rfl : D = false := by rw [← hD, decide_eq_false (fun e => hk (congrArg Mg.k e))]
    have HB := hfin w2 (Below.refl _ _)
    rw [HW.out] at HB
    clear hD KP KC hfin HW
    go_enter Tryz.func46, Tryz.ntmps46
    go_wp2
    go_ret
    exact ⟨rfl, HB.out⟩
  subst hk
  by_cases hN : [n0, n1, n2, n3, n4, n5] = [n0', n1', n2', n3', n4', n5']
  case neg =>
    have he : ∀ W, (binOp .eql 22 (.agg #[.int .i64 n0, .int .i64 n1, .int .i64 n2, .int .i64 n3, .int .i64 n4, .int .i64 n5]) (.agg #[.int .i64 n0', .int .i64 n1', .int .i64 n2', .int .i64 n3', .int .i64 n4', .int .i64 n5'])).run Tryz.prog W = .ok (.bool false) W := fun W => by rw [eql_six, decide_eq_false hN]
    obtain rfl : D = false := by
      rw [← hD, decide_eq_false (fun e => hN (by injection e with e0 e1 e2 e3 e4 e5 e6; rw [e1, e2, e3, e4, e5, e6]))]
    have HB := hfin w2 (Below.refl _ _)
    rw [HW.out] at HB
    clear hD KP KC hfin HW hN
    go_enter Tryz.func46, Tryz.ntmps46
    go_wp2
    go_ret
    exact ⟨rfl, HB.out⟩
  simp only [List.cons.injEq, and_true] at hN
  obtain ⟨rfl, rfl, rfl, rfl, rfl, rfl⟩ := hN
  have he : ∀ W, (binOp .eql 22 (.agg #[.int .i64 n0, .int .i64 n1, .int .i64 n2, .int .i64 n3, .int .i64 n4, .int .i64 n5]) (.agg #[.int .i64 n0, .int .i64 n1, .int .i64 n2, .int .i64 n3, .int .i64 n4, .int .i64 n5])).run Tryz.prog W = .ok (.bool true) W := fun W => by rw [eql_six, decide_eq_true rfl]
  have q1 : w2.heap[w.heap.size]? = some (.cells #[.int .i64 k, .int .i64 n0, .int .i64 n1, .int .i64 n2, .int .i64 n3, .int .i64 n4, .int .i64 n5, .slice a np cp, .slice b nc cb, .string tx, .string tg] 26 (0, 0)) := by
    rw [HW.out, Below.heap_alloc _ _ _ (by simp)]; exact World.alloc_heap_new _ _
  have q2 : w2.heap[w.heap.size + 1]? = some (.cells #[.int .i64 k, .int .i64 n0, .int .i64 n1, .int .i64 n2, .int .i64 n3, .int .i64 n4, .int .i64 n5, .slice a' np' cp', .slice b' nc' cb', .string tx', .string tg'] 26 (0, 0)) := by
    rw [HW.out, show w.heap.size + 1 = (w.alloc (.cells #[.int .i64 k, .int .i64 n0, .int .i64 n1, .int .i64 n2, .int .i64 n3, .int .i64 n4, .int .i64 n5, .slice a np cp, .slice b nc cb, .string tx, .string tg] 26)).heap.size by simp]; exact World.alloc_heap_new _ _
  have k1 := fun j x hx => row_cell q1 j x hx
  have k2 := fun j x hx => row_cell q2 j x hx
  have c8 := k1 8 _ rfl; have c9 := k1 9 _ rfl; have c10 := k1 10 _ rfl
  have d8 := k2 8 _ rfl; have d9 := k2 9 _ rfl; have d10 := k2 10 _ rfl
  clear k1 k2 q1 q2
  by_cases hp : p = p'
  case neg =>
    rw [decide_eq_false hp] at KP
    obtain rfl : D = false := by rw [← hD, decide_eq_false (fun e => hp (congrArg Mg.p e))]
    clear hD KC hp hDC
    go_enter Tryz.func46, Tryz.ntmps46
    go_wp2_with fail
    rw [← HW.out]
    refine KP.out.mono ?_
    rintro e W1 ⟨rfl, m1, rfl⟩
    go_wp2
    go_ret
    exact ⟨rfl, (hfin _ (below_of_drewN _ _)).out⟩
  rw [decide_eq_true hp] at KP
  subst hp
  by_cases hc : c = c'
  case neg =>
    obtain rfl : DC = false := by rw [← hDC, decide_eq_false hc]
    obtain rfl : D = false := by rw [← hD, decide_eq_false (fun e => hc (congrArg Mg.c e))]
    clear hD hc hDC
    go_enter Tryz.func46, Tryz.ntmps46
    go_wp2_with fail
    rw [← HW.out]
    refine KP.out.mono ?_
    rintro e W1 ⟨rfl, m1, rfl⟩
    go_wp2_with fail
    refine (KC.out _ (below_of_drewN _ _)).mono ?_
    rintro e W2 ⟨rfl, m2, rfl⟩
    go_wp2
    go_ret
    exact ⟨rfl, (hfin _ (below_of_drewN w2 _)).out⟩
  obtain rfl : DC = true := by rw [← hDC, decide_eq_true hc]
  subst hc
  clear hDC
  by_cases ht : tx = tx'
  case neg =>
    have hs := str_ne ht
    obtain rfl : D = false := by rw [← hD, decide_eq_false (fun e => ht (congrArg Mg.tx e))]
    clear hD ht
    go_enter Tryz.func46, Tryz.ntmps46
    go_wp2_with fail
    rw [← HW.out]
    refine KP.out.mono ?_
    rintro e W1 ⟨rfl, m1, rfl⟩
    go_wp2_with fail
    refine (KC.out _ (below_of_drewN _ _)).mono ?_
    rintro e W2 ⟨rfl, m2, rfl⟩
    go_wp2
    go_ret
    exact ⟨rfl, (hfin _ (below_of_drewN w2 _)).out⟩
  subst ht
  by_cases hg : tg = tg'
  case neg =>
    have hs := str_ne hg
    obtain rfl : D = false := by rw [← hD, decide_eq_false (fun e => hg (congrArg Mg.tg e))]
    clear hD hg
    go_enter Tryz.func46, Tryz.ntmps46
    go_wp2_with fail
    rw [← HW.out]
    refine KP.out.mono ?_
    rintro e W1 ⟨rfl, m1, rfl⟩
    go_wp2_with fail
    refine (KC.out _ (below_of_drewN _ _)).mono ?_
    rintro e W2 ⟨rfl, m2, rfl⟩
    go_wp2
    go_ret
    exact ⟨rfl, (hfin _ (below_of_drewN w2 _)).out⟩
  subst hg
  obtain rfl : D = true := by rw [← hD, decide_eq_true rfl]
  clear hD
  go_enter Tryz.func46, Tryz.ntmps46
  go_wp2_with fail
  rw [← HW.out]
  refine KP.out.mono ?_
  rintro e W1 ⟨rfl, m1, rfl⟩
  go_wp2_with fail
  refine (KC.out _ (below_of_drewN _ _)).mono ?_
  rintro e W2 ⟨rfl, m2, rfl⟩
  go_wp2
  go_ret
  exact ⟨rfl, (hfin _ (below_of_drewN w2 _)).out⟩
end Go.Proofs.YtlbfibnfmijahaaGreat

namespace Go.Proofs.YtlbfibnfmijahaaGreat
open Go.RowKit

theorem wpList_append_any {P : Program} {w : World} {ops : Array Oper} {rest : List Oper} {o : Oper} {a : Act} {Q : Exit → Act → World → Prop} (hwt : Region.wanted o (yielded ops a.tmps) = true) (s x : Operand) (t : TypeId)
    (ho : o.op = .call { callee := .builtin .append, args := #[s, x], argTypes := #[t, t] })
    (base : Nat) (e : TypeId) (i : TypeInfo) (z : Value) (bytes : Nat) (ht : P.underlying t = some (.slice e)) (hi : P.info? e = some i) (hz : i.zero = some z) (hsize : i.size = 1) (hby : i.bytes = bytes) (hzs : z.cells.size = 1)
    (k : IntKind) (L zs : List Int) (v : Value) (hs : a.eval s = v) (hown : w.ownsRow base e 1 v L.length (L.map (Value.int k))) (A : Option Addr) (m c B : Nat) (hx : a.eval x = .slice A m c) (hm : zs.length = m) (hn : Nums k w B A zs)
    (h63 : L.length + m ≤ maxLen) (hbytes : (L.length + m) * bytes ≤ 140737488355328) (hbase : base ≤ w.heap.size)
    (h : ∀ v' w', w'.ownsRow base e 1 v' (L.length + zs.length) (L.map (Value.int k) ++ zs.map (Value.int k)) → w.grownBy w' v.ownBlock → wpList P ops Q rest (a.put o.dst v') w') : wpList P ops Q (o :: rest) a w := by
  subst hm
  simp only [wpList, hwt, if_true]
  left
  by_cases hz0 : zs = []
  · subst hz0
    have hv : ∃ b n cap, v = .slice b n cap ∧ n ≤ cap := by
      rcases hown.2 with ⟨rfl, _⟩ | ⟨g, cap, cur, rfl, _, _, hle, _⟩
      · exact ⟨_, _, _, rfl, Nat.le_refl _⟩
      · exact ⟨_, _, _, rfl, hle⟩
    obtain ⟨b, n, cap, rfl, hle⟩ := hv
    refine Lib.wp_append_run w s x t t ho _ _ hs hx _ w (run_append_nothing w t t o.type e i ht hi b n cap hle _ ?_) (h _ _ (by simpa using hown) ⟨rfl, rfl, rfl, Nat.le_refl _, fun _ _ _ => rfl⟩)
    cases A with
    | none => exact ⟨.inl ⟨e, ht⟩, fun _ => rfl, run_firstCells_none w i.size 0 0 c, run_firstCells_none w.drew i.size 0 0 c, by simp, fun _ h => by cases h⟩
    | some ad => exact Src.ofSlice w ht ad 0 c [] (by simp) (by simp) (fun _ h => by cases h)
  · obtain ⟨b1, o1, rfl, hb1, hc⟩ := hn hz0
    refine wp_append_own w s x t ho base e i z 1 bytes ht hi hz hsize hby hzs (by decide) v L.length _ hs hown ⟨b1, o1, none⟩ zs.length c (zs.map (Value.int k)) hx (by simp) (fun j u hj => ?_) (fun u hu => by obtain ⟨y, _, rfl⟩ := List.mem_map.1 hu; rfl) h63 hbytes hbase fun v' w' h1 h2 _ => h v' w' h1 h2
    rw [List.getElem?_map] at hj
    obtain ⟨y, hy, rfl⟩ := Option.map_eq_some_iff.1 hj
    rw [Addr.add_lit]
    exact hc j y hy

section
variable {e : TypeId} {k : IntKind} {w w1 w2 : World} {L zs : List Int} {v v' : Value}
theorem MadeK.more (h : MadeK e k w w1 L v) (hown : w2.ownsRow w.heap.size e 1 v' (L.length + zs.length) (L.map (Value.int k) ++ zs.map (Value.int k))) (hg : w1.grownBy w2 v.ownBlock) : MadeK e k w w2 (L ++ zs) v' :=
  ⟨by simpa using hown, h.2.grown hg (by have := h.2.size; omega) (fun g hk => (h.own_ge hk).1)⟩
/-- a store elsewhere, above -/
theorem MadeK.store {q : Addr} (h : MadeK e k w w1 L v) (hq : ∀ g, v.ownBlock = some g → g ≠ q.block) (hw : w.heap.size ≤ q.block) (u : Value) : MadeK e k w (w1.setCell q u) L v := by
  refine ⟨h.1.kept (row := some q.block) ⟨rfl, rfl, rfl, by simp [World.setCell], fun j _ hj => Below.heap_setCell _ _ _ _ (fun e => hj (by rw [e]))⟩ ?_, h.2.setCell hw u⟩
  right
  intro he
  exact hq _ he rfl
theorem MadeK.since {w0 : World} (h : MadeK e k w w1 L v) (hb : Below w0.heap.size w0 w) : MadeK e k w0 w1 L v := by
  have hs := hb.size
  refine ⟨⟨h.1.1, ?_⟩, hb.trans (h.2.mono hs)⟩
  rcases h.1.2 with h | ⟨g, cap, cur, hv, hg, rest⟩
  · exact .inl h
  · exact .inr ⟨g, cap, cur, hv, by omega, rest⟩
end
end Go.Proofs.YtlbfibnfmijahaaGreat

namespace Go.Proofs.YtlbfibnfmijahaaGreat
open Go.RowKit

theorem wpList_append_szd {P : Program} {w : World} {ops : Array Oper} {rest : List Oper} {o : Oper} {a : Act} {Q : Exit → Act → World → Prop} (hwt : Region.wanted o (yielded ops a.tmps) = true) (s x : Operand) (t : TypeId)
    (ho : o.op = .call { callee := .builtin .append, args := #[s, x], argTypes := #[t, t] })
    (base : Nat) (e : TypeId) (i : TypeInfo) (z : Value) (size bytes : Nat) (ht : P.underlying t = some (.slice e)) (hi : P.info? e = some i) (hz : i.zero = some z) (hsize : i.size = size) (hby : i.bytes = bytes) (hzs : z.cells.size = size) (hsz : 0 < size)
    (k : IntKind) (n : Nat) (xs : List Value) (zs : List Int) (v : Value) (hs : a.eval s = v) (hown : w.ownsRow base e size v n xs) (A : Option Addr) (m c B : Nat) (hx : a.eval x = .slice A m c) (hm : zs.length = m * size) (hn : Nums k w B A zs)
    (h63 : n + m ≤ maxLen) (hbytes : (n + m) * bytes ≤ 140737488355328) (hbase : base ≤ w.heap.size)
    (h : ∀ v' w', w'.ownsRow base e size v' (n + m) (xs ++ zs.map (Value.int k)) → w.grownBy w' v.ownBlock → wpList P ops Q rest (a.put o.dst v') w') : wpList P ops Q (o :: rest) a w := by
  simp only [wpList, hwt, if_true]
  left
  by_cases hz0 : zs = []
  · subst hz0
    obtain rfl : m = 0 := by
      have h1 : m * size = 0 := by simpa using hm.symm
      rcases Nat.mul_eq_zero.1 h1 with h | h <;> omega
    have hv : ∃ b n cap, v = .slice b n cap ∧ n ≤ cap := by
      rcases hown.2 with ⟨rfl, _⟩ | ⟨g, cap, cur, rfl, _, _, hle, _⟩
      · exact ⟨_, _, _, rfl, Nat.le_refl _⟩
      · exact ⟨_, _, _, rfl, hle⟩
    obtain ⟨b, q, cap, rfl, hle⟩ := hv
    refine Lib.wp_append_run w s x t t ho _ _ hs hx _ w (run_append_nothing w t t o.type e i ht hi b q cap hle _ ?_) (h _ _ (by simpa using hown) ⟨rfl, rfl, rfl, Nat.le_refl _, fun _ _ _ => rfl⟩)
    cases A with
    | none => exact ⟨.inl ⟨e, ht⟩, fun _ => rfl, run_firstCells_none w i.size 0 0 c, run_firstCells_none w.drew i.size 0 0 c, by simp, fun _ h => by cases h⟩
    | some ad => exact Src.ofSlice w ht ad 0 c [] (by simp) (by simp) (fun _ h => by cases h)
  · obtain ⟨b1, o1, rfl, hb1, hc⟩ := hn hz0
    refine wp_append_own w s x t ho base e i z size bytes ht hi hz hsize hby hzs hsz v n xs hs hown ⟨b1, o1, none⟩ m c (zs.map (Value.int k)) hx (by simpa using hm) (fun j u hj => ?_) (fun u hu => by obtain ⟨y, _, rfl⟩ := List.mem_map.1 hu; rfl) h63 hbytes hbase fun v' w' h1 h2 _ => h v' w' h1 h2
    rw [List.getElem?_map] at hj
    obtain ⟨y, hy, rfl⟩ := Option.map_eq_some_iff.1 hj
    rw [Addr.add_lit]
    exact hc j y hy
/-- numbers of a row that the call made, elements of any size -/
theorem nums_of_own {w : World} {base e size n : Nat} {k : IntKind} {v : Value} {zs : List Int} (h : w.ownsRow base e size v n (zs.map (Value.int k))) (_hsz : 0 < size) : ∃ A c, v = .slice A n c ∧ n ≤ c ∧ Nums k w w.heap.size A zs := by
  have h1 := h.2
  rcases h1 with ⟨rfl, h0⟩ | ⟨g, cap, cur, rfl, hg, hh, hn, _⟩
  · subst h0
    have h2 := h.1
    rw [Nat.zero_mul] at h2
    have : zs = [] := by simpa using h2
    subst this
    exact ⟨none, 0, rfl, Nat.le_refl _, Nums.nil⟩
  · refine ⟨_, cap, rfl, hn, fun _ => ⟨g, 0, rfl, (Array.getElem?_eq_some_iff.1 hh).1, fun j c hj => ?_⟩⟩
    have := h.cells (g := g) rfl j (.int k c) (by rw [List.getElem?_map, hj]; rfl)
    rwa [Addr.add_lit] at this
end Go.Proofs.YtlbfibnfmijahaaGreat

namespace Go.Proofs.YtlbfibnfmijahaaGreat
open Go.RowKit

end Go.Proofs.YtlbfibnfmijahaaGreat

namespace Go.Proofs.YtlbfibnfmijahaaGreat
open Go.RowKit Go.Shelf
set_option maxRecDepth 100000
attribute [local go_sem] Oper.semAt_some

theorem rfInfo : (Tryz.prog.info? 81).map (fun i => (i.zero, i.size, i.bytes)) = some (some (.agg #[.string ⟨#[]⟩, .int .i64 0, .int .i64 0, .int .i64 0, .int .i64 0, .int .i64 0, .int .i64 0]), 7, 64) := by kernel_rfl
/-- fields that lie in a row, at lo or above -/
def FdsIn (lo : Nat) (w : World) (A : Option Addr) (L : List Fd) : Prop := ∀ (j : Nat) (f : Fd), L[j]? = some f → ∃ g, A = some ⟨g, 0, none⟩ ∧ lo ≤ g ∧ g < w.heap.size ∧ ∀ (q : Nat) (u : Value), f.cs[q]? = some u → w.cell? ⟨g, j * 7 + q, none⟩ = some u
def OfI (L : List Fd) (w : World) (e : Ending) (w' : World) : Prop := ∃ A c, e = .returned (.slice A L.length c) ∧ L.length ≤ c ∧ FdsIn w.heap.size w' A L ∧ Below w.heap.size w w'
theorem FRow.lt {T : TypeId} {w : World} {g : Nat} {L : List Fd} (h : FRow T w g L) : g < w.heap.size := (Array.getElem?_eq_some_iff.1 h).1
theorem FRow.seven {T : TypeId} {w : World} {g : Nat} {L : List Fd} (h : FRow T w g L) {j : Nat} {f : Fd} (hj : L[j]? = some f) :
    w.cell? ⟨g, j * 7, none⟩ = some (.string f.nm) ∧ w.cell? ⟨g, j * 7 + 1, none⟩ = some (.int .i64 f.so) ∧ w.cell? ⟨g, j * 7 + 2, none⟩ = some (.int .i64 f.pl) ∧ w.cell? ⟨g, j * 7 + 3, none⟩ = some (.int .i64 f.le) ∧ w.cell? ⟨g, j * 7 + 4, none⟩ = some (.int .i64 f.mo) ∧ w.cell? ⟨g, j * 7 + 5, none⟩ = some (.int .i64 f.si) ∧ w.cell? ⟨g, j * 7 + 6, none⟩ = some (.int .i64 f.ab) :=
  ⟨h.cell hj (q := 0) (by omega), h.cell hj (q := 1) (by omega), h.cell hj (q := 2) (by omega), h.cell hj (q := 3) (by omega), h.cell hj (q := 4) (by omega), h.cell hj (q := 5) (by omega), h.cell hj (q := 6) (by omega)⟩
theorem own_below7 {W W' : World} {base e size n : Nat} {v : Value} {xs : List Value} (h : W.ownsRow base e size v n xs) (hb : Below W.heap.size W W') : W'.ownsRow base e size v n xs := by
  refine ⟨h.1, h.2.imp id ?_⟩
  rintro ⟨g, cap, cur, hv, hg, hh, r⟩
  exact ⟨g, cap, cur, hv, hg, (hb.block g (Array.getElem?_eq_some_iff.1 hh).1).trans hh, r⟩
theorem cells_newF {w : World} {cs cs2 : List Value} (t t2 : TypeId) : ∀ (j : Nat) (u : Value), cs2[j]? = some u → ((w.alloc (.cells cs.toArray t)).alloc (.cells cs2.toArray t2)).cell? ((⟨w.heap.size + 1, 0, none⟩ : Addr).add j) = some u := fun j u h => by
  rw [Addr.add_lit, Nat.zero_add, World.cell?_alloc_at _ _ _ _ (by simp)]
  simpa using h
theorem rall_step {T base g j : Nat} {w wr W4 : World} {u v' : Value} {L M : List Fd} {f' : Fd} {o1 o2 : Obj} (hb : Below w.heap.size w wr) (hF : FRow T wr g L) (hg : g < base) (hbw : w.heap.size ≤ base) (hown : wr.ownsRow base T 7 u j (flat7 M))
    (h4 : W4.ownsRow base T 7 v' (j + 1) (flat7 M ++ f'.cs.toList)) (hgr : ((wr.alloc o1).alloc o2).grownBy W4 u.ownBlock) : Below w.heap.size w W4 ∧ FRow T W4 g L ∧ W4.ownsRow base T 7 v' (j + 1) (flat7 (M ++ [f'])) := by
  have hs := hb.size
  have hlt := hF.lt
  refine ⟨((hb.alloc hs o1).alloc (by rw [World.size_alloc]; omega) o2).grown hgr (by rw [World.size_alloc, World.size_alloc]; omega) (fun k hk => by have := (hown.lt k hk).1; omega), ?_, ?_⟩
  · unfold FRow at hF ⊢
    rw [hgr.block g (by rw [World.size_alloc, World.size_alloc]; omega) (fun e => by have := (hown.lt g e.symm).1; omega), Below.heap_alloc _ _ _ (by rw [World.size_alloc]; omega), Below.heap_alloc _ _ _ hlt]
    exact hF
  · rw [flat7_app]
    simpa [flat7] using h4
theorem own_in {T base lo n : Nat} {w : World} {v : Value} {M : List Fd} (h : w.ownsRow base T 7 v n (flat7 M)) (hM : M.length = n) (hlo : lo ≤ base) : ∃ A c, v = .slice A n c ∧ n ≤ c ∧ FdsIn lo w A M := by
  have h1 := h.2
  rcases h1 with ⟨rfl, rfl⟩ | ⟨g, cap, cur, rfl, hg, hh, hc, _⟩
  · exact ⟨none, 0, rfl, Nat.le_refl _, fun j f hj => by rw [List.eq_nil_of_length_eq_zero hM] at hj; simp at hj⟩
  · refine ⟨some ⟨g, 0, none⟩, cap, rfl, hc, fun j f hj => ⟨g, rfl, by omega, (Array.getElem?_eq_some_iff.1 hh).1, fun q u hq => ?_⟩⟩
    have hq7 : q < 7 := by
      have := (Array.getElem?_eq_some_iff.1 hq).1
      simpa [Fd.cs] using this
    have := h.cells (g := g) rfl (j * 7 + q) u (by rw [flat7_get M j f hj q hq7]; exact hq)
    rwa [Addr.add_lit, Nat.zero_add] at this
theorem rall_fin {T base n : Nat} {w w' : World} {v : Value} {L : List Fd} (hL : L.length = n) (h : w'.ownsRow base T 7 v n (flat7 (L.take n))) (hb : Below w.heap.size w w') (hlo : w.heap.size ≤ base) : OfI L w (.returned v) w' := by
  rw [List.take_of_length_le (by omega)] at h
  obtain ⟨A, c, rfl, hc, hi⟩ := own_in h hL hlo
  subst hL
  exact ⟨A, c, rfl, hc, hi, hb⟩
theorem OfR.in {T : TypeId} {L : List Fd} {w w' : World} {e : Ending} (h : OfR T L w e w') : OfI L w e w' := by
  obtain ⟨A, c, rfl, hc, hA, hb⟩ := h
  refine ⟨A, c, rfl, hc, fun j f hj => ?_, hb⟩
  obtain ⟨g, rfl, hg, hF⟩ := hA (by intro e; subst e; simp at hj)
  refine ⟨g, rfl, hg, hF.lt, fun q u hq => ?_⟩
  have hq7 : q < 7 := by
    have := (Array.getElem?_eq_some_iff.1 hq).1
    simpa [Fd.cs] using this
  rw [hF.cell hj hq7]
  exact hq

set_option maxHeartbeats 8000000 in
theorem rall_any (k : Int) (w : World) : Calls Tryz.prog 29 #[.int .i64 k] w fun e w' => OfI (FD k) w e w' := by
  obtain ⟨f0, hf0, hf1, hf2, hf3⟩ := info_parts rfInfo
  rcases kind_ways k with rfl | rfl | rfl | rfl | rfl | ⟨h1, h2, h3, h4, h5⟩
  case' inr.inr.inr.inr.inr =>
    have n1 : (k == 1) = false := by simpa using h1
    have n2 : (k == 2) = false := by simpa using h2
    have n3 : (k == 3) = false := by simpa using h3
    have n4 : (k == 4) = false := by simpa using h4
    have n5 : (k == 5) = false := by simpa using h5
    have hFD : FD k = [] := by simp [FD, raw, h1, h2, h3, h4, h5, pls]
    clear h1 h2 h3 h4 h5
  all_goals
    go_enter Tryz.func29, Tryz.ntmps29
  · go_wp2_with fail
    go_loopw [3, 6] (fun v iv wr => v = .slice none 0 0 ∧ iv = .int .i64 0 ∧ Hid (Below w.heap.size w wr)) (fun _ _ _ => 0)
    case atStart => exact ⟨rfl, rfl, Lib.hid ((Below.refl _ w).alloc (Nat.le_refl _) _)⟩
    case round =>
      obtain ⟨rfl, rfl, HB⟩ := hrel
      go_wp2
      go_ret
      rw [hFD]
      exact ⟨none, 0, rfl, Nat.le_refl _, fun j f h => by simp at h, HB.out⟩
  · go_wp2_with fail
    go_loopw [3, 4, 6] (fun v x iv wr => ∃ (j : Nat) (u : Value), u = v ∧ j ≤ 5 ∧ iv = .int .i64 (j : Int) ∧ x = .int .i64 (nums3 ((raw 1).take j)) ∧ Hid (wr.ownsRow (w.heap.size + 2) 81 7 u j (flat7 ((FD 1).take j))) ∧ Hid (FRow 81 wr (w.heap.size + 1) (raw 1)) ∧ Hid (Below w.heap.size w wr)) (fun _ _ iv _ => 5 - (intOf iv).toNat)
    case atStart => exact ⟨0, _, rfl, by omega, rfl, rfl, Lib.hid (World.ownsRow_nil _ _ _ _), Lib.hid ((by rw [show w.heap.size + 1 = (w.alloc (.cells #[] 81)).heap.size by simp]; exact World.alloc_heap_new _ _)), Lib.hid (((Below.refl _ w).alloc (Nat.le_refl _) _).alloc (by simp) _)⟩
    case round =>
      obtain ⟨j, u, rfl, hj, rfl, rfl, HO, HR, HB⟩ := hrel
      rcases Nat.lt_or_ge j 5 with hlt | hge
      · obtain ⟨f, hf⟩ : ∃ f, (raw 1)[j]? = some f := ⟨_, List.getElem?_eq_getElem (by show j < 5; exact hlt)⟩
        have hs := raw_so 1 f (List.mem_of_getElem? hf)
        obtain ⟨d0, d1, d2, d3, d4, d5, d6⟩ := HR.out.seven hf
        obtain ⟨m, hm⟩ : ∃ m, nums3 ((raw 1).take j) = m := ⟨_, rfl⟩
        have hm2 := nums3_nonneg ((raw 1).take j)
        rw [hm, List.length_take] at hm2
        have ht := nums3_take (raw 1) j f hf
        have hp := pls_get (raw 1) 0 j f hf
        rw [hm] at ht hp
        rw [hm]
        have hmm : 0 ≤ m ∧ m ≤ 6 := by omega
        have HG := Lib.hid (And.intro ht hp)
        have HW := Lib.hid HB.out.size
        clear ht hp hm hm2 hf
        by_cases h3 : f.so < 3
        · rw [if_pos h3, if_pos h3, Int.zero_add] at HG
          go_wp2_with (at_builtin; refine wpList_append_own_at _ rfl (.tmp 67) (.tmp 69) 78 rfl (w.heap.size + 2) 81 f0 _ 7 64 Tryz.underlying78 hf0 hf1 hf2 hf3 rfl (by decide) _ _ _ rfl (own_below7 HO.out (((Below.refl _ wr).alloc (Nat.le_refl _) _).alloc (by simp) _)) ⟨wr.heap.size + 1, 0, none⟩ 1 1 [Value.string f.nm, .int .i64 f.so, .int .i64 m, .int .i64 f.le, .int .i64 f.mo, .int .i64 f.si, .int .i64 f.ab] rfl rfl (cells_newF _ _) (by simp [Value.oneCell']) (by unfold maxLen; omega) (by omega) (by have := HB.out.size; have := HO.out; have := HR.out.lt; simp; omega) ?_)
          intro v' W4 hown hg _ _
          have HX := Lib.hid (rall_step (f' := { f with pl := m }) HB.out HR.out (by omega) (by omega) HO.out hown hg)
          clear hown hg
          go_wp2
          obtain ⟨x1, x2, x3⟩ := HX.out
          obtain ⟨y1, y2⟩ := HG.out
          refine ⟨⟨j + 1, _, rfl, by omega, by go_num, by rw [y1], ?_, Lib.hid x2, Lib.hid x1⟩, by simp only [intOf]; omega⟩
          rw [List.take_add_one, show (FD 1)[j]? = _ from y2]
          exact Lib.hid x3
        · rw [if_neg h3, if_neg h3, Int.add_zero] at HG
          go_wp2_with (at_builtin; refine wpList_append_own_at _ rfl (.tmp 67) (.tmp 69) 78 rfl (w.heap.size + 2) 81 f0 _ 7 64 Tryz.underlying78 hf0 hf1 hf2 hf3 rfl (by decide) _ _ _ rfl (own_below7 HO.out (((Below.refl _ wr).alloc (Nat.le_refl _) _).alloc (by simp) _)) ⟨wr.heap.size + 1, 0, none⟩ 1 1 [Value.string f.nm, .int .i64 f.so, .int .i64 (-1), .int .i64 f.le, .int .i64 f.mo, .int .i64 f.si, .int .i64 f.ab] rfl rfl (cells_newF _ _) (by simp [Value.oneCell']) (by unfold maxLen; omega) (by omega) (by have := HB.out.size; have := HO.out; have := HR.out.lt; simp; omega) ?_)
          intro v' W4 hown hg _ _
          have HX := Lib.hid (rall_step (f' := { f with pl := -1 }) HB.out HR.out (by omega) (by omega) HO.out hown hg)
          clear hown hg
          go_wp2
          obtain ⟨x1, x2, x3⟩ := HX.out
          obtain ⟨y1, y2⟩ := HG.out
          refine ⟨⟨j + 1, _, rfl, by omega, by go_num, by rw [y1], ?_, Lib.hid x2, Lib.hid x1⟩, by simp only [intOf]; omega⟩
          rw [List.take_add_one, show (FD 1)[j]? = _ from y2]
          exact Lib.hid x3
      · obtain rfl : j = 5 := by omega
        go_wp2
        go_ret
        exact rall_fin (L := FD 1) (n := 5) rfl HO.out HB.out (by omega)
  · go_wp2_with fail
    go_loopw [3, 4, 6] (fun v x iv wr => ∃ (j : Nat) (u : Value), u = v ∧ j ≤ 3 ∧ iv = .int .i64 (j : Int) ∧ x = .int .i64 (nums3 ((raw 2).take j)) ∧ Hid (wr.ownsRow (w.heap.size + 2) 81 7 u j (flat7 ((FD 2).take j))) ∧ Hid (FRow 81 wr (w.heap.size + 1) (raw 2)) ∧ Hid (Below w.heap.size w wr)) (fun _ _ iv _ => 3 - (intOf iv).toNat)
    case atStart => exact ⟨0, _, rfl, by omega, rfl, rfl, Lib.hid (World.ownsRow_nil _ _ _ _), Lib.hid ((by rw [show w.heap.size + 1 = (w.alloc (.cells #[] 81)).heap.size by simp]; exact World.alloc_heap_new _ _)), Lib.hid (((Below.refl _ w).alloc (Nat.le_refl _) _).alloc (by simp) _)⟩
    case round =>
      obtain ⟨j, u, rfl, hj, rfl, rfl, HO, HR, HB⟩ := hrel
      rcases Nat.lt_or_ge j 3 with hlt | hge
      · obtain ⟨f, hf⟩ : ∃ f, (raw 2)[j]? = some f := ⟨_, List.getElem?_eq_getElem (by show j < 3; exact hlt)⟩
        have hs := raw_so 2 f (List.mem_of_getElem? hf)
        obtain ⟨d0, d1, d2, d3, d4, d5, d6⟩ := HR.out.seven hf
        obtain ⟨m, hm⟩ : ∃ m, nums3 ((raw 2).take j) = m := ⟨_, rfl⟩
        have hm2 := nums3_nonneg ((raw 2).take j)
        rw [hm, List.length_take] at hm2
        have ht := nums3_take (raw 2) j f hf
        have hp := pls_get (raw 2) 0 j f hf
        rw [hm] at ht hp
        rw [hm]
        have hmm : 0 ≤ m ∧ m ≤ 6 := by omega
        have HG := Lib.hid (And.intro ht hp)
        have HW := Lib.hid HB.out.size
        clear ht hp hm hm2 hf
        by_cases h3 : f.so < 3
        · rw [if_pos h3, if_pos h3, Int.zero_add] at HG
          go_wp2_with (at_builtin; refine wpList_append_own_at _ rfl (.tmp 67) (.tmp 69) 78 rfl (w.heap.size + 2) 81 f0 _ 7 64 Tryz.underlying78 hf0 hf1 hf2 hf3 rfl (by decide) _ _ _ rfl (own_below7 HO.out (((Below.refl _ wr).alloc (Nat.le_refl _) _).alloc (by simp) _)) ⟨wr.heap.size + 1, 0, none⟩ 1 1 [Value.string f.nm, .int .i64 f.so, .int .i64 m, .int .i64 f.le, .int .i64 f.mo, .int .i64 f.si, .int .i64 f.ab] rfl rfl (cells_newF _ _) (by simp [Value.oneCell']) (by unfold maxLen; omega) (by omega) (by have := HB.out.size; have := HO.out; have := HR.out.lt; simp; omega) ?_)
          intro v' W4 hown hg _ _
          have HX := Lib.hid (rall_step (f' := { f with pl := m }) HB.out HR.out (by omega) (by omega) HO.out hown hg)
          clear hown hg
          go_wp2
          obtain ⟨x1, x2, x3⟩ := HX.out
          obtain ⟨y1, y2⟩ := HG.out
          refine ⟨⟨j + 1, _, rfl, by omega, by go_num, by rw [y1], ?_, Lib.hid x2, Lib.hid x1⟩, by simp only [intOf]; omega⟩
          rw [List.take_add_one, show (FD 2)[j]? = _ from y2]
          exact Lib.hid x3
        · rw [if_neg h3, if_neg h3, Int.add_zero] at HG
          go_wp2_with (at_builtin; refine wpList_append_own_at _ rfl (.tmp 67) (.tmp 69) 78 rfl (w.heap.size + 2) 81 f0 _ 7 64 Tryz.underlying78 hf0 hf1 hf2 hf3 rfl (by decide) _ _ _ rfl (own_below7 HO.out (((Below.refl _ wr).alloc (Nat.le_refl _) _).alloc (by simp) _)) ⟨wr.heap.size + 1, 0, none⟩ 1 1 [Value.string f.nm, .int .i64 f.so, .int .i64 (-1), .int .i64 f.le, .int .i64 f.mo, .int .i64 f.si, .int .i64 f.ab] rfl rfl (cells_newF _ _) (by simp [Value.oneCell']) (by unfold maxLen; omega) (by omega) (by have := HB.out.size; have := HO.out; have := HR.out.lt; simp; omega) ?_)
          intro v' W4 hown hg _ _
          have HX := Lib.hid (rall_step (f' := { f with pl := -1 }) HB.out HR.out (by omega) (by omega) HO.out hown hg)
          clear hown hg
          go_wp2
          obtain ⟨x1, x2, x3⟩ := HX.out
          obtain ⟨y1, y2⟩ := HG.out
          refine ⟨⟨j + 1, _, rfl, by omega, by go_num, by rw [y1], ?_, Lib.hid x2, Lib.hid x1⟩, by simp only [intOf]; omega⟩
          rw [List.take_add_one, show (FD 2)[j]? = _ from y2]
          exact Lib.hid x3
      · obtain rfl : j = 3 := by omega
        go_wp2
        go_ret
        exact rall_fin (L := FD 2) (n := 3) rfl HO.out HB.out (by omega)
  · go_wp2_with fail
    go_loopw [3, 4, 6] (fun v x iv wr => ∃ (j : Nat) (u : Value), u = v ∧ j ≤ 4 ∧ iv = .int .i64 (j : Int) ∧ x = .int .i64 (nums3 ((raw 3).take j)) ∧ Hid (wr.ownsRow (w.heap.size + 2) 81 7 u j (flat7 ((FD 3).take j))) ∧ Hid (FRow 81 wr (w.heap.size + 1) (raw 3)) ∧ Hid (Below w.heap.size w wr)) (fun _ _ iv _ => 4 - (intOf iv).toNat)
    case atStart => exact ⟨0, _, rfl, by omega, rfl, rfl, Lib.hid (World.ownsRow_nil _ _ _ _), Lib.hid ((by rw [show w.heap.size + 1 = (w.alloc (.cells #[] 81)).heap.size by simp]; exact World.alloc_heap_new _ _)), Lib.hid (((Below.refl _ w).alloc (Nat.le_refl _) _).alloc (by simp) _)⟩
    case round =>
      obtain ⟨j, u, rfl, hj, rfl, rfl, HO, HR, HB⟩ := hrel
      rcases Nat.lt_or_ge j 4 with hlt | hge
      · obtain ⟨f, hf⟩ : ∃ f, (raw 3)[j]? = some f := ⟨_, List.getElem?_eq_getElem (by show j < 4; exact hlt)⟩
        have hs := raw_so 3 f (List.mem_of_getElem? hf)
        obtain ⟨d0, d1, d2, d3, d4, d5, d6⟩ := HR.out.seven hf
        obtain ⟨m, hm⟩ : ∃ m, nums3 ((raw 3).take j) = m := ⟨_, rfl⟩
        have hm2 := nums3_nonneg ((raw 3).take j)
        rw [hm, List.length_take] at hm2
        have ht := nums3_take (raw 3) j f hf
        have hp := pls_get (raw 3) 0 j f hf
        rw [hm] at ht hp
        rw [hm]
        have hmm : 0 ≤ m ∧ m ≤ 6 := by omega
        have HG := Lib.hid (And.intro ht hp)
        have HW := Lib.hid HB.out.size
        clear ht hp hm hm2 hf
        by_cases h3 : f.so < 3
        · rw [if_pos h3, if_pos h3, Int.zero_add] at HG
          go_wp2_with (at_builtin; refine wpList_append_own_at _ rfl (.tmp 67) (.tmp 69) 78 rfl (w.heap.size + 2) 81 f0 _ 7 64 Tryz.underlying78 hf0 hf1 hf2 hf3 rfl (by decide) _ _ _ rfl (own_below7 HO.out (((Below.refl _ wr).alloc (Nat.le_refl _) _).alloc (by simp) _)) ⟨wr.heap.size + 1, 0, none⟩ 1 1 [Value.string f.nm, .int .i64 f.so, .int .i64 m, .int .i64 f.le, .int .i64 f.mo, .int .i64 f.si, .int .i64 f.ab] rfl rfl (cells_newF _ _) (by simp [Value.oneCell']) (by unfold maxLen; omega) (by omega) (by have := HB.out.size; have := HO.out; have := HR.out.lt; simp; omega) ?_)
          intro v' W4 hown hg _ _
          have HX := Lib.hid (rall_step (f' := { f with pl := m }) HB.out HR.out (by omega) (by omega) HO.out hown hg)
          clear hown hg
          go_wp2
          obtain ⟨x1, x2, x3⟩ := HX.out
          obtain ⟨y1, y2⟩ := HG.out
          refine ⟨⟨j + 1, _, rfl, by omega, by go_num, by rw [y1], ?_, Lib.hid x2, Lib.hid x1⟩, by simp only [intOf]; omega⟩
          rw [List.take_add_one, show (FD 3)[j]? = _ from y2]
          exact Lib.hid x3
        · rw [if_neg h3, if_neg h3, Int.add_zero] at HG
          go_wp2_with (at_builtin; refine wpList_append_own_at _ rfl (.tmp 67) (.tmp 69) 78 rfl (w.heap.size + 2) 81 f0 _ 7 64 Tryz.underlying78 hf0 hf1 hf2 hf3 rfl (by decide) _ _ _ rfl (own_below7 HO.out (((Below.refl _ wr).alloc (Nat.le_refl _) _).alloc (by simp) _)) ⟨wr.heap.size + 1, 0, none⟩ 1 1 [Value.string f.nm, .int .i64 f.so, .int .i64 (-1), .int .i64 f.le, .int .i64 f.mo, .int .i64 f.si, .int .i64 f.ab] rfl rfl (cells_newF _ _) (by simp [Value.oneCell']) (by unfold maxLen; omega) (by omega) (by have := HB.out.size; have := HO.out; have := HR.out.lt; simp; omega) ?_)
          intro v' W4 hown hg _ _
          have HX := Lib.hid (rall_step (f' := { f with pl := -1 }) HB.out HR.out (by omega) (by omega) HO.out hown hg)
          clear hown hg
          go_wp2
          obtain ⟨x1, x2, x3⟩ := HX.out
          obtain ⟨y1, y2⟩ := HG.out
          refine ⟨⟨j + 1, _, rfl, by omega, by go_num, by rw [y1], ?_, Lib.hid x2, Lib.hid x1⟩, by simp only [intOf]; omega⟩
          rw [List.take_add_one, show (FD 3)[j]? = _ from y2]
          exact Lib.hid x3
      · obtain rfl : j = 4 := by omega
        go_wp2
        go_ret
        exact rall_fin (L := FD 3) (n := 4) rfl HO.out HB.out (by omega)
  · go_wp2_with fail
    go_loopw [3, 4, 6] (fun v x iv wr => ∃ (j : Nat) (u : Value), u = v ∧ j ≤ 6 ∧ iv = .int .i64 (j : Int) ∧ x = .int .i64 (nums3 ((raw 4).take j)) ∧ Hid (wr.ownsRow (w.heap.size + 2) 81 7 u j (flat7 ((FD 4).take j))) ∧ Hid (FRow 81 wr (w.heap.size + 1) (raw 4)) ∧ Hid (Below w.heap.size w wr)) (fun _ _ iv _ => 6 - (intOf iv).toNat)
    case atStart => exact ⟨0, _, rfl, by omega, rfl, rfl, Lib.hid (World.ownsRow_nil _ _ _ _), Lib.hid ((by rw [show w.heap.size + 1 = (w.alloc (.cells #[] 81)).heap.size by simp]; exact World.alloc_heap_new _ _)), Lib.hid (((Below.refl _ w).alloc (Nat.le_refl _) _).alloc (by simp) _)⟩
    case round =>
      obtain ⟨j, u, rfl, hj, rfl, rfl, HO, HR, HB⟩ := hrel
      rcases Nat.lt_or_ge j 6 with hlt | hge
      · obtain ⟨f, hf⟩ : ∃ f, (raw 4)[j]? = some f := ⟨_, List.getElem?_eq_getElem (by show j < 6; exact hlt)⟩
        have hs := raw_so 4 f (List.mem_of_getElem? hf)
        obtain ⟨d0, d1, d2, d3, d4, d5, d6⟩ := HR.out.seven hf
        obtain ⟨m, hm⟩ : ∃ m, nums3 ((raw 4).take j) = m := ⟨_, rfl⟩
        have hm2 := nums3_nonneg ((raw 4).take j)
        rw [hm, List.length_take] at hm2
        have ht := nums3_take (raw 4) j f hf
        have hp := pls_get (raw 4) 0 j f hf
        rw [hm] at ht hp
        rw [hm]
        have hmm : 0 ≤ m ∧ m ≤ 6 := by omega
        have HG := Lib.hid (And.intro ht hp)
        have HW := Lib.hid HB.out.size
        clear ht hp hm hm2 hf
        by_cases h3 : f.so < 3
        · rw [if_pos h3, if_pos h3, Int.zero_add] at HG
          go_wp2_with (at_builtin; refine wpList_append_own_at _ rfl (.tmp 67) (.tmp 69) 78 rfl (w.heap.size + 2) 81 f0 _ 7 64 Tryz.underlying78 hf0 hf1 hf2 hf3 rfl (by decide) _ _ _ rfl (own_below7 HO.out (((Below.refl _ wr).alloc (Nat.le_refl _) _).alloc (by simp) _)) ⟨wr.heap.size + 1, 0, none⟩ 1 1 [Value.string f.nm, .int .i64 f.so, .int .i64 m, .int .i64 f.le, .int .i64 f.mo, .int .i64 f.si, .int .i64 f.ab] rfl rfl (cells_newF _ _) (by simp [Value.oneCell']) (by unfold maxLen; omega) (by omega) (by have := HB.out.size; have := HO.out; have := HR.out.lt; simp; omega) ?_)
          intro v' W4 hown hg _ _
          have HX := Lib.hid (rall_step (f' := { f with pl := m }) HB.out HR.out (by omega) (by omega) HO.out hown hg)
          clear hown hg
          go_wp2
          obtain ⟨x1, x2, x3⟩ := HX.out
          obtain ⟨y1, y2⟩ := HG.out
          refine ⟨⟨j + 1, _, rfl, by omega, by go_num, by rw [y1], ?_, Lib.hid x2, Lib.hid x1⟩, by simp only [intOf]; omega⟩
          rw [List.take_add_one, show (FD 4)[j]? = _ from y2]
          exact Lib.hid x3
        · rw [if_neg h3, if_neg h3, Int.add_zero] at HG
          go_wp2_with (at_builtin; refine wpList_append_own_at _ rfl (.tmp 67) (.tmp 69) 78 rfl (w.heap.size + 2) 81 f0 _ 7 64 Tryz.underlying78 hf0 hf1 hf2 hf3 rfl (by decide) _ _ _ rfl (own_below7 HO.out (((Below.refl _ wr).alloc (Nat.le_refl _) _).alloc (by simp) _)) ⟨wr.heap.size + 1, 0, none⟩ 1 1 [Value.string f.nm, .int .i64 f.so, .int .i64 (-1), .int .i64 f.le, .int .i64 f.mo, .int .i64 f.si, .int .i64 f.ab] rfl rfl (cells_newF _ _) (by simp [Value.oneCell']) (by unfold maxLen; omega) (by omega) (by have := HB.out.size; have := HO.out; have := HR.out.lt; simp; omega) ?_)
          intro v' W4 hown hg _ _
          have HX := Lib.hid (rall_step (f' := { f with pl := -1 }) HB.out HR.out (by omega) (by omega) HO.out hown hg)
          clear hown hg
          go_wp2
          obtain ⟨x1, x2, x3⟩ := HX.out
          obtain ⟨y1, y2⟩ := HG.out
          refine ⟨⟨j + 1, _, rfl, by omega, by go_num, by rw [y1], ?_, Lib.hid x2, Lib.hid x1⟩, by simp only [intOf]; omega⟩
          rw [List.take_add_one, show (FD 4)[j]? = _ from y2]
          exact Lib.hid x3
      · obtain rfl : j = 6 := by omega
        go_wp2
        go_ret
        exact rall_fin (L := FD 4) (n := 6) rfl HO.out HB.out (by omega)
  · go_wp2_with fail
    go_loopw [3, 4, 6] (fun v x iv wr => ∃ (j : Nat) (u : Value), u = v ∧ j ≤ 6 ∧ iv = .int .i64 (j : Int) ∧ x = .int .i64 (nums3 ((raw 5).take j)) ∧ Hid (wr.ownsRow (w.heap.size + 2) 81 7 u j (flat7 ((FD 5).take j))) ∧ Hid (FRow 81 wr (w.heap.size + 1) (raw 5)) ∧ Hid (Below w.heap.size w wr)) (fun _ _ iv _ => 6 - (intOf iv).toNat)
    case atStart => exact ⟨0, _, rfl, by omega, rfl, rfl, Lib.hid (World.ownsRow_nil _ _ _ _), Lib.hid ((by rw [show w.heap.size + 1 = (w.alloc (.cells #[] 81)).heap.size by simp]; exact World.alloc_heap_new _ _)), Lib.hid (((Below.refl _ w).alloc (Nat.le_refl _) _).alloc (by simp) _)⟩
    case round =>
      obtain ⟨j, u, rfl, hj, rfl, rfl, HO, HR, HB⟩ := hrel
      rcases Nat.lt_or_ge j 6 with hlt | hge
      · obtain ⟨f, hf⟩ : ∃ f, (raw 5)[j]? = some f := ⟨_, List.getElem?_eq_getElem (by show j < 6; exact hlt)⟩
        have hs := raw_so 5 f (List.mem_of_getElem? hf)
        obtain ⟨d0, d1, d2, d3, d4, d5, d6⟩ := HR.out.seven hf
        obtain ⟨m, hm⟩ : ∃ m, nums3 ((raw 5).take j) = m := ⟨_, rfl⟩
        have hm2 := nums3_nonneg ((raw 5).take j)
        rw [hm, List.length_take] at hm2
        have ht := nums3_take (raw 5) j f hf
        have hp := pls_get (raw 5) 0 j f hf
        rw [hm] at ht hp
        rw [hm]
        have hmm : 0 ≤ m ∧ m ≤ 6 := by omega
        have HG := Lib.hid (And.intro ht hp)
        have HW := Lib.hid HB.out.size
        clear ht hp hm hm2 hf
        by_cases h3 : f.so < 3
        · rw [if_pos h3, if_pos h3, Int.zero_add] at HG
          go_wp2_with (at_builtin; refine wpList_append_own_at _ rfl (.tmp 67) (.tmp 69) 78 rfl (w.heap.size + 2) 81 f0 _ 7 64 Tryz.underlying78 hf0 hf1 hf2 hf3 rfl (by decide) _ _ _ rfl (own_below7 HO.out (((Below.refl _ wr).alloc (Nat.le_refl _) _).alloc (by simp) _)) ⟨wr.heap.size + 1, 0, none⟩ 1 1 [Value.string f.nm, .int .i64 f.so, .int .i64 m, .int .i64 f.le, .int .i64 f.mo, .int .i64 f.si, .int .i64 f.ab] rfl rfl (cells_newF _ _) (by simp [Value.oneCell']) (by unfold maxLen; omega) (by omega) (by have := HB.out.size; have := HO.out; have := HR.out.lt; simp; omega) ?_)
          intro v' W4 hown hg _ _
          have HX := Lib.hid (rall_step (f' := { f with pl := m }) HB.out HR.out (by omega) (by omega) HO.out hown hg)
          clear hown hg
          go_wp2
          obtain ⟨x1, x2, x3⟩ := HX.out
          obtain ⟨y1, y2⟩ := HG.out
          refine ⟨⟨j + 1, _, rfl, by omega, by go_num, by rw [y1], ?_, Lib.hid x2, Lib.hid x1⟩, by simp only [intOf]; omega⟩
          rw [List.take_add_one, show (FD 5)[j]? = _ from y2]
          exact Lib.hid x3
        · rw [if_neg h3, if_neg h3, Int.add_zero] at HG
          go_wp2_with (at_builtin; refine wpList_append_own_at _ rfl (.tmp 67) (.tmp 69) 78 rfl (w.heap.size + 2) 81 f0 _ 7 64 Tryz.underlying78 hf0 hf1 hf2 hf3 rfl (by decide) _ _ _ rfl (own_below7 HO.out (((Below.refl _ wr).alloc (Nat.le_refl _) _).alloc (by simp) _)) ⟨wr.heap.size + 1, 0, none⟩ 1 1 [Value.string f.nm, .int .i64 f.so, .int .i64 (-1), .int .i64 f.le, .int .i64 f.mo, .int .i64 f.si, .int .i64 f.ab] rfl rfl (cells_newF _ _) (by simp [Value.oneCell']) (by unfold maxLen; omega) (by omega) (by have := HB.out.size; have := HO.out; have := HR.out.lt; simp; omega) ?_)
          intro v' W4 hown hg _ _
          have HX := Lib.hid (rall_step (f' := { f with pl := -1 }) HB.out HR.out (by omega) (by omega) HO.out hown hg)
          clear hown hg
          go_wp2
          obtain ⟨x1, x2, x3⟩ := HX.out
          obtain ⟨y1, y2⟩ := HG.out
          refine ⟨⟨j + 1, _, rfl, by omega, by go_num, by rw [y1], ?_, Lib.hid x2, Lib.hid x1⟩, by simp only [intOf]; omega⟩
          rw [List.take_add_one, show (FD 5)[j]? = _ from y2]
          exact Lib.hid x3
      · obtain rfl : j = 6 := by omega
        go_wp2
        go_ret
        exact rall_fin (L := FD 5) (n := 6) rfl HO.out HB.out (by omega)
end Go.Proofs.YtlbfibnfmijahaaGreat

namespace Go.Proofs.YtlbfibnfmijahaaGreat
open Go.RowKit Go.Shelf
set_option maxRecDepth 100000
attribute [local go_sem] Oper.semAt_some

/-- a box B with a list of names, its row at base or above -/
structure Nm (tn ts : TypeId) (B base : Nat) (w4 : World) (l : List ByteArray) (V : World) : Prop where
  box : ∃ u n X, V.heap[B]? = some (.cells #[u] ts (0, 0)) ∧ V.ownsRow base tn 1 u n X ∧ n = l.length ∧ X = l.map Value.string
  off : Off (fun q => q = B) w4 V
section
variable {tn ts tf ti : TypeId} {B base g s n : Nat} {X : List Value} {w4 V V' W4 : World} {l : List ByteArray} {u v' : Value} {o : Obj} {x : ByteArray}
theorem Nm.putObj {q : Nat} {o o' : Obj} (h : Nm tn ts B base w4 l V) (hw : w4.heap.size ≤ q) (ho : V.heap[q]? = some o) (hc : o.isCells = false) : Nm tn ts B base w4 l (V.putObj q o') := by
  obtain ⟨u, n, X, h1, h2, h3⟩ := h.box
  refine ⟨⟨u, n, X, (World.putObj_heap_other (fun e => ?_)).trans h1, ownsRow_putObj h2 _ ho hc, h3⟩, off_below h.off (below_put V o' hw)⟩
  subst e
  rw [h1] at ho
  injection ho with ho
  subst ho
  cases hc
theorem Nm.later (h : Nm tn ts B base w4 l V) (hb : Below V.heap.size V V') : Nm tn ts B base w4 l V' := by
  obtain ⟨u, n, X, h1, h2, h3⟩ := h.box
  exact ⟨⟨u, n, X, (hb.block _ (Array.getElem?_eq_some_iff.1 h1).1).trans h1, own_below7 h2 hb, h3⟩, off_below h.off (hb.mono h.off.size)⟩
theorem Nm.start (h : w4.heap[B]? = some (.cells #[.slice none 0 0] ts (0, 0))) (o1 o2 : Obj) : Nm tn ts B base w4 [] ((w4.alloc o1).alloc o2) :=
  Nm.later (Nm.later (V := w4) ⟨⟨_, 0, [], h, World.ownsRow_nil _ _ _ _, rfl, rfl⟩, Off.refl _ _⟩ ((Below.refl _ w4).alloc (Nat.le_refl _) _)) ((Below.refl _ _).alloc (Nat.le_refl _) _)
theorem Nm.push (hB : B < base) (hbase : w4.heap.size ≤ base) (hBg : B < g) (hf : tn ≠ tf) (hi : tn ≠ ti) (h1 : V.heap[B]? = some (.cells #[u] ts (0, 0))) (h2 : V.ownsRow base tn 1 u n X) (hn : n = l.length) (hX : X = l.map Value.string) (hO : Off (fun q => q = B) w4 V)
    (h4 : W4.ownsRow base tn 1 v' (n + 1) (X ++ [.string x])) (hgr : (V.alloc o).grownBy W4 u.ownBlock) :
    W4.heap[B]? = some (.cells #[u] ts (0, 0)) ∧ Nm tn ts B base w4 (l ++ [x]) (W4.setCell ⟨B, 0, none⟩ v') ∧ KeepsFrom s V (W4.setCell ⟨B, 0, none⟩ v') ∧ KeT tf ti g V (W4.setCell ⟨B, 0, none⟩ v') := by
  have hlt := h2.lt
  have hsz := hgr.size
  rw [World.size_alloc] at hsz
  have hrow : ∀ q, u.ownBlock = some q → ∃ cur, V.heap[q]? = some (.cells cur tn (0, 0)) := fun q e => by
    rcases h2.2 with ⟨rfl, _⟩ | ⟨g, cap, cu, rfl, _, hh, _⟩
    · simp [Value.ownBlock] at e
    · simp only [Value.ownBlock, Option.some.injEq] at e
      subst e
      exact ⟨cu, hh⟩
  have hgq : ∀ q, q < V.heap.size → u.ownBlock ≠ some q → W4.heap[q]? = V.heap[q]? := fun q h6 h7 =>
    (hgr.block q (by rw [World.size_alloc]; omega) (fun e => h7 e.symm)).trans (Below.heap_alloc _ _ q h6)
  have key : ∀ q, q < V.heap.size → q ≠ B → u.ownBlock ≠ some q → (W4.setCell ⟨B, 0, none⟩ v').heap[q]? = V.heap[q]? := fun q h6 h7 h8 => (Below.heap_setCell W4 ⟨B, 0, none⟩ v' q h7).trans (hgq q h6 h8)
  have hBlt := (Array.getElem?_eq_some_iff.1 h1).1
  have b4 : W4.heap[B]? = some (.cells #[u] ts (0, 0)) := (hgq B hBlt (fun e => by have := (hlt B e).1; omega)).trans h1
  have hz : V.heap.size ≤ (W4.setCell ⟨B, 0, none⟩ v').heap.size := by simp only [World.setCell, Array.size_modify]; omega
  refine ⟨b4, ⟨⟨v', _, _, ?_, ownsRow_setCell_below h4 (a := ⟨B, 0, none⟩) hB v', by simp [hn], by simp [hX]⟩, ⟨?_, ?_, ?_, Nat.le_trans hO.size hz, fun q hq hne => ?_⟩⟩, ⟨hz, fun q o2 hs ho hc => ?_⟩, ⟨hz, fun q cs t hq ht hV => ?_⟩⟩
  · rw [setCell_at b4]; rfl
  · exact hgr.os.trans hO.os
  · exact hgr.tape.trans hO.tape
  · exact hgr.output.trans hO.output
  · exact (key q (by have := hO.size; omega) hne (fun e => by have := (hlt q e).1; omega)).trans (hO.block q hq hne)
  · refine (key q (Array.getElem?_eq_some_iff.1 ho).1 (fun e => ?_) (fun e => ?_)).trans ho
    · subst e; rw [h1] at ho; injection ho with ho; subst ho; cases hc
    · obtain ⟨cur, h⟩ := hrow q e; rw [h] at ho; injection ho with ho; subst ho; cases hc
  · refine key q (Array.getElem?_eq_some_iff.1 hV).1 (by omega) (fun e => ?_)
    obtain ⟨cur, h⟩ := hrow q e
    rw [h] at hV
    injection hV with hV
    injection hV with _ ht2
    rcases ht with rfl | rfl
    · exact hf ht2
    · exact hi ht2
end

theorem strInfo : (Tryz.prog.info? 9).map (fun i => (i.zero, i.size, i.bytes)) = some (some (.string ⟨#[]⟩), 1, 16) := by kernel_rfl
theorem FdsIn.seven {lo : Nat} {w : World} {A : Option Addr} {L : List Fd} (h : FdsIn lo w A L) {j : Nat} {f : Fd} (hj : L[j]? = some f) : ∃ g, A = some ⟨g, 0, none⟩ ∧ lo ≤ g ∧ g < w.heap.size ∧
    w.cell? ⟨g, j * 7, none⟩ = some (.string f.nm) ∧ w.cell? ⟨g, j * 7 + 1, none⟩ = some (.int .i64 f.so) ∧ w.cell? ⟨g, j * 7 + 2, none⟩ = some (.int .i64 f.pl) ∧ w.cell? ⟨g, j * 7 + 3, none⟩ = some (.int .i64 f.le) ∧ w.cell? ⟨g, j * 7 + 4, none⟩ = some (.int .i64 f.mo) ∧ w.cell? ⟨g, j * 7 + 5, none⟩ = some (.int .i64 f.si) ∧ w.cell? ⟨g, j * 7 + 6, none⟩ = some (.int .i64 f.ab) := by
  obtain ⟨g, hA, hlo, hlt, hc⟩ := h j f hj
  exact ⟨g, hA, hlo, hlt, hc 0 _ rfl, hc 1 _ rfl, hc 2 _ rfl, hc 3 _ rfl, hc 4 _ rfl, hc 5 _ rfl, hc 6 _ rfl⟩
theorem FdsIn.off {lo : Nat} {S : Nat → Prop} {w w' : World} {A : Option Addr} {L : List Fd} (h : FdsIn lo w A L) (ho : Off S w w') (hS : ∀ k, lo ≤ k → ¬ S k) : FdsIn lo w' A L := fun j f hj => by
  obtain ⟨g, hA, hlo, hlt, hc⟩ := h j f hj
  exact ⟨g, hA, hlo, Nat.lt_of_lt_of_le hlt ho.size, fun q u hq => ho.cell (hc q u hq) (hS g hlo)⟩

end Go.Proofs.YtlbfibnfmijahaaGreat

namespace Go.Proofs.YtlbfibnfmijahaaGreat
open Go.RowKit Go.Shelf
set_option maxRecDepth 100000
attribute [local go_sem] Oper.semAt_some

theorem mgInfo : (Tryz.prog.info? 26).map (·.size) = some 11 := by kernel_rfl
theorem ptInfo : (Tryz.prog.info? 76).map (fun i => (i.zero, i.size, i.bytes)) = some (some (.agg #[.int .i64 0, .int .i64 0]), 2, 16) := by kernel_rfl
theorem i64Info : (Tryz.prog.info? 3).map (fun i => (i.zero, i.size, i.bytes)) = some (some (.int .i64 0), 1, 8) := by kernel_rfl
theorem mg_one (M : Mg) (A1 A2 : Option Addr) (n1 n2 c1 c2 : Nat) : (mC M (.slice A1 n1 c1) (.slice A2 n2 c2)).all (·.oneCell') = true := by simp [mC, Value.oneCell']
theorem mg_block {W : World} {b : Nat} {M : Mg} {P C : Value} {t : TypeId} (h : W.heap[b]? = some (.cells (mC M P C) t (0, 0))) :
    W.cell? ⟨b, 0, none⟩ = some (.int .i64 M.k) ∧ W.cell? ⟨b, 1, none⟩ = some (.int .i64 M.n0) ∧ W.cell? ⟨b, 2, none⟩ = some (.int .i64 M.n1) ∧ W.cell? ⟨b, 3, none⟩ = some (.int .i64 M.n2) ∧ W.cell? ⟨b, 4, none⟩ = some (.int .i64 M.n3) ∧ W.cell? ⟨b, 5, none⟩ = some (.int .i64 M.n4) ∧ W.cell? ⟨b, 6, none⟩ = some (.int .i64 M.n5) ∧
      W.cell? ⟨b, 7, none⟩ = some P ∧ W.cell? ⟨b, 8, none⟩ = some C ∧ W.cell? ⟨b, 9, none⟩ = some (.string M.tx) ∧ W.cell? ⟨b, 10, none⟩ = some (.string M.tg) := by
  simp [World.cell?, h, mC]
theorem own_offM {S : Nat → Prop} {w w' : World} {base size n : Nat} {T : TypeId} {v : Value} {xs : List Value} (h : w.ownsRow base T size v n xs) (hf : Off S w w') (hn : ∀ g, v.ownBlock = some g → ¬ S g) : w'.ownsRow base T size v n xs := by
  refine ⟨h.1, h.2.imp id ?_⟩
  rintro ⟨g, cap, cur, hv, hg, hh, r⟩
  exact ⟨g, cap, cur, hv, hg, (hf.block g (Array.getElem?_eq_some_iff.1 hh).1 (hn g (by rw [hv]; rfl))).trans hh, r⟩
theorem off_grown {w w' : World} (h : w.grownBy w' (Value.slice none 0 0).ownBlock) : Off (fun _ => False) w w' := ⟨h.os, h.tape, h.output, h.size, fun k hk _ => h.block k hk (by simp [Value.ownBlock])⟩
/-- its lists lie in rows that were made at base or above -/
structure MOwn (base : Nat) (w : World) (M : Mg) (P C : Value) : Prop where
  p : w.ownsRow base 76 2 P M.p.length ((fl2 M.p).map (Value.int .i64))
  c : w.ownsRow base 3 1 C M.c.length (M.c.map (Value.int .i64))
section
variable {w w' : World} {base : Nat} {M : Mg} {P C : Value}
theorem MOwn.at (h : MOwn base w M P C) : MAt w w.heap.size M P C := by
  obtain ⟨a, c, h1, h2, h3⟩ := nums_of_own h.p (by omega)
  obtain ⟨a', c', h4, h5, h6⟩ := nums_of_own h.c (by omega)
  exact ⟨⟨a, c, h1, h2, h3⟩, ⟨a', c', h4, h5, h6⟩⟩
theorem MOwn.later (h : MOwn base w M P C) (hb : Below w.heap.size w w') : MOwn base w' M P C := ⟨own_below7 h.p hb, own_below7 h.c hb⟩
/-- blocks that are no row of its lists may turn -/
theorem MOwn.off {S : Nat → Prop} (h : MOwn base w M P C) (hf : Off S w w') (hp : ∀ g, P.ownBlock = some g → ¬ S g) (hc : ∀ g, C.ownBlock = some g → ¬ S g) : MOwn base w' M P C := ⟨own_offM h.p hf hp, own_offM h.c hf hc⟩
theorem MOwn.less {base' : Nat} (h : MOwn base w M P C) (hb : base' ≤ base) : MOwn base' w M P C := by
  refine ⟨⟨h.p.1, h.p.2.imp id ?_⟩, ⟨h.c.1, h.c.2.imp id ?_⟩⟩
  · rintro ⟨g, cap, cur, hv, hg, r⟩
    exact ⟨g, cap, cur, hv, by omega, r⟩
  · rintro ⟨g, cap, cur, hv, hg, r⟩
    exact ⟨g, cap, cur, hv, by omega, r⟩
end
/-- what a call answers that hands back a message in new memory -/
def MR (w : World) (M : Mg) (e : Ending) (w' : World) : Prop := ∃ P C, e = .returned (mV M P C) ∧ MOwn w.heap.size w' M P C ∧ Below w.heap.size w w'

set_option maxHeartbeats 4000000 in
theorem mcopy_any (M : Mg) (P C : Value) (w : World) (hs : Msm M) (h1 : MAt w w.heap.size M P C) : Calls Tryz.prog 31 #[mV M P C] w fun e w' => MR w M e w' := by
  obtain ⟨ip, hip, hzp, hzp1, hzp2⟩ := info_parts ptInfo
  obtain ⟨ii, hii, hzi, hzi1, hzi2⟩ := info_parts i64Info
  obtain ⟨w2, hw2⟩ : ∃ w2, w2 = (w.alloc (.cells (mC M P C) 26)).alloc (.cells (mC (Mg.zero 0) (.slice none 0 0) (.slice none 0 0)) 26) := ⟨_, rfl⟩
  have hs2 : w2.heap.size = w.heap.size + 2 := by rw [hw2]; simp
  have hb2 : Below w.heap.size w w2 := by rw [hw2]; exact ((Below.refl _ w).alloc (Nat.le_refl _) _).alloc (by simp) _
  have q1 : w2.heap[w.heap.size]? = some (.cells (mC M P C) 26 (0, 0)) := by
    rw [hw2, Below.heap_alloc _ _ _ (by simp)]; exact World.alloc_heap_new _ _
  have q2 : w2.heap[w.heap.size + 1]? = some (.cells (mC (Mg.zero 0) (.slice none 0 0) (.slice none 0 0)) 26 (0, 0)) := by
    have := World.alloc_heap_new (w.alloc (.cells (mC M P C) 26)) (.cells (mC (Mg.zero 0) (.slice none 0 0) (.slice none 0 0)) 26)
    rw [World.size_alloc] at this
    rw [hw2]; exact this
  obtain ⟨⟨a, cp, rfl, hcp, ha⟩, ⟨b, cb, rfl, hcb, hb⟩⟩ := h1
  have ha := ha.below hb2
  have hl1 := hs.p
  have hl2 := hs.c
  have hlen := fl2_len M.p
  simp only [mC, Mg.zero] at hw2 q1 q2
  subst hw2
  have HA := Lib.hid ha
  have HB := Lib.hid hb
  have HB2 := Lib.hid hb2
  have HQ := Lib.hid (And.intro q1 q2)
  obtain ⟨np, hnp⟩ : ∃ np, M.p.length = np := ⟨_, rfl⟩
  obtain ⟨nc, hnc⟩ : ∃ nc, M.c.length = nc := ⟨_, rfl⟩
  have HNP := Lib.hid hnp
  have HNC := Lib.hid hnc
  rw [hnp] at hl1 hlen
  rw [hnc] at hl2
  have HL := Lib.hid hlen
  clear ha hb hb2 q1 q2 hs hcp hcb hs2
  unfold MR mV mC
  simp only [hnp, hnc] at HA HB HB2 HQ ⊢
  clear hnp hnc hlen
  go_enter Tryz.func31, Tryz.ntmps31
  go_wp2_with (at_builtin; refine wpList_append_szd (by rfl) (.const (.slice none 0 0)) (.tmp 4) 23 rfl (w.heap.size + 2) 76 ip _ 2 16 Tryz.underlying23 hip hzp hzp1 hzp2 rfl (by decide) .i64 0 [] (fl2 M.p) (.slice none 0 0) rfl (World.ownsRow_nil _ _ _ _) a np cp _ rfl HL.out HA.out (by unfold maxLen; omega) (by omega) (by simp) ?_)
  intro v' W4 hown hgr
  obtain ⟨A', c', rfl, hc', hA'⟩ := nums_of_own hown (by omega)
  have ho4 := off_grown hgr
  have hs4 : w.heap.size + 2 ≤ W4.heap.size := by have := ho4.size; simpa using this
  have q1 := (ho4.block w.heap.size (by simp; omega) id).trans HQ.out.1
  have q2 := (ho4.block (w.heap.size + 1) (by simp) id).trans HQ.out.2
  have hb4 : Below w.heap.size w W4 := HB2.out.trans (ho4.below (fun k hk => hk.elim) (by simp; omega))
  have HV := Lib.hid (hb4.setCell (p := ⟨w.heap.size, 7, none⟩) (Nat.le_refl _) (.slice A' np c'))
  have HO := Lib.hid (ownsRow_setCell_below hown (a := ⟨w.heap.size, 7, none⟩) (by show w.heap.size < _; omega) (.slice A' np c'))
  have HQ1 := Lib.hid (setCell_at (j := 7) (u := .slice A' np c') q1)
  have HQ2 := Lib.hid ((Below.heap_setCell W4 ⟨w.heap.size, 7, none⟩ (.slice A' np c') (w.heap.size + 1) (by show _ ≠ w.heap.size; omega)).trans q2)
  have HSV := Lib.hid (show w.heap.size + 2 ≤ (W4.setCell ⟨w.heap.size, 7, none⟩ (.slice A' np c')).heap.size by simpa [World.setCell] using hs4)
  have HN := Lib.hid (HB.out.below HV.out)
  have e7 := row_cell q1 7 _ rfl
  have e8 := row_cell q1 8 _ rfl
  have z7 := frozen_of_row W4 w.heap.size 7 _ _ q1
  clear hown hgr ho4 q1 q2 hb4 hA' hs4 HQ HB2 HA
  go_wp2_with (at_builtin; refine wpList_append_szd (by rfl) (.const (.slice none 0 0)) (.tmp 8) 24 rfl (w.heap.size + 2) 3 ii _ 1 8 Tryz.underlying24 hii hzi hzi1 hzi2 rfl (by decide) .i64 0 [] M.c (.slice none 0 0) rfl (World.ownsRow_nil _ _ _ _) b nc cb _ rfl (HNC.out.trans (Nat.mul_one nc).symm) HN.out (by unfold maxLen; omega) (by omega) HSV.out ?_)
  intro v' W6 hown hgr
  obtain ⟨B', d', rfl, hd', hB'⟩ := nums_of_own hown (by omega)
  have ho6 := off_grown hgr
  have q1 := (ho6.block w.heap.size (by have := HSV.out; omega) id).trans HQ1.out
  have q2 := (ho6.block (w.heap.size + 1) (by have := HSV.out; omega) id).trans HQ2.out
  have hs6 : w.heap.size + 2 ≤ W6.heap.size := Nat.le_trans HSV.out ho6.size
  have hb6 : Below w.heap.size w W6 := HV.out.trans (ho6.below (fun k hk => hk.elim) (by have := HSV.out; omega))
  have hop := own_offM HO.out ho6 (fun g _ h => h)
  simp only [List.setIfInBounds_toArray, List.set_cons_succ, List.set_cons_zero] at q1
  obtain ⟨W7, hW7⟩ : ∃ W7, W7 = W6.setCell ⟨w.heap.size, 8, none⟩ (.slice B' nc d') := ⟨_, rfl⟩
  have r1 : W7.heap[w.heap.size]? = some (.cells #[.int .i64 M.k, .int .i64 M.n0, .int .i64 M.n1, .int .i64 M.n2, .int .i64 M.n3, .int .i64 M.n4, .int .i64 M.n5, .slice A' np c', .slice B' nc d', .string M.tx, .string M.tg] 26 (0, 0)) := by
    rw [hW7, setCell_at q1]; rfl
  have r2 : W7.heap[w.heap.size + 1]? = some (.cells #[.int .i64 0, .int .i64 0, .int .i64 0, .int .i64 0, .int .i64 0, .int .i64 0, .int .i64 0, .slice none 0 0, .slice none 0 0, .string ⟨#[]⟩, .string ⟨#[]⟩] 26 (0, 0)) := by
    rw [hW7]; exact (Below.heap_setCell W6 ⟨w.heap.size, 8, none⟩ (.slice B' nc d') (w.heap.size + 1) (by show _ ≠ w.heap.size; omega)).trans q2
  have hb7 : Below w.heap.size w W7 := by rw [hW7]; exact hb6.setCell (p := ⟨w.heap.size, 8, none⟩) (Nat.le_refl _) _
  have hop7 : W7.ownsRow (w.heap.size + 2) 76 2 (.slice A' np c') np ((fl2 M.p).map (Value.int .i64)) := by rw [hW7]; exact ownsRow_setCell_below hop (a := ⟨w.heap.size, 8, none⟩) (by show w.heap.size < _; omega) _
  have hoc7 : W7.ownsRow (w.heap.size + 2) 3 1 (.slice B' nc d') nc (M.c.map (Value.int .i64)) := by rw [hW7]; exact ownsRow_setCell_below hown (a := ⟨w.heap.size, 8, none⟩) (by show w.heap.size < _; omega) _
  have e8 := row_cell q1 8 _ rfl
  have z8 := frozen_of_row W6 w.heap.size 8 _ _ q1
  have HW := Lib.hid hW7
  have f := fun j x hx => row_cell r1 j x hx
  have f0 := f 0 _ rfl; have f1 := f 1 _ rfl; have f2 := f 2 _ rfl; have f3 := f 3 _ rfl; have f4 := f 4 _ rfl; have f5 := f 5 _ rfl
  have f6 := f 6 _ rfl; have f7 := f 7 _ rfl; have f8 := f 8 _ rfl; have f9 := f 9 _ rfl; have f10 := f 10 _ rfl
  rw [hW7] at f0 f1 f2 f3 f4 f5 f6 f7 f8 f9 f10
  have HR2 := Lib.hid (hW7 ▸ r2)
  clear f hW7 q1 q2 hown hgr ho6 hop hb6 hs6 hB' HV HO HQ1 HQ2 HSV HN HB
  go_wp2_with (refine wpList_store_row rfl 26 (.tmp 2) (.tmp 11) rfl (w.heap.size + 1) #[.int .i64 M.k, .int .i64 M.n0, .int .i64 M.n1, .int .i64 M.n2, .int .i64 M.n3, .int .i64 M.n4, .int .i64 M.n5, .slice A' np c', .slice B' nc d', .string M.tx, .string M.tg] rfl rfl 26 _ HR2.out mgInfo rfl (by simp [Value.oneCell']) ?_)
  rw [← HW.out]
  have hfin := setRow_heap W7 (w.heap.size + 1) _ #[.int .i64 M.k, .int .i64 M.n0, .int .i64 M.n1, .int .i64 M.n2, .int .i64 M.n3, .int .i64 M.n4, .int .i64 M.n5, .slice A' np c', .slice B' nc d', .string M.tx, .string M.tg] _ _ r2
  have hoff := Off.setRow (S := fun k => k = w.heap.size + 1) (Off.refl _ W7) rfl #[.int .i64 M.k, .int .i64 M.n0, .int .i64 M.n1, .int .i64 M.n2, .int .i64 M.n3, .int .i64 M.n4, .int .i64 M.n5, .slice A' np c', .slice B' nc d', .string M.tx, .string M.tg]
  have hbf := hb7.trans (hoff.below (B := w.heap.size) (fun k hk => by omega) hb7.size)
  have hpf := own_offM hop7 hoff (fun g hg e => by have := (hop7.lt g hg).1; omega)
  have hcf := own_offM hoc7 hoff (fun g hg e => by have := (hoc7.lt g hg).1; omega)
  generalize W7.setRow (w.heap.size + 1) _ = Wf at *
  have f := fun j x hx => row_cell hfin j x hx
  have y0 := f 0 _ rfl; have y1 := f 1 _ rfl; have y2 := f 2 _ rfl; have y3 := f 3 _ rfl; have y4 := f 4 _ rfl; have y5 := f 5 _ rfl
  have y6 := f 6 _ rfl; have y7 := f 7 _ rfl; have y8 := f 8 _ rfl; have y9 := f 9 _ rfl; have y10 := f 10 _ rfl
  refine bodyPost_ret (v := .agg #[.int .i64 M.k, .int .i64 M.n0, .int .i64 M.n1, .int .i64 M.n2, .int .i64 M.n3, .int .i64 M.n4, .int .i64 M.n5, .slice A' np c', .slice B' nc d', .string M.tx, .string M.tg]) (by simp [results, Tryz.results31, go_sem, y0, y1, y2, y3, y4, y5, y6, y7, y8, y9, y10]) rfl ?_
  refine ⟨_, _, rfl, MOwn.less (base := w.heap.size + 2) ⟨?_, ?_⟩ (by omega), hbf⟩
  · rw [HNP.out]; exact hpf
  · rw [HNC.out]; exact hcf
end Go.Proofs.YtlbfibnfmijahaaGreat

namespace Go.Proofs.YtlbfibnfmijahaaGreat
open Go.RowKit Go.Shelf
set_option maxRecDepth 100000
attribute [local go_sem] Oper.semAt_some

end Go.Proofs.YtlbfibnfmijahaaGreat

namespace Go.Proofs.YtlbfibnfmijahaaGreat
open Go.RowKit Go.Shelf
set_option maxRecDepth 100000
attribute [local go_sem] Oper.semAt_some

theorem mC_put {j : Nat} (hj : j < 6) (M : Mg) (P C : Value) (v : Int) : (mC M P C).setIfInBounds (1 + j) (.int .i64 v) = mC (M.put j v) P C := by
  rcases j with _ | _ | _ | _ | _ | _ | j <;> first | rfl | omega
theorem mC_at {j : Nat} (hj : j < 6) (M : Mg) (P C : Value) : (mC M P C)[1 + j]? = some (.int .i64 (M.at' j)) := by
  rcases j with _ | _ | _ | _ | _ | _ | j <;> first | rfl | omega
theorem mg_at {W : World} {b : Nat} {M : Mg} {P C : Value} {t : TypeId} (h : W.heap[b]? = some (.cells (mC M P C) t (0, 0))) {j : Nat} (hj : j < 6) : W.cell? ⟨b, 1 + j, none⟩ = some (.int .i64 (M.at' j)) := row_cell h _ _ (mC_at hj M P C)
end Go.Proofs.YtlbfibnfmijahaaGreat
