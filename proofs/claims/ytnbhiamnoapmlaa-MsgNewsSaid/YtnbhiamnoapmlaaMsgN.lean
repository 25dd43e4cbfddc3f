/-
  Messages as the document says them: what is wrong with one, what a version makes of it, new ones. No program is called.
-/
import Derived.Test.YtnbhiamnoapmlaaFldN
namespace Go.Proofs.Ytnbhiamnoapmlaa
open Go.RowKit
set_option maxRecDepth 100000

structure Mg where
  k : Int
  n0 : Int
  n1 : Int
  n2 : Int
  n3 : Int
  n4 : Int
  n5 : Int
  p : List (Int × Int)
  c : List Int
  tx : ByteArray
  tg : ByteArray
theorem Mg.ext_iff' (a b : Mg) : (a.k = b.k ∧ a.n0 = b.n0 ∧ a.n1 = b.n1 ∧ a.n2 = b.n2 ∧ a.n3 = b.n3 ∧ a.n4 = b.n4 ∧ a.n5 = b.n5 ∧ a.p = b.p ∧ a.c = b.c ∧ a.tx = b.tx ∧ a.tg = b.tg) ↔ a = b := by
  cases a; cases b; simp
instance mgDec : DecidableEq Mg := fun a b => decidable_of_iff _ (Mg.ext_iff' a b)
namespace Mg
/-- the zero message, of a kind -/
def zero (k : Int) : Mg := ⟨k, 0, 0, 0, 0, 0, 0, [], [], ⟨#[]⟩, ⟨#[]⟩⟩
/-- the number at a place -/
def at' (M : Mg) : Nat → Int
  | 0 => M.n0
  | 1 => M.n1
  | 2 => M.n2
  | 3 => M.n3
  | 4 => M.n4
  | 5 => M.n5
  | _ => 0
/-- with another number at a place -/
def put (M : Mg) (j : Nat) (v : Int) : Mg :=
  match j with
  | 0 => { M with n0 := v }
  | 1 => { M with n1 := v }
  | 2 => { M with n2 := v }
  | 3 => { M with n3 := v }
  | 4 => { M with n4 := v }
  | 5 => { M with n5 := v }
  | _ => M
theorem put_k (M : Mg) (j : Nat) (v : Int) : (M.put j v).k = M.k := by unfold put; split <;> rfl
theorem put_p (M : Mg) (j : Nat) (v : Int) : (M.put j v).p = M.p := by unfold put; split <;> rfl
theorem put_c (M : Mg) (j : Nat) (v : Int) : (M.put j v).c = M.c := by unfold put; split <;> rfl
theorem put_tx (M : Mg) (j : Nat) (v : Int) : (M.put j v).tx = M.tx := by unfold put; split <;> rfl
theorem put_tg (M : Mg) (j : Nat) (v : Int) : (M.put j v).tg = M.tg := by unfold put; split <;> rfl
theorem put_at {j : Nat} (hj : j < 6) (M : Mg) (v : Int) : (M.put j v).at' j = v := by
  rcases j with _ | _ | _ | _ | _ | _ | j <;> first | rfl | omega
theorem put_at_ne {i j : Nat} (h : i ≠ j) (M : Mg) (v : Int) : (M.put j v).at' i = M.at' i := by
  rcases j with _ | _ | _ | _ | _ | _ | j <;> rcases i with _ | _ | _ | _ | _ | _ | i <;> first | rfl | omega
end Mg

/-! ### what is wrong -/
def wN (n le mo : Int) : Int := if n < le ∨ mo < n then 5 else 0
def wS (n mo : Int) : Int := if n = 0 then 13 else if mo < n then 6 else 0
def ptOk (q : Int × Int) : Prop := -1000000 ≤ q.1 ∧ q.1 ≤ 1000000 ∧ -1000000 ≤ q.2 ∧ q.2 ≤ 1000000
instance ptOkDec (q : Int × Int) : Decidable (ptOk q) := by unfold ptOk; infer_instance
def wP (l : List (Int × Int)) (mo : Int) : Int := if wS l.length mo ≠ 0 then wS l.length mo else if ∀ q ∈ l, ptOk q then 0 else 5
/-- of cells behind one -/
def cE : Int → List Int → Int
  | _, [] => 0
  | a, c :: r => if c < 0 ∨ 65535 < c then 5 else if c ≤ a then 3 else cE c r
def wC (l : List Int) (mo : Int) : Int := if wS l.length mo ≠ 0 then wS l.length mo else cE (-1) l
def byOk (b : UInt8) : Prop := 32 ≤ b.toNat ∧ b.toNat ≤ 126
instance byOkDec (b : UInt8) : Decidable (byOk b) := by unfold byOk; infer_instance
def wT (s : ByteArray) (mo : Int) : Int := if mo < (s.size : Int) then 6 else if ∀ b ∈ s.data.toList, byOk b then 0 else 19
/-- .. with one field -/
def fE (M : Mg) (f : Fd) : Int :=
  if f.so = 3 then wP M.p f.mo else if f.so = 4 then wC M.c f.mo else if f.so = 5 then wT M.tx f.mo else if f.so = 6 then wT M.tg f.mo else wN (M.at' f.pl.toNat) f.le f.mo
/-- without a field -/
def strip (M : Mg) (f : Fd) : Mg :=
  if f.so = 3 then { M with p := [] } else if f.so = 4 then { M with c := [] } else if f.so = 5 then { M with tx := ⟨#[]⟩ } else if f.so = 6 then { M with tg := ⟨#[]⟩ } else M.put f.pl.toNat 0
def firstE (M : Mg) : List Fd → Int
  | [] => 0
  | f :: r => if fE M f ≠ 0 then fE M f else firstE M r
/-- .. with a message -/
def mck (M : Mg) : Int := if FD M.k = [] then 9 else if firstE M (FD M.k) ≠ 0 then firstE M (FD M.k) else if (FD M.k).foldl strip M = Mg.zero M.k then 0 else 3

/-- a field since version 2, in version 1 -/
def prj (M : Mg) (f : Fd) : Mg := if f.si ≤ 1 then M else if f.so = 6 then { M with tg := ⟨#[]⟩ } else if 0 ≤ f.pl then M.put f.pl.toNat f.ab else M
def mproj (M : Mg) (v : Int) : Mg := if v = 1 then (FD M.k).foldl prj M else M
def startV (f : Fd) : Int := if 1 < f.si then f.ab else max f.le 0
def nw (k : Int) (M : Mg) (f : Fd) : Mg :=
  let M := { M with k := k }
  if f.so = 3 then { M with p := [(0, 0)] } else if f.so = 4 then { M with c := [0] } else if f.so = 1 ∨ f.so = 2 then M.put f.pl.toNat (startV f) else M
def mnew (k : Int) : Mg := (FD k).foldl (nw k) (Mg.zero 0)

/-! ### two fields of one kind are apart -/
def apartF (f g : Fd) : Prop := f.so ≠ g.so ∨ (f.so ≠ 3 ∧ f.so ≠ 4 ∧ f.so ≠ 5 ∧ f.so ≠ 6 ∧ f.pl.toNat ≠ g.pl.toNat)
theorem fE_strip {f g : Fd} (h : apartF f g) (h2 : f.so < 3 → g.so < 3 → f.pl.toNat ≠ g.pl.toNat) (M : Mg) (hf : 1 ≤ f.so ∧ f.so ≤ 6) (hg : 1 ≤ g.so ∧ g.so ≤ 6) : fE (strip M f) g = fE M g := by
  unfold fE strip
  have hf' : f.so = 1 ∨ f.so = 2 ∨ f.so = 3 ∨ f.so = 4 ∨ f.so = 5 ∨ f.so = 6 := by omega
  have hg' : g.so = 1 ∨ g.so = 2 ∨ g.so = 3 ∨ g.so = 4 ∨ g.so = 5 ∨ g.so = 6 := by omega
  unfold apartF at h
  rcases hf' with e | e | e | e | e | e <;> rcases hg' with e' | e' | e' | e' | e' | e' <;> simp [e, e', Mg.put_p, Mg.put_c, Mg.put_tx, Mg.put_tg] at h h2 ⊢
  all_goals first
    | (rw [Mg.put_at_ne (fun x => h2 x.symm)])
    | (unfold Mg.at'; split <;> rfl)
end Go.Proofs.Ytnbhiamnoapmlaa
