/-
  Fields as the document says them: the lists of the five kinds, their words. No program is called.
-/
import Derived.Test.YtnbhiamnoapmlaaRow
import Derived.Laws.Strings
namespace Go.Proofs.Ytnbhiamnoapmlaa
open Go.RowKit
set_option maxRecDepth 100000

structure Fd where
  nm : ByteArray
  so : Int
  pl : Int
  le : Int
  mo : Int
  si : Int
  ab : Int
def Fd.cs (f : Fd) : Array Value := #[.string f.nm, .int .i64 f.so, .int .i64 f.pl, .int .i64 f.le, .int .i64 f.mo, .int .i64 f.si, .int .i64 f.ab]
def Fd.v (f : Fd) : Value := .agg f.cs
def Fd.zero : Fd := ⟨⟨#[]⟩, 0, 0, 0, 0, 0, 0⟩
/-- each with its place -/
def pls : List Fd → Int → List Fd
  | [], _ => []
  | f :: r, p => if f.so < 3 then { f with pl := p } :: pls r (p + 1) else { f with pl := -1 } :: pls r p
/-- how many numbers are there -/
def nums3 : List Fd → Int
  | [] => 0
  | f :: r => (if f.so < 3 then 1 else 0) + nums3 r
def raw (k : Int) : List Fd :=
  if k = 1 then [⟨⟨#[114, 111, 98, 111, 116]⟩, 1, 0, 0, 65535, 1, 0⟩, ⟨⟨#[115, 112, 101, 101, 100]⟩, 1, 0, 1, 5000, 1, 0⟩, ⟨⟨#[97, 99, 99, 101, 108]⟩, 1, 0, 1, 10000, 2, 500⟩, ⟨⟨#[112, 97, 116, 104]⟩, 3, 0, 1, 16, 1, 0⟩, ⟨⟨#[116, 97, 103]⟩, 6, 0, 0, 16, 2, 0⟩]
  else if k = 2 then [⟨⟨#[114, 111, 98, 111, 116]⟩, 1, 0, 0, 65535, 1, 0⟩, ⟨⟨#[114, 101, 97, 115, 111, 110]⟩, 1, 0, 0, 15, 1, 0⟩, ⟨⟨#[122, 111, 110, 101]⟩, 1, 0, 0, 4095, 2, 0⟩]
  else if k = 3 then [⟨⟨#[114, 111, 98, 111, 116]⟩, 1, 0, 0, 65535, 1, 0⟩, ⟨⟨#[122, 111, 110, 101]⟩, 1, 0, 0, 4095, 1, 0⟩, ⟨⟨#[108, 101, 97, 115, 101]⟩, 1, 0, 1, 255, 2, 1⟩, ⟨⟨#[99, 101, 108, 108, 115]⟩, 4, 0, 1, 32, 1, 0⟩]
  else if k = 4 then [⟨⟨#[114, 111, 98, 111, 116]⟩, 1, 0, 0, 65535, 1, 0⟩, ⟨⟨#[120]⟩, 2, 0, -1000000, 1000000, 1, 0⟩, ⟨⟨#[121]⟩, 2, 0, -1000000, 1000000, 1, 0⟩, ⟨⟨#[104, 101, 97, 100, 105, 110, 103]⟩, 1, 0, 0, 35999, 1, 0⟩, ⟨⟨#[98, 97, 116, 116, 101, 114, 121]⟩, 1, 0, 0, 1000, 1, 0⟩, ⟨⟨#[115, 117, 114, 101]⟩, 1, 0, 0, 100, 2, 100⟩]
  else if k = 5 then [⟨⟨#[114, 111, 98, 111, 116]⟩, 1, 0, 0, 65535, 1, 0⟩, ⟨⟨#[99, 111, 100, 101]⟩, 1, 0, 1, 9999, 1, 0⟩, ⟨⟨#[115, 101, 118, 101, 114, 105, 116, 121]⟩, 1, 0, 0, 4, 1, 0⟩, ⟨⟨#[112, 97, 114, 116]⟩, 1, 0, 0, 255, 2, 0⟩, ⟨⟨#[116, 105, 109, 101, 115]⟩, 1, 0, 1, 1000000, 2, 1⟩, ⟨⟨#[116, 101, 120, 116]⟩, 5, 0, 0, 64, 1, 0⟩]
  else []
def FD (k : Int) : List Fd := pls (raw k) 0
/-- a kind's word -/
def wd (k : Int) : ByteArray :=
  if k = 1 then ⟨#[109, 111, 118, 101]⟩ else if k = 2 then ⟨#[104, 111, 108, 100]⟩ else if k = 3 then ⟨#[103, 114, 97, 110, 116]⟩ else if k = 4 then ⟨#[112, 111, 115, 101]⟩ else if k = 5 then ⟨#[102, 97, 117, 108, 116]⟩ else ⟨#[]⟩

theorem str_ne {x y : ByteArray} (h : x ≠ y) : (x.toList == y.toList) = false := by
  have h1 : x.toList ≠ y.toList := fun e => h (by
    rw [ByteArray.toList_eq, ByteArray.toList_eq] at e
    cases x with | mk a => cases y with | mk b => (simp only [ByteArray.mk.injEq]; exact Array.toList_inj.1 e))
  simpa using h1
theorem str_of {x y : ByteArray} (h : (x.toList == y.toList) = true) : x = y := by
  rw [ByteArray.toList_eq, ByteArray.toList_eq] at h
  have h1 : x.data.toList = y.data.toList := by simpa using h
  cases x with | mk a => cases y with | mk b => (simp only [ByteArray.mk.injEq]; exact Array.toList_inj.1 h1)
theorem str_nil {x : ByteArray} (h : x ≠ ⟨#[]⟩) : x.toList ≠ [] := fun e => h (by
  rw [ByteArray.toList_eq] at e
  cases x with | mk a => (simp only [ByteArray.mk.injEq]; exact Array.toList_inj.1 (by simpa using e)))
theorem str_beq {x y : ByteArray} (h : x ≠ y) : (x == y) = false := by
  rcases hb : (x == y) with _ | _
  · rfl
  · exact absurd (by cases x with | mk a => cases y with | mk b => exact congrArg ByteArray.mk (eq_of_beq (show (a == b) = true from hb))) h
theorem str_self (x : ByteArray) : (x == x) = true := by
  cases x with | mk a => exact beq_self_eq_true a
theorem pls_len : ∀ (l : List Fd) (p : Int), (pls l p).length = l.length
  | [], _ => rfl
  | f :: r, p => by
    rw [pls]
    split <;> simp [pls_len r]
theorem raw_so (k : Int) : ∀ f ∈ raw k, 1 ≤ f.so ∧ f.so ≤ 6 := by
  unfold raw
  repeat' split
  all_goals simp
theorem raw_few (k : Int) : (raw k).length ≤ 6 := by
  unfold raw
  repeat' split
  all_goals simp
theorem nums3_nonneg : ∀ (l : List Fd), 0 ≤ nums3 l ∧ nums3 l ≤ l.length
  | [] => ⟨Int.le_refl _, Int.le_refl _⟩
  | f :: r => by
    have := nums3_nonneg r
    rw [nums3, List.length_cons]
    split <;> omega
theorem nums3_take : ∀ (l : List Fd) (i : Nat) (f : Fd), l[i]? = some f → nums3 (l.take (i + 1)) = nums3 (l.take i) + (if f.so < 3 then 1 else 0)
  | [], _, _, h => by simp at h
  | g :: r, 0, f, h => by
    simp only [List.getElem?_cons_zero, Option.some.injEq] at h
    subst h
    simp [nums3]
  | g :: r, i + 1, f, h => by
    rw [List.take_succ_cons, List.take_succ_cons, nums3, nums3, nums3_take r i f (by simpa using h)]
    omega
/-- the i-th with its place -/
theorem pls_get : ∀ (l : List Fd) (p : Int) (i : Nat) (f : Fd), l[i]? = some f → (pls l p)[i]? = some { f with pl := if f.so < 3 then p + nums3 (l.take i) else -1 }
  | [], _, _, _, h => by simp at h
  | g :: r, p, 0, f, h => by
    simp only [List.getElem?_cons_zero, Option.some.injEq] at h
    subst h
    rw [pls]
    split <;> simp [nums3, *]
  | g :: r, p, i + 1, f, h => by
    have h' : r[i]? = some f := by simpa using h
    rw [pls, List.take_succ_cons, nums3]
    split
    · rw [List.getElem?_cons_succ, pls_get r (p + 1) i f h']
      split <;> simp <;> omega
    · rw [List.getElem?_cons_succ, pls_get r p i f h']
      simp
end Go.Proofs.Ytnbhiamnoapmlaa
