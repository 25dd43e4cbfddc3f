/-
  A part of the texts of one proof, put together: TabQ, CutN, CutC, KpA, FrM, SloU, RhC, FrCt, OfF, Q12, Q14, SloL2, TabL2, SloO, CutD, TabV, CutG, CutP, ScN, FenR, ScM, ScP, ScE, ScI, ScV, CutK.
-/
import Derived.Maps.AppendAt
import Derived.Test.YtloncplpjdekoaaRows
import Derived.WalkLawsBesides
import Derived.WalkMore
import Derived.Lib.Hide
import Derived.Lib.MinMax
import Derived.Deep.Slices
import Derived.Laws.MakeOwn
import Derived.Laws.OwnMore
import Derived.WalkSpells
import Derived.RangeFuncBound
import Derived.RangeFuncCalls
import Derived.RangeFuncLeaves
import Derived.Shelf.Abstract
import Derived.Shelf.RegionOpen
import Derived.OwnWalkIn
import Derived.TacticsInMore
import Derived.LoopNIn
import Derived.LoopIn
import Derived.Test.YtloncplpjdekoaaMB5
namespace Go.Proofs.Ytloncplpjdekoaa
open Go.RowKit
namespace Sl
theorem cat_more (C : Ct) (i : Nat) (x : List Int) (h : has C i = false) : ∀ n : Nat, (cat ((i, x) :: C) n).length = (if i < n then x.length else 0) + (cat C n).length
  | 0 => by simp [cat]
  | n + 1 => by
    have ih := cat_more C i x h n
    rw [cat_succ, cat_succ, List.length_append, List.length_append, ih]
    by_cases hi : i = n
    · subst hi
      have h1 : at' ((i, x) :: C) i = x := by simp [at']
      rw [h1, at_none h, if_neg (by omega), if_pos (by omega)]
      simp
      omega
    · have h1 : at' ((i, x) :: C) n = at' C n := by
        unfold at'
        rw [List.find?_cons_of_neg (by simpa using hi)]
      rw [h1]
      by_cases hlt : i < n
      · rw [if_pos hlt, if_pos (by omega)]
        omega
      · rw [if_neg hlt, if_neg (by omega)]
        omega
theorem cat_tot : ∀ {C : Ct} {n : Nat}, Keys C → (∀ p ∈ C, p.1 < n) → (cat C n).length = tot C
  | [], n, _, _ => by
    unfold cat
    induction n with
    | zero => simp [tot]
    | succ n ih => rw [List.range_succ, List.flatMap_append, List.length_append, ih (by simp)]; simp [at', tot]
  | (i, x) :: C, n, hk, hf => by
    unfold Keys at hk
    rw [List.map_cons, List.nodup_cons] at hk
    have hno : has C i = false := by
      cases h : has C i with
      | false => rfl
      | true => exact absurd (has_iff.1 h) hk.1
    rw [cat_more C i x hno n, if_pos (hf (i, x) (by simp)), cat_tot hk.2 fun p hp => hf p (List.mem_cons_of_mem _ hp)]
    simp [tot]
end Sl
namespace Tb
/-- what each message of a table has -/
def Good (x : Ms) : Prop := Sl.Keys x.C ∧ (∀ p ∈ x.C, (p.1 : Int) < x.c) ∧ Sl.tot x.C ≤ 192
theorem Good.cat {x : Ms} (h : Good x) (hf : (x.C.length : Int) = x.c) : (Sl.cat x.C x.C.length).length ≤ 192 := by
  rw [Sl.cat_tot h.1 fun p hp => by have := h.2.1 p hp; omega]
  exact h.2.2
theorem Good.push {x : Ms} {f : Fr} (h : Good x) (he : x.err f = 0) : Good (x.push f) := by
  obtain ⟨_, h1, h2, _, h4, h5⟩ := sErr_zero he
  refine ⟨?_, fun p hp => ?_, ?_⟩
  · unfold Sl.Keys
    show ((x.C ++ [f.ct]).map Prod.fst).Nodup
    rw [List.map_append, List.nodup_append]
    refine ⟨h.1, by simp, fun a ha b hb e => ?_⟩
    have hb' : b = f.i.toNat := by simpa [Fr.ct] using hb
    rw [e, hb'] at ha
    rw [Sl.has_iff.2 ha] at h4
    cases h4
  · rcases List.mem_append.1 hp with hp | hp
    · exact h.2.1 p hp
    · obtain rfl := List.mem_singleton.1 hp
      show ((f.i.toNat : Nat) : Int) < x.c
      omega
  · show Sl.tot (x.C ++ [f.ct]) ≤ 192
    rw [Sl.tot_push]
    exact h5
section
variable {r : Nat} {T : List Ms} {f : Fr}
theorem came_zs {T : List Ms} {n : Int} {ev : Bool} {old : Int} (h : ∀ x ∈ T, Good x) : (came T n ev old).2.zs.length ≤ 192 := by
  cases hx : find T n with
  | none => unfold came; rw [hx]; simp
  | some x =>
    by_cases hf : (x.C.length : Int) = x.c
    · rw [came_full hx hf]
      exact (h x (find_mem hx).1).cat hf
    · rw [came_part hx hf]
      simp
theorem came_ev {T : List Ms} {n : Int} {ev : Bool} {old : Int} : (came T n ev old).2.ev = ev := by
  cases hx : find T n with
  | none => unfold came; rw [hx]
  | some x =>
    by_cases hf : (x.C.length : Int) = x.c
    · rw [came_full hx hf]
    · rw [came_part hx hf]
theorem good_new (f : Fr) : Good (Ms.new f) := ⟨by simp [Sl.Keys, Ms.new], fun p hp => (by cases hp), by simp [Ms.new, Sl.tot]⟩
/-- never more than a message's bytes -/
theorem put_zs (hk : (nums T).Nodup) (h : ∀ x ∈ T, Good x) : (put r T f).o.zs.length ≤ 192 := by
  by_cases h1 : chk f.v f.k f.i f.c = 0
  · by_cases h2 : f.zs = []
    · rw [put_short h1 h2]; simp [Out.no]
    · cases hx : find T f.s with
      | some x =>
        rw [put_there h1 h2 hx]
        by_cases he : x.err f = 0
        · rw [if_neg (by simpa using he)]
          refine came_zs fun y hy => ?_
          obtain ⟨z, hz, e⟩ := List.mem_map.1 hy
          by_cases hs : z.s = f.s
          · rw [if_pos hs] at e
            subst e
            have hzx := find_of hk hz
            rw [hs, hx] at hzx
            injection hzx with hzx
            subst hzx
            exact (h _ hz).push he
          · rw [if_neg hs] at e
            subst e
            exact h z hz
        · rw [if_pos he]; simp [Out.no]
      | none =>
        rw [put_new h1 h2 hx]
        by_cases he : (Ms.new f).err f = 0
        · rw [if_neg (by simpa using he)]
          have hp : Good ((Ms.new f).push f) := (good_new f).push he
          split
          · split
            · refine came_zs fun y hy => ?_
              rcases List.mem_append.1 hy with hy | hy
              · exact h y (List.mem_filter.1 hy).1
              · obtain rfl := List.mem_singleton.1 hy
                exact hp
            · simp [Out.no]
          · refine came_zs fun y hy => ?_
            rcases List.mem_append.1 hy with hy | hy
            · exact h y hy
            · obtain rfl := List.mem_singleton.1 hy
              exact hp
        · rw [if_pos he]; simp [Out.no]
  · rw [put_head h1]; simp [Out.no]
/-- a slot goes of a full table alone -/
theorem put_ev (h : (put r T f).o.ev = true) : T.length = r := by
  by_cases h1 : chk f.v f.k f.i f.c = 0
  · by_cases h2 : f.zs = []
    · rw [put_short h1 h2] at h; cases h
    · cases hx : find T f.s with
      | some x =>
        rw [put_there h1 h2 hx] at h
        split at h
        · cases h
        · rw [show (Res.ok (came (put1 T f) f.s false 0)).o.ev = (came (put1 T f) f.s false 0).2.ev from rfl, came_ev] at h; cases h
      | none =>
        rw [put_new h1 h2 hx] at h
        split at h
        · cases h
        · split at h
          · rename_i hr; exact hr
          · rw [show (Res.ok (came (T ++ [(Ms.new f).push f]) f.s false 0)).o.ev = (came (T ++ [(Ms.new f).push f]) f.s false 0).2.ev from rfl, came_ev] at h; cases h
  · rw [put_head h1] at h; cases h
/-- a refused frame changes nothing -/
theorem put_err (h : (put r T f).e ≠ 0) : (put r T f).T = T ∧ (put r T f).o = Out.no := by
  by_cases h1 : chk f.v f.k f.i f.c = 0
  · by_cases h2 : f.zs = []
    · rw [put_short h1 h2]; exact ⟨rfl, rfl⟩
    · cases hx : find T f.s with
      | some x =>
        rw [put_there h1 h2 hx] at h ⊢
        split at h
        · rename_i he; rw [if_pos he]; exact ⟨rfl, rfl⟩
        · exact absurd rfl h
      | none =>
        rw [put_new h1 h2 hx] at h ⊢
        split at h
        · rename_i he; rw [if_pos he]; exact ⟨rfl, rfl⟩
        · rename_i he
          rw [if_neg he]
          split at h
          · rename_i hr
            rw [if_pos hr]
            split at h
            · exact absurd rfl h
            · rename_i ha; rw [if_neg ha]; exact ⟨rfl, rfl⟩
          · exact absurd rfl h
  · rw [put_head h1]; exact ⟨rfl, rfl⟩
end
end Tb
end Go.Proofs.Ytloncplpjdekoaa

namespace Go.Proofs.Ytloncplpjdekoaa
open Go.RowKit
set_option maxRecDepth 100000

namespace Ct
/-- how many parts n bytes have by a room -/
def cnt (n r : Nat) : Nat := (n + r - 1) / r
/-- the part at a place -/
def part (zs : List Int) (r j : Nat) : List Int := (zs.drop (j * r)).take r
theorem lt_cnt {n r j : Nat} (hr : 1 ≤ r) : j < cnt n r ↔ j * r < n := by
  unfold cnt
  have h := Nat.le_div_iff_mul_le (k0 := hr) (x := j + 1) (y := n + r - 1)
  rw [Nat.add_mul, Nat.one_mul] at h
  constructor
  · intro hj
    have := h.1 hj
    omega
  · intro hj
    exact h.2 (by omega)
theorem cnt_zero (r : Nat) : cnt 0 r = 0 := by
  rcases Nat.eq_zero_or_pos r with rfl | h
  · simp [cnt]
  · unfold cnt; rw [Nat.zero_add, Nat.div_eq_of_lt (by omega)]
theorem cnt_pos {n r : Nat} (hr : 1 ≤ r) (hn : 1 ≤ n) : 1 ≤ cnt n r := (lt_cnt (n := n) (j := 0) hr).2 (by omega)
theorem cnt_le {n r : Nat} (hr : 1 ≤ r) : cnt n r ≤ n := by
  rcases Nat.lt_or_ge n (cnt n r) with h | h
  · have := (lt_cnt hr).1 h
    have h2 : n * 1 ≤ n * r := Nat.mul_le_mul_left n hr
    omega
  · exact h
theorem cnt_anti {n r r' : Nat} (hr : 1 ≤ r) (h : r ≤ r') : cnt n r' ≤ cnt n r := by
  rcases Nat.lt_or_ge (cnt n r) (cnt n r') with h1 | h1
  · have h2 := (lt_cnt (by omega : 1 ≤ r')).1 h1
    have h3 : cnt n r * r ≤ cnt n r * r' := Nat.mul_le_mul_left _ h
    have := (lt_cnt (n := n) hr).2 (by omega : cnt n r * r < n)
    omega
  · exact h1
theorem cnt_end {n r : Nat} (hr : 1 ≤ r) : n ≤ cnt n r * r := by
  rcases Nat.lt_or_ge (cnt n r * r) n with h | h
  · have := (lt_cnt hr).2 h; omega
  · exact h
theorem cnt_div {n r : Nat} (hr : 1 ≤ r) (hn : 1 ≤ n) : (n - 1) / r + 1 = cnt n r := by
  unfold cnt
  rw [show n + r - 1 = (n - 1) + r by omega, Nat.add_div_right _ hr]
theorem part_len (zs : List Int) (r j : Nat) : (part zs r j).length = min r (zs.length - j * r) := by
  unfold part; rw [List.length_take, List.length_drop]
theorem part_mem {zs : List Int} {r j : Nat} {z : Int} (h : z ∈ part zs r j) : z ∈ zs := List.mem_of_mem_drop (List.mem_of_mem_take h)
theorem part_take {zs : List Int} (r j : Nat) : zs.take (j * r) ++ part zs r j = zs.take ((j + 1) * r) := by
  unfold part
  rw [Nat.add_mul, Nat.one_mul, List.take_add]

/-- the frames of a body, of a head -/
structure Cut (v k s : Int) (zs : List Int) (r : Nat) (fs : List Fr) : Prop where
  len : fs.length = cnt zs.length r
  at' : ∀ (j : Nat) (f : Fr), fs[j]? = some f → f.v = v ∧ f.k = k ∧ f.s = s ∧ f.i = (j : Int) ∧ f.c = (cnt zs.length r : Int) ∧ f.zs = part zs r j
/-- the payloads, one behind the other -/
def flat (fs : List Fr) : List Int := fs.flatMap Fr.zs
theorem flat_push (fs : List Fr) (f : Fr) : flat (fs ++ [f]) = flat fs ++ f.zs := by simp [flat]
theorem flat_take {fs : List Fr} {j : Nat} {f : Fr} (h : fs[j]? = some f) : flat (fs.take (j + 1)) = flat (fs.take j) ++ f.zs := by
  rw [List.take_add_one, h]; exact flat_push _ _
theorem flat_len_le (fs : List Fr) (k : Nat) : (flat (fs.take k)).length ≤ (flat fs).length := by
  have h : flat fs = flat (fs.take k) ++ flat (fs.drop k) := by
    unfold flat; rw [← List.flatMap_append, List.take_append_drop]
  rw [h, List.length_append]; omega
theorem Cut.flat_upto {v k s : Int} {zs : List Int} {r : Nat} {fs : List Fr} (h : Cut v k s zs r fs) : ∀ j, j ≤ fs.length → flat (fs.take j) = zs.take (j * r)
  | 0, _ => by simp [flat]
  | j + 1, hj => by
    obtain ⟨f, hf⟩ : ∃ f, fs[j]? = some f := ⟨_, List.getElem?_eq_getElem (by omega)⟩
    rw [flat_take hf, Cut.flat_upto h j (by omega), (h.at' j f hf).2.2.2.2.2, part_take]
theorem Cut.flat_eq {v k s : Int} {zs : List Int} {r : Nat} {fs : List Fr} (h : Cut v k s zs r fs) (hr : 1 ≤ r) : flat fs = zs := by
  have h1 := h.flat_upto fs.length (Nat.le_refl _)
  rw [List.take_length, h.len, List.take_of_length_le (cnt_end hr)] at h1
  exact h1

/-- what is wrong with a cut -/
def fErr (v k : Int) (n : Nat) (room : Int) : Int := if n = 0 then 13 else if 192 < n then 2 else if room < 1 ∨ 242 < room then 5 else chk v k 0 (cnt n room.toNat : Int)
theorem fErr_zero {v k : Int} {n : Nat} {room : Int} (h : fErr v k n room = 0) : 1 ≤ n ∧ n ≤ 192 ∧ 1 ≤ room ∧ room ≤ 242 ∧ chk v k 0 (cnt n room.toNat : Int) = 0 := by
  unfold fErr at h
  split at h
  · omega
  · split at h
    · omega
    · split at h
      · omega
      · exact ⟨by omega, by omega, by omega, by omega, h⟩

/-- what is wrong with one frame beside the first one, at its place -/
def wBad (f0 f : Fr) (j : Nat) : Int := if mateZ f0.v f0.k f0.s f0.c f.v f.k f.s f.c = true then (if f.i = (j : Int) then 0 else 3) else 17
def wFst (f0 : Fr) : Nat → List Fr → Int
  | _, [] => 0
  | j, f :: r => if wBad f0 f j ≠ 0 then wBad f0 f j else wFst f0 (j + 1) r
def wEnd (f0 : Fr) (n : Nat) : Int := if (n : Int) < f0.c then 13 else if f0.c < (n : Int) then 6 else 0
/-- what is wrong with frames -/
def wErr : List Fr → Int
  | [] => 13
  | f0 :: r => if wFst f0 0 (f0 :: r) ≠ 0 then wFst f0 0 (f0 :: r) else wEnd f0 (r.length + 1)
theorem wFst_zero (f0 : Fr) : ∀ (s : Nat) (fs : List Fr), (∀ (j : Nat) (g : Fr), fs[j]? = some g → wBad f0 g (s + j) = 0) → wFst f0 s fs = 0
  | _, [], _ => rfl
  | s, f :: r, h => by
    have h0 := h 0 f rfl
    rw [Nat.add_zero] at h0
    rw [wFst, if_neg (by simp [h0])]
    exact wFst_zero f0 (s + 1) r fun j g hg => by
      have := h (j + 1) g (by simpa using hg)
      rwa [show s + (j + 1) = s + 1 + j by omega] at this
theorem wFst_at (f0 : Fr) : ∀ (s k : Nat) (fs : List Fr) (f : Fr), (∀ (j : Nat) (g : Fr), j < k → fs[j]? = some g → wBad f0 g (s + j) = 0) → fs[k]? = some f → wBad f0 f (s + k) ≠ 0 → wFst f0 s fs = wBad f0 f (s + k)
  | _, _, [], _, _, h, _ => by simp at h
  | s, 0, g :: r, f, _, hf, hb => by
    simp only [List.getElem?_cons_zero, Option.some.injEq] at hf
    subst hf
    rw [Nat.add_zero] at hb ⊢
    rw [wFst, if_pos hb]
  | s, k + 1, g :: r, f, h, hf, hb => by
    have h0 := h 0 g (by omega) rfl
    rw [Nat.add_zero] at h0
    rw [wFst, if_neg (by simp [h0])]
    have e : s + (k + 1) = s + 1 + k := by omega
    rw [e] at hb ⊢
    exact wFst_at f0 (s + 1) k r f (fun j x hj hx => by
      have := h (j + 1) x (by omega) (by simpa using hx)
      rwa [show s + (j + 1) = s + 1 + j by omega] at this) (by simpa using hf) hb
theorem wErr_bad {fs : List Fr} {f0 f : Fr} {k : Nat} (h0 : fs[0]? = some f0) (hp : ∀ (j : Nat) (g : Fr), j < k → fs[j]? = some g → wBad f0 g j = 0) (hf : fs[k]? = some f) (hb : wBad f0 f k ≠ 0) : wErr fs = wBad f0 f k := by
  cases fs with
  | nil => simp at h0
  | cons g r =>
    simp only [List.getElem?_cons_zero, Option.some.injEq] at h0
    subst h0
    have h1 := wFst_at g 0 k (g :: r) f (fun j x hj hx => by rw [Nat.zero_add]; exact hp j x hj hx) hf (by rwa [Nat.zero_add])
    rw [Nat.zero_add] at h1
    rw [wErr, h1, if_pos hb]
theorem wErr_end {fs : List Fr} {f0 : Fr} (h0 : fs[0]? = some f0) (hp : ∀ (j : Nat) (g : Fr), fs[j]? = some g → wBad f0 g j = 0) : wErr fs = wEnd f0 fs.length := by
  cases fs with
  | nil => simp at h0
  | cons g r =>
    simp only [List.getElem?_cons_zero, Option.some.injEq] at h0
    subst h0
    have h1 := wFst_zero g 0 (g :: r) (fun j x hx => by rw [Nat.zero_add]; exact hp j x hx)
    rw [wErr, h1, if_neg (by simp)]
    rfl
theorem Cut.whole {v k s : Int} {zs : List Int} {r : Nat} {fs : List Fr} (h : Cut v k s zs r fs) (hr : 1 ≤ r) (hn : 1 ≤ zs.length) : wErr fs = 0 := by
  have hp := cnt_pos hr hn
  have hl := h.len
  obtain ⟨f0, hf0⟩ : ∃ f0, fs[0]? = some f0 := ⟨_, List.getElem?_eq_getElem (by omega)⟩
  obtain ⟨e1, e2, e3, _, e4, _⟩ := h.at' 0 f0 hf0
  rw [wErr_end hf0 (fun j g hg => by
    obtain ⟨d1, d2, d3, d4, d5, _⟩ := h.at' j g hg
    unfold wBad
    rw [if_pos (by simp [mateZ, e1, e2, e3, e4, d1, d2, d3, d5]), if_pos d4])]
  unfold wEnd
  rw [e4, h.len, if_neg (by omega), if_neg (by omega)]
theorem wBad_zero {f0 f : Fr} {j : Nat} : wBad f0 f j = 0 ↔ mateZ f0.v f0.k f0.s f0.c f.v f.k f.s f.c = true ∧ f.i = (j : Int) := by
  unfold wBad
  constructor
  · intro h
    by_cases h1 : mateZ f0.v f0.k f0.s f0.c f.v f.k f.s f.c = true
    · rw [if_pos h1] at h
      by_cases h2 : f.i = (j : Int)
      · exact ⟨h1, h2⟩
      · rw [if_neg h2] at h; omega
    · rw [if_neg h1] at h; omega
  · rintro ⟨h1, h2⟩
    rw [if_pos h1, if_pos h2]
end Ct
end Go.Proofs.Ytloncplpjdekoaa

namespace Go.Proofs.Ytloncplpjdekoaa
open Go.RowKit
set_option maxRecDepth 100000

theorem ret_intC {a b : Int} (h : a = b) : Ending.returned (.int .i64 a) = Ending.returned (.int .i64 b) := by rw [h]
/-- how many parts there are of a number of bytes that there can be -/
def cntZ (n : Nat) (r : Int) : Int := if r < 1 then 0 else if n = 0 then 1 else (Ct.cnt n r.toNat : Int)
theorem ccount_any (n : Nat) (r : Int) (hn : n ≤ 9223372036854775807) (hr : -9223372036854775808 ≤ r ∧ r ≤ 9223372036854775807) (w : World) :
    Calls Try.prog 47 #[.int .i64 (n : Int), .int .i64 r] w fun e w' => e = .returned (.int .i64 (cntZ n r)) ∧ w' = w := by
  by_cases h1 : r < 1
  · have hz : cntZ n r = 0 := by unfold cntZ; rw [if_pos h1]
    rw [hz]
    clear hz
    go_enter Try.func47, Try.ntmps47
    go_wp2
    go_ret
    exact ⟨rfl, rfl⟩
  · by_cases h2 : (n : Int) < 1
    · have hz : cntZ n r = 1 := by unfold cntZ; rw [if_neg h1, if_pos (by omega)]
      rw [hz]
      clear hz
      go_enter Try.func47, Try.ntmps47
      go_wp2
      go_ret
      exact ⟨rfl, rfl⟩
    · have hq : ((n : Int) - 1).tdiv r = ((n - 1) / r.toNat : Nat) := by
        rw [show (n : Int) - 1 = ((n - 1 : Nat) : Int) by omega]
        have hrr : r = (r.toNat : Int) := by omega
        rw [hrr, Int.toNat_natCast]
        exact Int.ofNat_tdiv _ _
      have hz : cntZ n r = (((n - 1) / r.toNat : Nat) : Int) + 1 := by
        unfold cntZ
        rw [if_neg h1, if_neg (by omega), ← Ct.cnt_div (by omega) (by omega)]
        omega
      rw [hz]
      have hd : (n - 1) / r.toNat ≤ n - 1 := Nat.div_le_self _ _
      have hr0 : ¬ r = 0 := by omega
      obtain ⟨q, hq2⟩ : ∃ q, (n - 1) / r.toNat = q := ⟨_, rfl⟩
      rw [hq2] at hq hd ⊢
      clear hz hq2
      have HD := Lib.hid hd
      have hq0 : 0 ≤ (q : Int) + 1 ∧ (q : Int) + 1 ≤ 9223372036854775807 := by omega
      go_enter Try.func47, Try.ntmps47
      go_wp2
      go_ret
      exact ⟨rfl, rfl⟩

set_option maxHeartbeats 2000000 in
theorem rmates_any (v k s i c v' k' s' i' c' : Int) (w : World) :
    Calls Try.prog 52 #[hdV v k s i c, hdV v' k' s' i' c'] w fun e w' => e = .returned (.bool (mateZ v k s c v' k' s' c')) ∧ Below w.heap.size w w' := by
  unfold hdV
  obtain ⟨w0, hw⟩ : ∃ w0, (w.alloc (.cells #[.int .i64 v, .int .i64 k, .int .u32 s, .int .i64 i, .int .i64 c] 44)).alloc (.cells #[.int .i64 v', .int .i64 k', .int .u32 s', .int .i64 i', .int .i64 c'] 44) = w0 := ⟨_, rfl⟩
  have hb : Below w.heap.size w w0 := by rw [← hw]; exact ((Below.refl _ w).alloc (Nat.le_refl _) _).alloc (by simp) _
  have q1 : w0.heap[w.heap.size]? = some (.cells #[.int .i64 v, .int .i64 k, .int .u32 s, .int .i64 i, .int .i64 c] 44 (0, 0)) := by
    rw [← hw]; exact (Below.heap_alloc _ _ _ (by simp)).trans (World.alloc_heap_new _ _)
  have q2 : w0.heap[w.heap.size + 1]? = some (.cells #[.int .i64 v', .int .i64 k', .int .u32 s', .int .i64 i', .int .i64 c'] 44 (0, 0)) := by
    rw [← hw]
    have := World.alloc_heap_new (w.alloc (.cells #[.int .i64 v, .int .i64 k, .int .u32 s, .int .i64 i, .int .i64 c] 44)) (.cells #[.int .i64 v', .int .i64 k', .int .u32 s', .int .i64 i', .int .i64 c'] 44)
    rwa [World.size_alloc] at this
  obtain ⟨d0, d1, d2, d3, d4⟩ := hd_block q1
  obtain ⟨e0, e1, e2, e3, e4⟩ := hd_block q2
  have HW := Lib.hid hw
  have HB := Lib.hid hb
  clear hw q1 q2 hb
  by_cases h1 : v = v'
  · by_cases h2 : k = k'
    · by_cases h3 : s = s'
      · by_cases h4 : c = c'
        · have hz : mateZ v k s c v' k' s' c' = true := by simp [mateZ, h1, h2, h3, h4]
          rw [hz]
          subst h1 h2 h3 h4
          clear hz
          go_enter Try.func52, Try.ntmps52
          go_wp2_with fail
          rw [HW.out]
          go_wp2
          go_ret
          exact ⟨rfl, HB.out⟩
        · have hz : mateZ v k s c v' k' s' c' = false := by simp [mateZ, h4]
          have h5 : (c == c') = false := by simp [h4]
          rw [hz]
          subst h1 h2 h3
          clear hz
          go_enter Try.func52, Try.ntmps52
          go_wp2_with fail
          rw [HW.out]
          go_wp2
          go_ret
          exact ⟨rfl, HB.out⟩
      · have hz : mateZ v k s c v' k' s' c' = false := by simp [mateZ, h3]
        have h5 : (s == s') = false := by simp [h3]
        rw [hz]
        subst h1 h2
        clear hz
        go_enter Try.func52, Try.ntmps52
        go_wp2_with fail
        rw [HW.out]
        go_wp2
        go_ret
        exact ⟨rfl, HB.out⟩
    · have hz : mateZ v k s c v' k' s' c' = false := by simp [mateZ, h2]
      have h5 : (k == k') = false := by simp [h2]
      rw [hz]
      subst h1
      clear hz
      go_enter Try.func52, Try.ntmps52
      go_wp2_with fail
      rw [HW.out]
      go_wp2
      go_ret
      exact ⟨rfl, HB.out⟩
  · have hz : mateZ v k s c v' k' s' c' = false := by simp [mateZ, h1]
    have h5 : (v == v') = false := by simp [h1]
    rw [hz]
    clear hz
    go_enter Try.func52, Try.ntmps52
    go_wp2_with fail
    rw [HW.out]
    go_wp2
    go_ret
    exact ⟨rfl, HB.out⟩
end Go.Proofs.Ytloncplpjdekoaa

namespace Go.Proofs.Ytloncplpjdekoaa
open Go.RowKit

theorem run_append_any_at {P : Program} {w : World} (t ty : TypeId) (base : Nat) (e : TypeId) (i : TypeInfo) (z : Value) (bytes : Nat) (ht : P.underlying t = some (.slice e)) (hi : P.info? e = some i) (hz : i.zero = some z) (hsize : i.size = 1) (hby : i.bytes = bytes) (hzs : z.cells.size = 1)
    (k : IntKind) (n : Nat) (xs : List Value) (zs : List Int) (v : Value) (hown : w.ownsRow base e 1 v n xs) (A : Option Addr) (m c B : Nat) (hm : zs.length = m) (hn : Nums k w B A zs)
    (h63 : n + m ≤ maxLen) (hbytes : (n + m) * bytes ≤ 140737488355328) (hbase : base ≤ w.heap.size) :
    ∃ v' w', (Builtin.append_ #[t, t] ty #[v, .slice A m c]).run P w = .ok v' w' ∧ w'.ownsRow base e 1 v' (n + m) (xs ++ zs.map (Value.int k)) ∧ w.grownBy w' v.ownBlock ∧ (v'.ownBlock = v.ownBlock ∨ v'.ownBlock = some w.heap.size) := by
  subst hm
  by_cases hz0 : zs = []
  · subst hz0
    have hv : ∃ b n cap, v = .slice b n cap ∧ n ≤ cap := by
      rcases hown.2 with ⟨rfl, _⟩ | ⟨g, cap, cur, rfl, _, _, hle, _⟩
      · exact ⟨_, _, _, rfl, Nat.le_refl _⟩
      · exact ⟨_, _, _, rfl, hle⟩
    obtain ⟨b, q, cap, rfl, hle⟩ := hv
    refine ⟨_, _, run_append_nothing w t t ty e i ht hi b q cap hle _ ?_, by simpa using hown, ⟨rfl, rfl, rfl, Nat.le_refl _, fun _ _ _ => rfl⟩, .inl rfl⟩
    cases A with
    | none => exact ⟨.inl ⟨e, ht⟩, fun _ => rfl, run_firstCells_none w i.size 0 0 c, run_firstCells_none w.drew i.size 0 0 c, by simp, fun _ h => by cases h⟩
    | some ad => exact Src.ofSlice w ht ad 0 c [] (by simp) (by simp) (fun _ h => by cases h)
  · obtain ⟨b1, o1, rfl, hb1, hc⟩ := hn hz0
    obtain ⟨v', w', h1, h2, h3, _, h5⟩ := run_append_own_at (P := P) (w := w) base t ty e i z 1 bytes ht hi hz hsize hby hzs (by decide) v n xs hown ⟨b1, o1, none⟩ zs.length c (zs.map (Value.int k)) (by simp) (fun j u hj => by
      rw [List.getElem?_map] at hj
      obtain ⟨y, hy, rfl⟩ := Option.map_eq_some_iff.1 hj
      rw [Addr.add_lit]
      exact hc j y hy) (fun u hu => by obtain ⟨y, _, rfl⟩ := List.mem_map.1 hu; rfl) h63 hbytes hbase
    exact ⟨v', w', h1, h2, h3, h5⟩

theorem wpListIn_append_any_at {F : Fence} {nF : Nat} {P : Program} {w : World} {ops : Array Oper} {rest : List Oper} {o : Oper} {a : Act} {Q : Exit → Act → World → Prop} (hg : o.guard = none) (s x : Operand) (t : TypeId)
    (hop : o.op = Op.call { callee := Callee.builtin Builtin.append, args := #[s, x], argTypes := #[t, t] })
    (base : Nat) (e : TypeId) (i : TypeInfo) (z : Value) (bytes : Nat) (ht : P.underlying t = some (.slice e)) (hi : P.info? e = some i) (hz : i.zero = some z) (hsize : i.size = 1) (hby : i.bytes = bytes) (hzs : z.cells.size = 1)
    (k : IntKind) (n : Nat) (xs : List Value) (zs : List Int) (v : Value) (hs : a.eval s = v) (hown : w.ownsRow base e 1 v n xs) (A : Option Addr) (m c B : Nat) (hx : a.eval x = .slice A m c) (hm : zs.length = m) (hn : Nums k w B A zs)
    (h63 : n + m ≤ maxLen) (hbytes : (n + m) * bytes ≤ 140737488355328) (hbase : base ≤ w.heap.size)
    (hK : ∀ v' w', w'.ownsRow base e 1 v' (n + m) (xs ++ zs.map (Value.int k)) → w.grownBy w' v.ownBlock → (v'.ownBlock = v.ownBlock ∨ v'.ownBlock = some w.heap.size) → wpListIn F nF P ops Q rest (a.put o.dst v') w') :
    wpListIn F nF P ops Q (o :: rest) a w := by
  refine wpListIn_plain hg fun K hK' => ?_
  obtain ⟨v', w', hrun, r1, r2, r3⟩ := run_append_any_at (P := P) (w := w) t o.type base e i z bytes ht hi hz hsize hby hzs k n xs zs v hown A m c B hm hn h63 hbytes hbase
  unfold Oper.wpIn
  refine ⟨?_, ?_⟩
  · simp [Oper.about, hop, resolve, Target.leads, Sem.run_pure]
  · rw [Oper.semAt_plain F _ _ (by rw [hop]; intro c hc'; cases hc')]
    simp [execOp, hop, resolve, invoke, builtin, hs, hx, hrun, Result.andThen]
    exact hK' _ _ (hK v' w' r1 r2 r3)

/-- the block of the row that the box holds -/
def ownA (b : Nat) (W : World) : Option Nat := (W.cell? ⟨b, 0, none⟩).bind Value.ownBlock
/-- whatever is cells, but the two boxes and the one's row, is as it was -/
structure KpA (bI bA : Nat) (W W' : World) : Prop where
  size : W.heap.size ≤ W'.heap.size
  same : ∀ (k : Nat) (o : Obj), k ≠ bI → k ≠ bA → ownA bA W ≠ some k → W.heap[k]? = some o → o.isCells = true → W'.heap[k]? = some o
  own : ownA bA W' = ownA bA W ∨ ∃ g, ownA bA W' = some g ∧ W.heap.size ≤ g
section
variable {bI bA : Nat} {A B C : World}
theorem KpA.refl (bI bA : Nat) (A : World) : KpA bI bA A A := ⟨Nat.le_refl _, fun _ _ _ _ _ h _ => h, .inl rfl⟩
theorem KpA.trans (h : KpA bI bA A B) (k : KpA bI bA B C) : KpA bI bA A C := by
  refine ⟨Nat.le_trans h.size k.size, fun i o hi ha hown ho hc => ?_, ?_⟩
  · refine k.same i o hi ha (fun e => ?_) (h.same i o hi ha hown ho hc) hc
    rcases h.own with h1 | ⟨g, h1, h2⟩
    · rw [h1] at e; exact hown e
    · rw [h1] at e; injection e with e
      have := (Array.getElem?_eq_some_iff.1 ho).1
      omega
  · rcases k.own with h1 | ⟨g, h1, h2⟩
    · rcases h.own with h3 | ⟨g, h3, h4⟩
      · exact .inl (h1.trans h3)
      · exact .inr ⟨g, h1.trans h3, h4⟩
    · exact .inr ⟨g, h1, Nat.le_trans h.size h2⟩
theorem KpA.putObj {l : Nat} {W : World} {o o' : Obj} (hbl : bA < l) (ho : W.heap[l]? = some o) (hc : o.isCells = false) : KpA bI bA W (W.putObj l o') := by
  refine ⟨by simp [World.putObj], fun k p _ _ _ hp hpc => (World.putObj_heap_other (fun e => ?_)).trans hp, .inl ?_⟩
  · subst e
    rw [hp] at ho
    injection ho with ho
    subst ho
    rw [hpc] at hc; cases hc
  · unfold ownA
    rw [World.cell?_of_block (World.putObj_heap_other (by simp only; omega))]
theorem KpA.of_below {b : Nat} (h : Below b A B) (hs : A.heap.size ≤ b) (hb : bA < A.heap.size) : KpA bI bA A B := ⟨h.size, fun k _ _ _ _ ho _ => (h.block k (by have := (Array.getElem?_eq_some_iff.1 ho).1; omega)).trans ho, .inl (by unfold ownA; rw [h.cell (p := ⟨bA, 0, none⟩) (by simp only; omega)])⟩
end

/-- the boxes behind j rounds: the count, and the row, whose numbers are zs -/
structure TwoB (w : World) (bI bA : Nat) (tI tA e : TypeId) (k : IntKind) (j : Nat) (zs : List Int) (V : World) : Prop where
  cnt : Boxed V bI tI (.int .i64 ((j : Nat) : Int))
  row : ∃ v, Boxed V bA tA v ∧ V.ownsRow w.heap.size e 1 v zs.length (zs.map (Value.int k)) ∧ (j = 0 → v = .slice none 0 0)
  off : Off (fun q => q = bI ∨ q = bA) w V
section
variable {w V V1 V2 : World} {bI bA : Nat} {tI tA e : TypeId} {k : IntKind} {j : Nat} {zs : List Int}
theorem TwoB.putObj {l : Nat} {o o' : Obj} (h : TwoB w bI bA tI tA e k j zs V) (hI : bI < w.heap.size) (hA : bA < w.heap.size) (hl : w.heap.size ≤ l) (ho : V.heap[l]? = some o) (hc : o.isCells = false) : TwoB w bI bA tI tA e k j zs (V.putObj l o') := by
  obtain ⟨v, h1, h2, h3⟩ := h.row
  exact ⟨(World.putObj_heap_other (by omega)).trans h.cnt, ⟨v, (World.putObj_heap_other (by omega)).trans h1, ownsRow_putObj h2 _ ho hc, h3⟩, off_below h.off (below_put V o' hl)⟩
theorem TwoB.start (h : TwoB w bI bA tI tA e k 0 [] V) (hI : bI < w.heap.size) (hA : bA < w.heap.size) (hb : Below w.heap.size V V1) : TwoB w bI bA tI tA e k 0 [] V1 := by
  obtain ⟨v, h1, h2, h3⟩ := h.row
  refine ⟨(hb.block bI hI).trans h.cnt, ⟨v, (hb.block bA hA).trans h1, ?_, h3⟩, off_below h.off hb⟩
  rw [h3 rfl]
  exact World.ownsRow_nil _ _ _ _
theorem TwoB.own0 (h : TwoB w bI bA tI tA e k 0 zs V) : ownA bA V = none := by
  obtain ⟨v, h1, _, h3⟩ := h.row
  unfold ownA
  rw [h1.cell, h3 rfl]; rfl
/-- a round: the row grows, the count goes up -/
theorem TwoB.next {v v' : Value} {ys : List Int} {m : Nat} (h : TwoB w bI bA tI tA e k j zs V) (hv : Boxed V bA tA v) (hrow : V.ownsRow w.heap.size e 1 v zs.length (zs.map (Value.int k))) (hne : bI ≠ bA) (hI : bI < w.heap.size) (hA : bA < w.heap.size)
    (h1 : Below V.heap.size V V1) (hm : (zs ++ ys).length = m) (hown' : V2.ownsRow w.heap.size e 1 v' m (zs.map (Value.int k) ++ ys.map (Value.int k))) (hg : V1.grownBy V2 v.ownBlock) (hat : v'.ownBlock = v.ownBlock ∨ v'.ownBlock = some V1.heap.size) :
    Boxed V2 bA tA v ∧ Boxed V2 bI tI (.int .i64 (j : Int)) ∧ Boxed (V2.setCell ⟨bA, 0, none⟩ v') bI tI (.int .i64 (j : Int)) ∧
    TwoB w bI bA tI tA e k (j + 1) (zs ++ ys) ((V2.setCell ⟨bA, 0, none⟩ v').setCell ⟨bI, 0, none⟩ (.int .i64 ((j : Int) + 1))) ∧
    KeepsFrom w.heap.size V ((V2.setCell ⟨bA, 0, none⟩ v').setCell ⟨bI, 0, none⟩ (.int .i64 ((j : Int) + 1))) ∧ KpA bI bA V ((V2.setCell ⟨bA, 0, none⟩ v').setCell ⟨bI, 0, none⟩ (.int .i64 ((j : Int) + 1))) := by
  have hsV := h.off.size
  have hs1 := h1.size
  have hs2 := hg.size
  have hlt := hrow.lt
  have hlt' := hown'.lt
  have hnr : ∀ b, b < w.heap.size → some b ≠ v.ownBlock := fun b hb e2 => by have := (hlt b e2.symm).1; omega
  have hA2 : Boxed V2 bA tA v := (hg.block bA (by omega) (hnr bA hA)).trans ((h1.block bA (by omega)).trans hv)
  have hI2 : Boxed V2 bI tI (.int .i64 (j : Int)) := (hg.block bI (by omega) (hnr bI hI)).trans ((h1.block bI (by omega)).trans h.cnt)
  have hI3 : Boxed (V2.setCell ⟨bA, 0, none⟩ v') bI tI (.int .i64 (j : Int)) := hI2.other hne v'
  have hA3 : Boxed (V2.setCell ⟨bA, 0, none⟩ v') bA tA v' := hA2.set v'
  have hnr' : ∀ b, b < w.heap.size → v'.ownBlock = none ∨ v'.ownBlock ≠ some b := fun b hb => .inr fun e2 => by have := (hlt' b e2).1; omega
  have hr3 := hown'.kept (grownBy_setCell' V2 bA v') (hnr' bA hA)
  have hr4 := hr3.kept (grownBy_setCell' _ bI (.int .i64 ((j : Int) + 1))) (hnr' bI hI)
  have hblk : ∀ q, q < V.heap.size → q ≠ bI → q ≠ bA → some q ≠ v.ownBlock → ((V2.setCell ⟨bA, 0, none⟩ v').setCell ⟨bI, 0, none⟩ (.int .i64 ((j : Int) + 1))).heap[q]? = V.heap[q]? := fun q hq h3 h4 h5 =>
    (Below.heap_setCell _ ⟨bI, 0, none⟩ _ q h3).trans ((Below.heap_setCell _ ⟨bA, 0, none⟩ _ q h4).trans ((hg.block q (by omega) h5).trans (h1.block q hq)))
  have hsz : V.heap.size ≤ ((V2.setCell ⟨bA, 0, none⟩ v').setCell ⟨bI, 0, none⟩ (.int .i64 ((j : Int) + 1))).heap.size := by simp only [World.setCell, Array.size_modify]; omega
  have hAf : Boxed ((V2.setCell ⟨bA, 0, none⟩ v').setCell ⟨bI, 0, none⟩ (.int .i64 ((j : Int) + 1))) bA tA v' := hA3.other (Ne.symm hne) _
  have hcellV : ∀ q o, v.ownBlock = some q → V.heap[q]? = some o → o.isCells = true := fun q o ej hj => by
    rcases hrow.2 with ⟨rfl, _⟩ | ⟨g, cap, cur, rfl, _, hgb, _⟩
    · simp [Value.ownBlock] at ej
    · obtain rfl : g = q := by simpa [Value.ownBlock] using ej
      rw [hgb] at hj; cases hj; rfl
  refine ⟨hA2, hI2, hI3, ⟨?_, ⟨v', hAf, ?_, fun h0 => by omega⟩, ?_⟩, ?_, ?_⟩
  · rw [Int.natCast_succ]; exact hI3.set _
  · rw [hm, List.map_append]; exact hr4
  · refine ⟨hg.os.trans (h1.os.trans h.off.os), hg.tape.trans (h1.tape.trans h.off.tape), hg.output.trans (h1.output.trans h.off.output), Nat.le_trans hsV hsz, fun q hq hn => ?_⟩
    exact (hblk q (by omega) (fun e2 => hn (.inl e2)) (fun e2 => hn (.inr e2)) (hnr q hq)).trans (h.off.block q hq hn)
  · refine ⟨hsz, fun q o hq ho hc => ?_⟩
    have hql := (Array.getElem?_eq_some_iff.1 ho).1
    refine (hblk q hql (by omega) (by omega) (fun e2 => ?_)).trans ho
    have := hcellV q o e2.symm ho
    rw [hc] at this; cases this
  · have hoV : ownA bA V = v.ownBlock := by unfold ownA; rw [hv.cell]; rfl
    have hoF : ownA bA ((V2.setCell ⟨bA, 0, none⟩ v').setCell ⟨bI, 0, none⟩ (.int .i64 ((j : Int) + 1))) = v'.ownBlock := by unfold ownA; rw [hAf.cell]; rfl
    refine ⟨hsz, fun q o h3 h4 h5 ho hc => ?_, ?_⟩
    · have hql := (Array.getElem?_eq_some_iff.1 ho).1
      exact (hblk q hql h3 h4 (fun e2 => h5 (by rw [hoV, e2]))).trans ho
    · rw [hoF, hoV]
      rcases hat with h6 | h6
      · exact .inl h6
      · exact .inr ⟨_, h6, hs1⟩
end
end Go.Proofs.Ytloncplpjdekoaa

namespace Go.Proofs.Ytloncplpjdekoaa
open Go.RowKit Go.Shelf
set_option maxRecDepth 100000

structure TwoF (w2 : World) (bs : Nat) (tf tr tb : TypeId) (g1 g2 : List Fr) (W : World) (u v : Value) : Prop where
  off : Off (fun b => b = bs) w2 W
  box : Boxed W bs tb u
  one : W.ownsRow w2.heap.size tf 6 u g1.length (flatF g1)
  two : W.ownsRow w2.heap.size tr 6 v g2.length (flatF g2)
theorem own_of_block {W W' : World} {base e size n : Nat} {v : Value} {xs : List Value} (h : W.ownsRow base e size v n xs) (hk : ∀ g, base ≤ g → W'.heap[g]? = W.heap[g]?) : W'.ownsRow base e size v n xs :=
  ⟨h.1, h.2.imp id fun ⟨g, cap, cur, hv, hg, hh, r⟩ => ⟨g, cap, cur, hv, hg, (hk g hg).trans hh, r⟩⟩
section
variable {w2 W W' W4 : World} {bs : Nat} {tf tr tb : TypeId} {g1 g2 : List Fr} {u v u' v' : Value} {f : Fr}
theorem TwoF.below (h : TwoF w2 bs tf tr tb g1 g2 W u v) (hb : Below W.heap.size W W') : TwoF w2 bs tf tr tb g1 g2 W' u v :=
  ⟨(h.off.trans (Off.of_below hb : Off (fun b => b = bs) W W') (fun _ _ hS => hS)), (hb.block _ h.box.lt).trans h.box, own_below6 h.one hb, own_below6 h.two hb⟩
theorem TwoF.push1 (h : TwoF w2 bs tf tr tb g1 g2 W u v) (hne : tf ≠ tr) (hbs : bs < w2.heap.size) (hown : W4.ownsRow w2.heap.size tf 6 u' (g1.length + 1) (flatF g1 ++ f.cs.toList)) (hg : W.grownBy W4 u.ownBlock) :
    TwoF w2 bs tf tr tb (g1 ++ [f]) g2 (W4.setCell ⟨bs, 0, none⟩ u') u' v := by
  have hlo : ∀ g, u.ownBlock = some g → w2.heap.size ≤ g := fun g hk => (h.one.lt g hk).1
  have ho : Off (fun b => b = bs) w2 W4 := ⟨hg.os.trans h.off.os, hg.tape.trans h.off.tape, hg.output.trans h.off.output, Nat.le_trans h.off.size hg.size, fun k hk hn => by
    rw [hg.block k (by have := h.off.size; omega) (fun e => by have := hlo k e.symm; omega)]
    exact h.off.block k hk hn⟩
  have hb4 : Boxed W4 bs tb u := h.box.kept hg (fun e => by have := hlo bs e.symm; omega)
  have hset : ∀ g, w2.heap.size ≤ g → (W4.setCell ⟨bs, 0, none⟩ u').heap[g]? = W4.heap[g]? := fun g hg' => Below.heap_setCell W4 ⟨bs, 0, none⟩ _ _ (by simp only; omega)
  refine ⟨ho.setCell (p := ⟨bs, 0, none⟩) rfl _, hb4.set _, ?_, ?_⟩
  · rw [List.length_append, List.length_singleton, flatF_push]
    exact own_of_block hown hset
  · exact own_of_block (h.two.kept hg (own_apart h.two h.one (Ne.symm hne))) hset
theorem TwoF.push2 (h : TwoF w2 bs tf tr tb g1 g2 W u v) (hne : tf ≠ tr) (hbs : bs < w2.heap.size) (hown : W4.ownsRow w2.heap.size tr 6 v' (g2.length + 1) (flatF g2 ++ f.cs.toList)) (hg : W.grownBy W4 v.ownBlock) :
    TwoF w2 bs tf tr tb g1 (g2 ++ [f]) W4 u v' := by
  have hlo : ∀ g, v.ownBlock = some g → w2.heap.size ≤ g := fun g hk => (h.two.lt g hk).1
  refine ⟨⟨hg.os.trans h.off.os, hg.tape.trans h.off.tape, hg.output.trans h.off.output, Nat.le_trans h.off.size hg.size, fun k hk hn => ?_⟩, h.box.kept hg (fun e => by have := hlo bs e.symm; omega), h.one.kept hg (own_apart h.one h.two hne), ?_⟩
  · rw [hg.block k (by have := h.off.size; omega) (fun e => by have := hlo k e.symm; omega)]
    exact h.off.block k hk hn
  · rw [List.length_append, List.length_singleton, flatF_push]
    exact hown
theorem own_frs {base e : Nat} (h : W.ownsRow base e 6 u g1.length (flatF g1)) (hat : ∀ f ∈ g1, f.At W W.heap.size) : ∃ A c, u = .slice A g1.length c ∧ g1.length ≤ c ∧ FrsAt W W.heap.size A g1 := by
  rcases h.2 with ⟨rfl, h0⟩ | ⟨g, cap, cur, rfl, hbg, hh, hle, _⟩
  · rw [List.eq_nil_of_length_eq_zero h0]
    exact ⟨none, 0, rfl, Nat.le_refl _, fun f hf => by simp at hf, fun i f hi => by simp at hi⟩
  · refine ⟨_, cap, rfl, hle, hat, fun j f hj => ⟨g, 0, rfl, (Array.getElem?_eq_some_iff.1 hh).1, fun q x hq => ?_⟩⟩
    have h1 := h.cells (g := g) rfl (j * 6 + q) x (flatF_at hj hq)
    rw [Addr.add_lit] at h1
    rw [Nat.add_assoc]
    exact h1
end
theorem firstBad_push : ∀ (gs : List Fr) (f : Fr), firstBad (gs ++ [f]) = if firstBad gs = 0 then f.chk else firstBad gs
  | [], f => by by_cases h : f.chk = 0 <;> simp [firstBad, h]
  | g :: r, f => by
    rw [List.cons_append, firstBad, firstBad, firstBad_push r f]
    by_cases h : g.chk = 0 <;> simp [h]
/-- a frame, cut -/
def Fr.cut (f : Fr) : Fr := ⟨f.v, f.k, f.s, f.i, f.c, f.a, f.cp, f.zs.take 250⟩
theorem Fr.cut_at {w : World} {B : Nat} {f : Fr} (h : f.At w B) : f.cut.At w B :=
  ⟨h.s0, h.s1, by unfold Fr.cut; simp only [List.length_take]; have := h.room; omega, by unfold Fr.cut; simp only [List.length_take]; have := h.few; omega, h.byte.take 250, h.nums.take 250⟩
end Go.Proofs.Ytloncplpjdekoaa

namespace Go.Proofs.Ytloncplpjdekoaa
open Go.RowKit
set_option maxRecDepth 100000

theorem sfInfo : (Try.prog.info? 46).map (fun i => (i.zero, i.size, i.bytes)) = some (some (.agg #[.int .i64 0, .int .i64 0, .int .u32 0, .int .i64 0, .int .i64 0, .slice none 0 0]), 6, 64) := by kernel_rfl
theorem ssInfo : (Try.prog.info? 83).map (·.size) = some 6 := by kernel_rfl
theorem fs_one (v k s i c : Int) (A : Option Addr) (n cp : Nat) : (frC v k s i c (.slice A n cp)).all (·.oneCell') = true := by simp [frC, Value.oneCell']
theorem flatF_get {fs : List Fr} {p : Nat} {u : Value} (h : (flatF fs)[p]? = some u) : ∃ (j q : Nat) (f : Fr), p = j * 6 + q ∧ fs[j]? = some f ∧ f.cs[q]? = some u := by
  have hlt := (List.getElem?_eq_some_iff.1 h).1
  rw [flatF_len] at hlt
  have hj : p / 6 < fs.length := by omega
  obtain ⟨f, hf⟩ : ∃ f, fs[p / 6]? = some f := ⟨_, List.getElem?_eq_getElem hj⟩
  have hq : p % 6 < f.cs.size := by show p % 6 < 6; omega
  refine ⟨p / 6, p % 6, f, by omega, hf, ?_⟩
  have h1 := flatF_at hf (Array.getElem?_eq_getElem hq)
  rw [show p / 6 * 6 + p % 6 = p by omega, h] at h1
  rw [Array.getElem?_eq_getElem hq, h1]
/-- a list of frames from anywhere, appended to an empty literal -/
theorem append_frames {P : Program} {W : World} (t ty e : TypeId) (i : TypeInfo) (z : Value) (ht : P.underlying t = some (.slice e)) (hi : P.info? e = some i) (hz : i.zero = some z) (hsize : i.size = 6) (hby : i.bytes = 64) (hzs : z.cells.size = 6)
    (H g : Nat) (hH : H ≤ W.heap.size) (hown : W.ownsRow H e 6 (.slice (some ⟨g, 0, none⟩) 0 0) 0 []) (A : Option Addr) (n cp : Nat) (fs : List Fr) (hn : fs.length = n) (hn2 : n ≤ 1000000) (hat : FrsAt W W.heap.size A fs) :
    ∃ v' W', (Builtin.append_ #[t, t] ty #[.slice (some ⟨g, 0, none⟩) 0 0, .slice A n cp]).run P W = .ok v' W' ∧ W'.ownsRow H e 6 v' n (flatF fs) ∧ Below W.heap.size W W' := by
  by_cases h0 : n = 0
  · subst h0
    obtain rfl : fs = [] := List.eq_nil_of_length_eq_zero hn
    refine ⟨_, _, run_append_nothing W t t ty e i ht hi (some ⟨g, 0, none⟩) 0 0 (Nat.le_refl _) _ ?_, hown, ⟨rfl, rfl, rfl, Nat.le_refl _, fun _ _ => rfl⟩⟩
    cases A with
    | none => exact ⟨.inl ⟨e, ht⟩, fun _ => rfl, run_firstCells_none W i.size 0 0 cp, run_firstCells_none W.drew i.size 0 0 cp, by simp, fun _ h => by cases h⟩
    | some ad => exact Src.ofSlice W ht ad 0 cp [] (by simp) (by simp) (fun _ h => by cases h)
  · obtain ⟨f0, hf0⟩ : ∃ f, fs[0]? = some f := ⟨_, List.getElem?_eq_getElem (by omega)⟩
    obtain ⟨b, off, rfl, _, _⟩ := hat.2 0 f0 hf0
    obtain ⟨v', W', hr, h1, h2⟩ := run_append_arg_grows (P := P) W t ty e i z 6 64 ht hi hz hsize hby hzs (by omega) ⟨g, 0, none⟩ 0 0 [] rfl (fun j u hj => by simp at hj) ⟨b, off, none⟩ n cp (flatF fs) (by rw [flatF_len, hn]) (fun j u hj => by
      obtain ⟨j', q, f, rfl, hf, hu⟩ := flatF_get hj
      obtain ⟨b', off', e', _, hc⟩ := hat.2 j' f hf
      injection e' with e'
      injection e' with e1 e2
      subst e1 e2
      rw [Addr.add_lit, ← Nat.add_assoc]
      exact hc q u hu) (by omega) (by unfold maxLen; omega) (by omega)
    rw [Nat.zero_add, List.nil_append] at h1
    exact ⟨v', W', hr, ownsRow_lower h1 hH, ⟨h2.os, h2.tape, h2.output, h2.size, fun k hk => h2.block k hk (by simp)⟩⟩
/-- what the document's Put answers -/
def RPutR (w : World) (v k s c : Int) (A : Option Addr) (n cp : Nat) (fs : List Fr) (f : Fr) (er : Int) (e : Ending) (w' : World) : Prop :=
  Below w.heap.size w w' ∧ ((er ≠ 0 ∧ e = .returned (.tuple #[frV v k s 0 c (.slice A n cp), .int .i64 er])) ∨ (er = 0 ∧ ∃ A' cp', e = .returned (.tuple #[frV v k s 0 c (.slice A' (n + 1) cp'), .int .i64 0]) ∧ RefAt w' c A' (n + 1) cp' (fs ++ [f])))
theorem three_boxes {w w1 : World} {cs1 cs2 cs3 : Array Value} {t1 t2 t3 : TypeId} (hw : ((w.alloc (.cells cs1 t1)).alloc (.cells cs2 t2)).alloc (.cells cs3 t3) = w1) :
    Below w.heap.size w w1 ∧ w1.heap.size = w.heap.size + 3 ∧ w1.heap[w.heap.size]? = some (.cells cs1 t1 (0, 0)) ∧ w1.heap[w.heap.size + 1]? = some (.cells cs2 t2 (0, 0)) ∧ w1.heap[w.heap.size + 2]? = some (.cells cs3 t3 (0, 0)) := by
  subst hw
  refine ⟨(((Below.refl _ w).alloc (Nat.le_refl _) _).alloc (by simp) _).alloc (by simp; omega) _, by simp, ?_, ?_, ?_⟩
  · exact (Below.heap_alloc _ _ _ (by simp; omega)).trans ((Below.heap_alloc _ _ _ (by simp)).trans (World.alloc_heap_new _ _))
  · have h := World.alloc_heap_new (w.alloc (.cells cs1 t1)) (.cells cs2 t2)
    rw [World.size_alloc] at h
    exact (Below.heap_alloc _ _ _ (by simp)).trans h
  · have h := World.alloc_heap_new ((w.alloc (.cells cs1 t1)).alloc (.cells cs2 t2)) (.cells cs3 t3)
    rw [World.size_alloc, World.size_alloc] at h
    exact h

theorem exec_appendU {P : Program} {w w' : World} {o : Oper} {b : Act} {v1 v2 v' : Value} (s x : Operand) (t : TypeId) (hop : o.op = Op.call { callee := Callee.builtin Builtin.append, args := #[s, x], argTypes := #[t, t] })
    (hs : b.eval s = v1) (hx : b.eval x = v2) (hrun : (Builtin.append_ #[t, t] o.type #[v1, v2]).run P w = .ok v' w') : (execOp b.eval o).run P w = .ok (.value v') w' := by
  simp [execOp, hop, resolve, invoke, builtin, hs, hx, hrun, Result.andThen]
/-- what the operations of 'append(append([]F{}, s.L...), f)' hand on -/
def FPut (H n : Nat) (fs : List Fr) (f : Fr) (q : Tmp) (x : Value) (W : World) : Prop :=
  if q = 47 then ∃ g, x = .slice (some ⟨g, 0, none⟩) 0 0 ∧ W.ownsRow H 46 6 (.slice (some ⟨g, 0, none⟩) 0 0) 0 []
  else if q = 50 then W.ownsRow H 46 6 x n (flatF fs)
  else ∃ g, x = .slice (some ⟨g, 0, none⟩) 1 1 ∧ W.heap[g]? = some (.cells f.cs 46 (0, 0))
theorem FPut.later {H n : Nat} {fs : List Fr} {f : Fr} {q : Tmp} {x : Value} {W W' : World} (h : FPut H n fs f q x W) (hb : Below W.heap.size W W') : FPut H n fs f q x W' := by
  unfold FPut at h ⊢
  split at h
  · rename_i hq
    rw [if_pos hq]
    obtain ⟨g, e, h1⟩ := h
    exact ⟨g, e, own_below6 h1 hb⟩
  · rename_i hq
    rw [if_neg hq]
    split at h
    · rename_i hq2
      rw [if_pos hq2]
      exact own_below6 h hb
    · rename_i hq2
      rw [if_neg hq2]
      obtain ⟨g, e, h1⟩ := h
      exact ⟨g, e, (hb.block g (Array.getElem?_eq_some_iff.1 h1).1).trans h1⟩
set_option maxHeartbeats 8000000 in
theorem rput_any {w : World} (v k s : Int) {c : Int} {A : Option Addr} {n cp : Nat} {fs : List Fr} (h : RefAt w c A n cp fs) (f : Fr) (hf : f.At w w.heap.size) (hfl : f.zs.length ≤ 250) :
    Calls Try.prog 32 #[frV v k s 0 c (.slice A n cp), frV f.v f.k f.s f.i f.c (.slice f.a f.zs.length f.cp)] w (RPutR w v k s c A n cp fs f (sErr v k s c f.v f.k f.s f.i f.c (fs.map Fr.ct) f.zs)) := by
  obtain ⟨w1, hw1⟩ : ∃ w1, ((w.alloc (.cells (frC v k s 0 c (.slice A n cp)) 83)).alloc (.cells (frC f.v f.k f.s f.i f.c (.slice f.a f.zs.length f.cp)) 46)).alloc (.cells (frC 0 0 0 0 0 (.slice none 0 0)) 83) = w1 := ⟨_, rfl⟩
  obtain ⟨hb1, hs1, hx1, hx2, hx3⟩ := three_boxes hw1
  have HX : Hid (∀ W, Below w1.heap.size w1 W → W.heap[w.heap.size]? = some (.cells (frC v k s 0 c (.slice A n cp)) 83 (0, 0)) ∧ W.heap[w.heap.size + 1]? = some (.cells (frC f.v f.k f.s f.i f.c (.slice f.a f.zs.length f.cp)) 46 (0, 0)) ∧ W.heap[w.heap.size + 2]? = some (.cells (frC 0 0 0 0 0 (.slice none 0 0)) 83 (0, 0))) :=
    Lib.hid fun W hW => ⟨(hW.block _ (by omega)).trans hx1, (hW.block _ (by omega)).trans hx2, (hW.block _ (by omega)).trans hx3⟩
  have HBad : Hid (∀ (er : Int) (W : World), sErr v k s c f.v f.k f.s f.i f.c (fs.map Fr.ct) f.zs = er → er ≠ 0 → Below w.heap.size w W → RPutR w v k s c A n cp fs f (sErr v k s c f.v f.k f.s f.i f.c (fs.map Fr.ct) f.zs) (.returned (.tuple #[frV v k s 0 c (.slice A n cp), .int .i64 er])) W) :=
    Lib.hid fun er W he h0 hb => by rw [he]; exact ⟨hb, .inl ⟨h0, rfl⟩⟩
  obtain ⟨d0, d1, d2, d3, d4, d5⟩ := fr_block hx1
  obtain ⟨e0, e1, e2, e3, e4, e5⟩ := fr_block hx2
  have KM := rmates_any f.v f.k f.s f.i f.c v k s 0 c w1
  have HAF : Hid (∀ f' ∈ fs ++ [f], f'.At w w.heap.size) := Lib.hid fun f' hf' => by
    rcases List.mem_append.1 hf' with hf' | hf'
    · exact h.at'.1 f' hf'
    · obtain rfl := List.mem_singleton.1 hf'
      exact hf
  have HB1 := Lib.hid hb1
  have HS1 := Lib.hid hs1
  have HRA := Lib.hid (h.below hb1)
  have HSE := Lib.hid (show sErr v k s c f.v f.k f.s f.i f.c (fs.map Fr.ct) f.zs = if mateZ v k s c f.v f.k f.s f.c = false then 17 else if f.i < 0 ∨ c ≤ f.i then 3 else if f.zs.length = 0 then 13 else if Sl.has (fs.map Fr.ct) f.i.toNat then 16 else if 192 < Sl.tot (fs.map Fr.ct) + f.zs.length then 6 else 0 from rfl)
  have HW1 : Hid (((w.alloc (.cells #[.int .i64 v, .int .i64 k, .int .u32 s, .int .i64 0, .int .i64 c, .slice A n cp] 83)).alloc (.cells #[.int .i64 f.v, .int .i64 f.k, .int .u32 f.s, .int .i64 f.i, .int .i64 f.c, .slice f.a f.zs.length f.cp] 46)).alloc (.cells #[.int .i64 0, .int .i64 0, .int .u32 0, .int .i64 0, .int .i64 0, .slice none 0 0] 83) = w1) := Lib.hid hw1
  rw [show mateZ f.v f.k f.s f.c v k s c = mateZ v k s c f.v f.k f.s f.c from by unfold mateZ; congr 1; simp [eq_comm]] at KM
  have HGood : Hid ((sErr v k s c f.v f.k f.s f.i f.c (fs.map Fr.ct) f.zs) = 0 → ∀ (A' : Option Addr) (cp' : Nat) (W : World), Below w.heap.size w W → RefAt W c A' (n + 1) cp' (fs ++ [f]) → RPutR w v k s c A n cp fs f (sErr v k s c f.v f.k f.s f.i f.c (fs.map Fr.ct) f.zs) (.returned (.tuple #[frV v k s 0 c (.slice A' (n + 1) cp'), .int .i64 0])) W) :=
    Lib.hid fun he A' cp' W hb hr => ⟨hb, .inr ⟨he, A', cp', rfl, hr⟩⟩
  generalize RPutR w v k s c A n cp fs f (sErr v k s c f.v f.k f.s f.i f.c (fs.map Fr.ct) f.zs) = G at *
  generalize sErr v k s c f.v f.k f.s f.i f.c (fs.map Fr.ct) f.zs = SE at *
  generalize mateZ v k s c f.v f.k f.s f.c = M at *
  clear h hf hw1 hx1 hx2 hx3 hb1
  unfold frV frC hdV at *
  go_enter Try.func32, Try.ntmps32
  go_wp2_with fail
  rw [HW1.out]
  refine KM.mono ?_
  rintro e w2 ⟨rfl, hb2⟩
  obtain ⟨hx1, hx2, hx3⟩ := HX.out w2 hb2
  obtain ⟨d0, d1, d2, d3, d4, d5⟩ := fr_block hx1
  obtain ⟨e0, e1, e2, e3, e4, e5⟩ := fr_block hx2
  have HB2 := Lib.hid (HB1.out.trans (hb2.mono HB1.out.size))
  have HEND : Hid (∀ (W : World) (er : Int), Below w1.heap.size w1 W → SE = er → er ≠ 0 →
      (W.setRow (w.heap.size + 2) (frC v k s 0 c (.slice A n cp))).cell? ⟨w.heap.size + 2, 0, none⟩ = some (.int .i64 v) ∧ (W.setRow (w.heap.size + 2) (frC v k s 0 c (.slice A n cp))).cell? ⟨w.heap.size + 2, 1, none⟩ = some (.int .i64 k) ∧
      (W.setRow (w.heap.size + 2) (frC v k s 0 c (.slice A n cp))).cell? ⟨w.heap.size + 2, 2, none⟩ = some (.int .u32 s) ∧ (W.setRow (w.heap.size + 2) (frC v k s 0 c (.slice A n cp))).cell? ⟨w.heap.size + 2, 3, none⟩ = some (.int .i64 0) ∧
      (W.setRow (w.heap.size + 2) (frC v k s 0 c (.slice A n cp))).cell? ⟨w.heap.size + 2, 4, none⟩ = some (.int .i64 c) ∧ (W.setRow (w.heap.size + 2) (frC v k s 0 c (.slice A n cp))).cell? ⟨w.heap.size + 2, 5, none⟩ = some (.slice A n cp) ∧
      G (.returned (.tuple #[.agg #[.int .i64 v, .int .i64 k, .int .u32 s, .int .i64 0, .int .i64 c, .slice A n cp], .int .i64 er])) (W.setRow (w.heap.size + 2) (frC v k s 0 c (.slice A n cp)))) := Lib.hid fun W er hW he h0 => by
    obtain ⟨_, _, hx⟩ := HX.out W hW
    have hh := setRow_heap W (w.heap.size + 2) _ (frC v k s 0 c (.slice A n cp)) _ _ hx
    have hbw := HB1.out.trans (hW.mono HB1.out.size)
    have hbF : Below w.heap.size w (W.setRow (w.heap.size + 2) (frC v k s 0 c (.slice A n cp))) := hbw.trans ((Off.setRow (S := fun q => q = w.heap.size + 2) (Off.of_below (Below.refl _ _)) rfl _).below (fun q hq => by omega) hbw.size)
    obtain ⟨g0, g1, g2, g3, g4, g5⟩ := fr_block hh
    exact ⟨g0, g1, g2, g3, g4, g5, HBad.out er _ he h0 hbF⟩
  cases M with
  | false =>
    rw [if_pos rfl] at HSE
    go_wp2_with (refine wpList_store_row rfl 83 (.tmp 4) (.tmp 12) rfl (w.heap.size + 2) (frC v k s 0 c (.slice A n cp)) rfl rfl 83 _ hx3 ssInfo rfl (fs_one _ _ _ _ _ _ _ _) ?_)
    obtain ⟨g0, g1, g2, g3, g4, g5, HFIN⟩ := HEND.out _ 17 hb2 HSE.out (by omega)
    refine bodyPost_ret (by simp [results, Try.results32, go_sem, g0, g1, g2, g3, g4, g5]; try rfl) rfl ?_
    exact HFIN
  | true =>
    rw [if_neg (by simp)] at HSE
    by_cases hi0 : f.i < 0
    · rw [if_pos (.inl hi0)] at HSE
      go_wp2_with (refine wpList_store_row rfl 83 (.tmp 4) (.tmp 26) rfl (w.heap.size + 2) (frC v k s 0 c (.slice A n cp)) rfl rfl 83 _ hx3 ssInfo rfl (fs_one _ _ _ _ _ _ _ _) ?_)
      obtain ⟨g0, g1, g2, g3, g4, g5, HFIN⟩ := HEND.out _ 3 hb2 HSE.out (by omega)
      refine bodyPost_ret (by simp [results, Try.results32, go_sem, g0, g1, g2, g3, g4, g5]; try rfl) rfl ?_
      exact HFIN
    · by_cases hi1 : c ≤ f.i
      · rw [if_pos (.inr hi1)] at HSE
        go_wp2_with (refine wpList_store_row rfl 83 (.tmp 4) (.tmp 26) rfl (w.heap.size + 2) (frC v k s 0 c (.slice A n cp)) rfl rfl 83 _ hx3 ssInfo rfl (fs_one _ _ _ _ _ _ _ _) ?_)
        obtain ⟨g0, g1, g2, g3, g4, g5, HFIN⟩ := HEND.out _ 3 hb2 HSE.out (by omega)
        refine bodyPost_ret (by simp [results, Try.results32, go_sem, g0, g1, g2, g3, g4, g5]; try rfl) rfl ?_
        exact HFIN
      · rw [if_neg (by omega)] at HSE
        by_cases hn0 : f.zs.length = 0
        · rw [if_pos hn0] at HSE
          have hn0' : (f.zs.length : Int) = 0 := by omega
          go_wp2_with (refine wpList_store_row rfl 83 (.tmp 4) (.tmp 31) rfl (w.heap.size + 2) (frC v k s 0 c (.slice A n cp)) rfl rfl 83 _ hx3 ssInfo rfl (fs_one _ _ _ _ _ _ _ _) ?_)
          obtain ⟨g0, g1, g2, g3, g4, g5, HFIN⟩ := HEND.out _ 13 hb2 HSE.out (by omega)
          refine bodyPost_ret (by simp [results, Try.results32, go_sem, g0, g1, g2, g3, g4, g5]; try rfl) rfl ?_
          exact HFIN
        · rw [if_neg hn0] at HSE
          have hn0' : ¬ (f.zs.length : Int) = 0 := by omega
          obtain ⟨j, hj⟩ := Int.eq_ofNat_of_zero_le (a := f.i) (by omega)
          rw [hj, Int.toNat_natCast] at HSE
          have KH := rhas_any v k s 0 (HRA.out.below hb2) j
          unfold HasR at KH
          rw [← hj] at KH
          unfold frV frC at KH
          have HJ := Lib.hid hj
          have HHB2 := Lib.hid hb2
          clear hj hx1 hx2 hx3 hb2
          go_wp2_with fail
          refine KH.mono ?_
          rintro e w3 ⟨hb3', hor⟩
          have hb3 := HHB2.out.trans (hb3'.mono HHB2.out.size)
          obtain ⟨hx1, hx2, hx3b⟩ := HX.out w3 hb3
          obtain ⟨d0, d1, d2, d3, d4, d5⟩ := fr_block hx1
          obtain ⟨e0, e1, e2, e3, e4, e5⟩ := fr_block hx2
          rcases hor with ⟨hno, rfl⟩ | ⟨hyes, p, f', _, _, rfl⟩
          · rw [if_neg (by rw [hno]; simp)] at HSE
            have HNO := Lib.hid hno
            have HB3 := Lib.hid hb3
            have HRA3 := Lib.hid (HRA.out.below hb3)
            have KS := Lib.hid (fun (V : World) (hV : Below w3.heap.size w3 V) => rsize_any v k s 0 (HRA3.out.below hV))
            have LX : Hid (∀ V, Below w3.heap.size w3 V → Below w1.heap.size w1 V) := Lib.hid fun V hV => HB3.out.trans (hV.mono HB3.out.size)
            have L1 : ∀ V, Below w3.heap.size w3 V → (Instr.loadAt 83 (.pointer (some ⟨w.heap.size, 0, none⟩))).run Try.prog V = .ok (.agg #[.int .i64 v, .int .i64 k, .int .u32 s, .int .i64 0, .int .i64 c, .slice A n cp]) V := fun V hV => by
              obtain ⟨hy, _, _⟩ := HX.out V (LX.out V hV)
              obtain ⟨d0, d1, d2, d3, d4, d5⟩ := fr_block hy
              simp [Instr.loadAt, go_sem, d0, d1, d2, d3, d4, d5]
            have L2 : ∀ V, Below w3.heap.size w3 V → (Instr.loadAt 34 (.pointer (some ⟨w.heap.size + 1, 5, none⟩))).run Try.prog V = .ok (.slice f.a f.zs.length f.cp) V := fun V hV => by
              obtain ⟨_, hy, _⟩ := HX.out V (LX.out V hV)
              obtain ⟨d0, d1, d2, d3, d4, d5⟩ := fr_block hy
              simp [Instr.loadAt, go_sem, d5]
            obtain ⟨T, hT⟩ : ∃ T, Sl.tot (fs.map Fr.ct) = T := ⟨_, rfl⟩
            have hTm := HRA.out.most
            rw [hT] at HSE KS hTm
            have HTT := Lib.hid hT
            unfold frV frC at KS
            clear KH hb3' hno hT d0 d1 d2 d3 d4 d5 e0 e1 e2 e3 e4 e5 hx1 hx2 hx3b hb3
            go_wp2_with fail
            refine wp_region_F 56 [] (fun _ _ _ => True) (fun V => Below w3.heap.size w3 V) (by kernel_rfl) (by kernel_rfl) (by rfl) (by simp) (fun W W' h hb => h.trans (hb.mono h.size)) (fun _ _ _ _ _ _ => trivial) (Below.refl _ _).drew ?_
            refine wpF_load _ rfl (by rfl) (by rfl) (by rfl) L1 ?_
            simp only [Act.put, List.setIfInBounds_toArray, List.set_cons_succ, List.set_cons_zero]
            refine wpF_call (f := 54) (args := #[.agg #[.int .i64 v, .int .i64 k, .int .u32 s, .int .i64 0, .int .i64 c, .slice A n cp]]) (.int .i64 (T : Int)) rfl rfl (fun x => by first | rfl | (simp [go_sem]; done)) KS.out ?_
            simp only [Act.put, List.setIfInBounds_toArray, List.set_cons_succ, List.set_cons_zero]
            repeat (first | (refine wpF_nil rfl rfl rfl rfl ?_; simp only [Act.put, List.setIfInBounds_toArray, List.set_cons_succ, List.set_cons_zero]) | (refine wpF_pure rfl rfl ?_; go_big_quiet_step (fail); refine wpQuiet_nil ?_))
            refine wpF_load _ rfl (by rfl) (by rfl) (by rfl) L2 ?_
            simp only [Act.put, List.setIfInBounds_toArray, List.set_cons_succ, List.set_cons_zero]
            repeat (first | (refine wpF_nil rfl rfl rfl rfl ?_; simp only [Act.put, List.setIfInBounds_toArray, List.set_cons_succ, List.set_cons_zero]) | (refine wpF_pure rfl rfl ?_; go_big_quiet_step (fail); refine wpQuiet_nil ?_))
            intro xs4 w4 hb4' _
            simp only [fill]
            have hb4 := LX.out w4 hb4'
            obtain ⟨hx1, hx2, hx3c⟩ := HX.out w4 hb4
            obtain ⟨d0, d1, d2, d3, d4, d5⟩ := fr_block hx1
            obtain ⟨e0, e1, e2, e3, e4, e5⟩ := fr_block hx2
            clear L1 L2 hb4'
            by_cases ht : 192 < T + f.zs.length
            · rw [if_pos ht] at HSE
              have ht2 : (192 : Int) < (T : Int) + (f.zs.length : Int) := by omega
              go_wp2_with (refine wpList_store_row rfl 83 (.tmp 4) (.tmp 46) rfl (w.heap.size + 2) (frC v k s 0 c (.slice A n cp)) rfl rfl 83 _ hx3c ssInfo rfl (fs_one _ _ _ _ _ _ _ _) ?_)
              obtain ⟨g0, g1, g2, g3, g4, g5, HFIN⟩ := HEND.out _ 6 hb4 HSE.out (by omega)
              refine bodyPost_ret (by simp [results, Try.results32, go_sem, g0, g1, g2, g3, g4, g5]; try rfl) rfl ?_
              exact HFIN
            · rw [if_neg ht] at HSE
              have ht2 : ¬ (192 : Int) < (T : Int) + (f.zs.length : Int) := by omega
              have LX4 : Hid (∀ V, Below w4.heap.size w4 V → Below w1.heap.size w1 V) := Lib.hid fun V hV => hb4.trans (hV.mono hb4.size)
              have L1 : ∀ V, Below w4.heap.size w4 V → (Instr.loadAt 81 (.pointer (some ⟨w.heap.size, 5, none⟩))).run Try.prog V = .ok (.slice A n cp) V := fun V hV => by
                obtain ⟨hy, _, _⟩ := HX.out V (LX4.out V hV)
                obtain ⟨d0, d1, d2, d3, d4, d5⟩ := fr_block hy
                simp [Instr.loadAt, go_sem, d5]
              have L2 : ∀ V, Below w4.heap.size w4 V → (Instr.loadAt 46 (.pointer (some ⟨w.heap.size + 1, 0, none⟩))).run Try.prog V = .ok (.agg #[.int .i64 f.v, .int .i64 f.k, .int .u32 f.s, .int .i64 f.i, .int .i64 f.c, .slice f.a f.zs.length f.cp]) V := fun V hV => by
                obtain ⟨_, hy, _⟩ := HX.out V (LX4.out V hV)
                obtain ⟨d0, d1, d2, d3, d4, d5⟩ := fr_block hy
                simp [Instr.loadAt, go_sem, d0, d1, d2, d3, d4, d5]
              have HRA4 := Lib.hid (HRA.out.below hb4)
              have HB4 := Lib.hid hb4
              have hn250 := HRA.out.few_len
              have hlen := HRA.out.len
              obtain ⟨z0, hi, hz0, hz1, hz2⟩ := info_parts sfInfo
              clear d0 d1 d2 d3 d4 d5 e0 e1 e2 e3 e4 e5 hx1 hx2 hx3c hb4 KS
              go_wp2_with fail
              refine wp_region_FT 56 6 [47, 50, 52] (FPut w4.heap.size n fs f) (fun V => Below w4.heap.size w4 V) (by kernel_rfl) (by kernel_rfl) (by rfl) (by kernel_rfl) (by kernel_rfl) (by kernel_rfl) (by rfl) (by simp) (fun W W' h hb => h.trans (hb.mono h.size)) (fun q x W W' h hb => h.later hb) (Below.refl _ _).drew ?_
              simp only [List.take_succ_cons, List.take_zero, List.drop_succ_cons, List.drop_zero]
              refine wpF_src 47 (by simp) rfl rfl rfl (fun W hW => ⟨.slice (some ⟨W.heap.size, 0, none⟩) 0 0, W.alloc (.cells #[] 46), ?_, ?_, (Below.refl _ _).alloc (Nat.le_refl _) _⟩) ?_
              · simp [go_sem]
              · unfold FPut
                rw [if_pos rfl]
                exact ⟨_, rfl, World.ownsRow_made W #[] 0 hW.size (by unfold maxLen; omega) rfl⟩
              simp only [Act.put, List.setIfInBounds_toArray, List.set_cons_succ, List.set_cons_zero]
              repeat (refine wpF_pure rfl rfl ?_; go_big_quiet_step (fail); refine wpQuiet_nil ?_)
              refine wpF_load _ rfl (by rfl) (by rfl) (by rfl) L1 ?_
              simp only [Act.put, List.setIfInBounds_toArray, List.set_cons_succ, List.set_cons_zero]
              refine wpF_mix 50 [47] (by simp) rfl (by kernel_rfl) (by kernel_rfl) (fun xs => by rfl) (fun xs W hW hx => ?_) ?_
              · have h47 := hx 47 (by simp)
                unfold FPut at h47
                rw [if_pos rfl] at h47
                obtain ⟨g, e47, ho47⟩ := h47
                obtain ⟨v', W', hr, ho, hbl⟩ := append_frames (P := Try.prog) 81 81 46 z0 _ Try.underlying81 hi hz0 hz1 hz2 rfl w4.heap.size g hW.size ho47 A n cp fs hlen (by omega) (HRA4.out.below hW).at'
                refine ⟨v', W', ?_, ?_, hbl⟩
                · exact exec_appendU (.tmp 47) (.tmp 49) 81 rfl (by simp [fill, Act.put, Act.eval, e47]) (by simp [fill, Act.put, Act.eval]) hr
                · unfold FPut
                  rw [if_neg (by decide), if_pos rfl]
                  exact ho
              simp only [Act.put, List.setIfInBounds_toArray, List.set_cons_succ, List.set_cons_zero]
              refine wpF_load _ rfl (by rfl) (by rfl) (by rfl) L2 ?_
              simp only [Act.put, List.setIfInBounds_toArray, List.set_cons_succ, List.set_cons_zero]
              refine wpF_src 52 (by simp) rfl rfl rfl (fun W hW => ⟨.slice (some ⟨W.heap.size, 0, none⟩) 1 1, W.alloc (.cells f.cs 46), ?_, ?_, (Below.refl _ _).alloc (Nat.le_refl _) _⟩) ?_
              · simp [go_sem, Fr.cs, frC]
              · unfold FPut
                rw [if_neg (by decide), if_neg (by decide)]
                exact ⟨_, rfl, World.alloc_heap_new _ _⟩
              simp only [Act.put, List.setIfInBounds_toArray, List.set_cons_succ, List.set_cons_zero]
              intro xs5 w5 hb5 hx
              have h50 := hx 50 (by simp)
              have h52 := hx 52 (by simp)
              unfold FPut at h50 h52
              rw [if_neg (by decide), if_pos rfl] at h50
              rw [if_neg (by decide), if_neg (by decide)] at h52
              obtain ⟨g5, e52, hg5⟩ := h52
              simp only [fill, Act.put, List.setIfInBounds_toArray, List.set_cons_succ, List.set_cons_zero]
              rw [e52]
              generalize xs5 47 = x47
              generalize xs5 50 = x50 at *
              have hb5w := LX4.out w5 hb5
              have hs5 : w4.heap.size ≤ w5.heap.size := hb5.size
              have hs4 : w.heap.size + 3 ≤ w4.heap.size := by have := HB4.out.size; omega
              obtain ⟨hx1, hx2, hx3⟩ := HX.out w5 hb5w
              have HNW : Hid (∀ (q : Nat) (u : Value), [Value.int .i64 f.v, .int .i64 f.k, .int .u32 f.s, .int .i64 f.i, .int .i64 f.c, .slice f.a f.zs.length f.cp][q]? = some u → w5.cell? ((⟨g5, 0, none⟩ : Addr).add q) = some u) := Lib.hid fun q u hq => by
                rw [Addr.add_lit, Nat.zero_add]
                simp only [World.cell?, hg5]
                simpa [Fr.cs, frC] using hq
              have HR5 := Lib.hid h50
              have HX1 : Hid (n + 1 ≤ maxLen) := by show _ ≤ _; unfold maxLen; omega
              have HX2 : Hid ((n + 1) * 64 ≤ 140737488355328) := by show _ ≤ _; omega
              have HX5 : Hid (∀ q, q < w4.heap.size → x50.ownBlock ≠ some q) := Lib.hid fun q hq e => by
                have := (HR5.out.lt q e).1
                omega
              have HB5 := Lib.hid hb5w
              have HL1 := Lib.hid hx1
              have HL3 := Lib.hid hx3
              clear hx e52 hg5 h50 L1 L2 hb5 hb5w hx1 hx2 hx3
              refine wpList_append_lies _ rfl (.tmp 50) (.tmp 52) 81 rfl w4.heap.size 46 z0 _ 6 64 Try.underlying81 hi hz0 hz1 hz2 rfl (by decide) x50 n (flatF fs) rfl HR5.out ⟨g5, 0, none⟩ 1 1 [Value.int .i64 f.v, .int .i64 f.k, .int .u32 f.s, .int .i64 f.i, .int .i64 f.c, .slice f.a f.zs.length f.cp] rfl rfl HNW.out (by simp [Value.oneCell']) (by decide) HX1.out HX2.out hs5 _ rfl ?_
              intro g6 cp6 w6 hown hgr hat6 hlt6
              have hy1 := (hgr.block w.heap.size (by omega) (fun e => HX5.out _ (by omega) e.symm)).trans HL1.out
              have hy3 := (hgr.block (w.heap.size + 2) (by omega) (fun e => HX5.out _ (by omega) e.symm)).trans HL3.out
              have hb6 : Below w.heap.size w w6 := (HB1.out.trans (HB5.out.mono HB1.out.size)).grown hgr (by omega) (fun g hg => by
                have := (HR5.out.lt g hg).1
                omega)
              have hg6 : w4.heap.size ≤ g6 := by
                rcases hat6 with h | h
                · exact (HR5.out.lt _ h).1
                · omega
              obtain ⟨d0, d1, d2, d3, d4, d5⟩ := fr_block hy1
              have fS : w6.frozen? ⟨w.heap.size, 5, none⟩ = false := by simp [World.frozen?, hy1]
              have hz3 : (w6.setCell ⟨w.heap.size, 5, none⟩ (.slice (some ⟨g6, 0, none⟩) (n + 1) cp6)).heap[w.heap.size + 2]? = _ := (Below.heap_setCell w6 ⟨w.heap.size, 5, none⟩ _ (w.heap.size + 2) (by simp)).trans hy3
              have HFIN : Hid (let W8 := (w6.setCell ⟨w.heap.size, 5, none⟩ (.slice (some ⟨g6, 0, none⟩) (n + 1) cp6)).setRow (w.heap.size + 2) (frC v k s 0 c (.slice (some ⟨g6, 0, none⟩) (n + 1) cp6))
                  W8.heap[w.heap.size + 2]? = some (.cells (frC v k s 0 c (.slice (some ⟨g6, 0, none⟩) (n + 1) cp6)) 83 (0, 0)) ∧ G (.returned (.tuple #[.agg #[.int .i64 v, .int .i64 k, .int .u32 s, .int .i64 0, .int .i64 c, .slice (some ⟨g6, 0, none⟩) (n + 1) cp6], .int .i64 0])) W8) := by
                refine Lib.hid ?_
                intro W8
                have hb7 := hb6.setCell (p := ⟨w.heap.size, 5, none⟩) (Nat.le_refl _) (.slice (some ⟨g6, 0, none⟩) (n + 1) cp6)
                have hb8 : Below w.heap.size w W8 := hb7.trans ((Off.setRow (S := fun q => q = w.heap.size + 2) (Off.of_below (Below.refl _ _)) rfl _).below (fun q hq => by omega) hb7.size)
                have hrow : W8.ownsRow w4.heap.size 46 6 (.slice (some ⟨g6, 0, none⟩) (n + 1) cp6) (n + 1) (flatF (fs ++ [f])) := by
                  rw [flatF_push]
                  refine ⟨hown.1, hown.2.imp id fun ⟨g, cap, cur, hv, hge, hh, r'⟩ => ⟨g, cap, cur, hv, hge, ?_, r'⟩⟩
                  refine (setRow_other _ _ _ _ (by omega)).trans ?_
                  exact (Below.heap_setCell w6 ⟨w.heap.size, 5, none⟩ _ g (by simp only; omega)).trans hh
                have hats : ∀ f' ∈ fs ++ [f], f'.At W8 W8.heap.size := fun f' hf' => (HAF.out f' hf' |>.below hb8).mono hb8.size
                have hlen' : (fs ++ [f]).length = n + 1 := by rw [List.length_append, hlen]; rfl
                rw [← hlen'] at hrow
                obtain ⟨A', c', e', hc', hfrs⟩ := own_frs hrow hats
                injection e' with e1 e2 e3
                subst e1 e3
                refine ⟨setRow_heap _ _ _ _ _ _ hz3, HGood.out HSE.out _ _ W8 hb8 ⟨hfrs, hlen', by rw [← hlen']; exact hc', fun f' hf' => ?_, ?_, ?_, HRA.out.small, fun g off e => ?_⟩⟩
                · rcases List.mem_append.1 hf' with hf' | hf'
                  · exact HRA.out.few f' hf'
                  · obtain rfl := List.mem_singleton.1 hf'
                    exact ⟨by omega, by omega⟩
                · unfold Sl.Keys
                  rw [List.map_append, List.map_append, List.nodup_append]
                  refine ⟨HRA.out.keys, by simp, fun a ha b hb => ?_⟩
                  have hb' : b = j := by
                    have h1 : b = f.i.toNat := by simpa [Fr.ct] using hb
                    rw [h1, HJ.out]; rfl
                  subst hb'
                  intro e
                  subst e
                  have := Sl.has_iff.2 ha
                  rw [HNO.out] at this
                  cases this
                · rw [List.map_append]
                  show Sl.tot (fs.map Fr.ct ++ [f.ct]) ≤ 192
                  rw [Sl.tot_push]
                  show Sl.tot (fs.map Fr.ct) + f.zs.length ≤ 192
                  rw [HTT.out]
                  omega
                · rcases hrow.2 with ⟨e', _⟩ | ⟨g', cap, cur, e', _, hh, _⟩
                  · cases e'
                  · injection e with e
                    injection e with e
                    injection e' with e'
                    injection e' with e'
                    injection e' with e'
                    subst e e'
                    exact ⟨cur, hh⟩
              clear hown hgr hat6 hlt6 hy1 hy3 hb6 hg6 HR5 HNW HX1 HX2 HX5 HL1 HL3 hn0' hn250
              go_wp2_with (refine wpList_store_row rfl 83 (.tmp 4) (.tmp 55) rfl (w.heap.size + 2) (frC v k s 0 c (.slice (some ⟨g6, 0, none⟩) (n + 1) cp6)) rfl rfl 83 _ hz3 ssInfo rfl (fs_one _ _ _ _ _ _ _ _) ?_)
              obtain ⟨hh, HG9⟩ := HFIN.out
              obtain ⟨g0, g1, g2, g3, g4, g5'⟩ := fr_block hh
              refine bodyPost_ret (by simp [results, Try.results32, go_sem, g0, g1, g2, g3, g4, g5']; try rfl) rfl ?_
              exact HG9
          · rw [if_pos hyes] at HSE
            clear KH hb3'
            go_wp2_with (refine wpList_store_row rfl 83 (.tmp 4) (.tmp 38) rfl (w.heap.size + 2) (frC v k s 0 c (.slice A n cp)) rfl rfl 83 _ hx3b ssInfo rfl (fs_one _ _ _ _ _ _ _ _) ?_)
            obtain ⟨g0, g1, g2, g3, g4, g5, HFIN⟩ := HEND.out _ 16 hb3 HSE.out (by omega)
            refine bodyPost_ret (by simp [results, Try.results32, go_sem, g0, g1, g2, g3, g4, g5]; try rfl) rfl ?_
            exact HFIN
end Go.Proofs.Ytloncplpjdekoaa

namespace Go.Proofs.Ytloncplpjdekoaa
open Go.RowKit
set_option maxRecDepth 100000

set_option maxHeartbeats 8000000 in
theorem rcheck_any (v k s i c : Int) (w : World) :
    Calls Try.prog 26 #[hdV v k s i c] w fun e w' => e = .returned (.int .i64 (chk v k i c)) ∧ Below w.heap.size w w' := by
  unfold hdV
  rcases chk_cases v k i c with ⟨h, h1⟩ | ⟨h, h1, h2, h3⟩ | ⟨h, h1, h2, h3, h4, h5⟩ | ⟨h, h1, h2, h3, h4, h5, h6, h7⟩ | ⟨h, h1, h2, h3, h4, h5, h6, h7, h8⟩
  · rw [h]
    have a1 : (v != 1) = true := by simp; omega
    have a2 : (v != 2) = true := by simp; omega
    clear h h1
    go_enter Try.func26, Try.ntmps26
    go_wp2
    go_ret
    exact ⟨rfl, (Below.refl _ w).alloc (Nat.le_refl _) _⟩
  · rw [h]
    obtain rfl | rfl : v = 1 ∨ v = 2 := by omega
    all_goals
      rcases h3 with h3 | h3
      all_goals
        go_enter Try.func26, Try.ntmps26
        go_wp2
        all_goals
          go_ret
          exact ⟨rfl, (Below.refl _ w).alloc (Nat.le_refl _) _⟩
  · rw [h]
    obtain rfl | rfl : v = 1 ∨ v = 2 := by omega
    all_goals
      rcases h5 with h5 | h5
      all_goals
        go_enter Try.func26, Try.ntmps26
        go_wp2
        all_goals
          go_ret
          exact ⟨rfl, (Below.refl _ w).alloc (Nat.le_refl _) _⟩
  · rw [h]
    obtain rfl | rfl : v = 1 ∨ v = 2 := by omega
    all_goals
      rcases h7 with h7 | h7
      all_goals
        go_enter Try.func26, Try.ntmps26
        go_wp2
        all_goals
          go_ret
          exact ⟨rfl, (Below.refl _ w).alloc (Nat.le_refl _) _⟩
  · rw [h]
    obtain rfl | rfl : v = 1 ∨ v = 2 := by omega
    all_goals
      go_enter Try.func26, Try.ntmps26
      go_wp2
      all_goals
        go_ret
        exact ⟨rfl, (Below.refl _ w).alloc (Nat.le_refl _) _⟩
end Go.Proofs.Ytloncplpjdekoaa

namespace Go.Proofs.Ytloncplpjdekoaa
open Go.RowKit Go.Shelf
set_option maxRecDepth 100000
attribute [local go_sem] Oper.semAt_some

/-- a frame, cut -/
theorem cut_any (v k s i c : Int) (A : Option Addr) (n m cp : Nat) (w : World) (hm : min (n : Int) 250 = (m : Int)) (hmn : m ≤ n) (hn : n ≤ cp) :
    Calls Try.prog 9 #[frV v k s i c (.slice A n cp)] w fun e w' => e = .returned (frV v k s i c (.slice A m cp)) ∧ Below w.heap.size w w' := by
  have hmc : (m : Int) ≤ (cp : Int) := by omega
  unfold frV
  have HF : Hid (frC v k s i c (.slice A n cp) = #[.int .i64 v, .int .i64 k, .int .u32 s, .int .i64 i, .int .i64 c, .slice A n cp]) := rfl
  have HG : Hid (frC v k s i c (.slice A m cp) = #[.int .i64 v, .int .i64 k, .int .u32 s, .int .i64 i, .int .i64 c, .slice A m cp]) := rfl
  rw [HF.out, HG.out]
  go_enter Try.func9, Try.ntmps9
  go_wp2
  refine bodyPost_ret (v := .agg #[.int .i64 v, .int .i64 k, .int .u32 s, .int .i64 i, .int .i64 c, .slice A m cp]) (by simp [results, Try.results9, go_sem]) rfl ?_
  exact ⟨rfl, ((Below.refl _ w).alloc (Nat.le_refl _) _).alloc (by simp) _⟩
end Go.Proofs.Ytloncplpjdekoaa

namespace Go.Proofs.Ytloncplpjdekoaa
open Go.RowKit Go.Shelf
set_option maxRecDepth 100000
attribute [local go_sem] Oper.semAt_some

theorem of_frame (v k s i c : Int) (A : Option Addr) (n cp : Nat) (w : World) : Calls Try.prog 11 #[frV v k s i c (.slice A n cp)] w fun e w' => e = .returned (frV v k s i c (.slice A n cp)) ∧ Below w.heap.size w w' := by
  have hb : Below w.heap.size w ((w.alloc (.cells (frC v k s i c (.slice A n cp)) 36)).alloc (.cells (frC v k s i c (.slice A n cp)) 46)) := ((Below.refl _ w).alloc (Nat.le_refl _) _).alloc (by simp) _
  have HB := Lib.hid hb
  unfold frV
  have HF : Hid (frC v k s i c (.slice A n cp) = #[.int .i64 v, .int .i64 k, .int .u32 s, .int .i64 i, .int .i64 c, .slice A n cp]) := rfl
  rw [HF.out] at HB ⊢
  clear hb
  go_enter Try.func11, Try.ntmps11
  go_wp2
  refine bodyPost_ret (v := .agg #[.int .i64 v, .int .i64 k, .int .u32 s, .int .i64 i, .int .i64 c, .slice A n cp]) (by simp [results, Try.results11, go_sem]) rfl ?_
  exact ⟨rfl, HB.out⟩
end Go.Proofs.Ytloncplpjdekoaa

namespace Go.Proofs.Ytloncplpjdekoaa
open Go.RowKit
section
variable {P : Program} {fs : List Tmp} {FS : Tmp → Value → World → Prop} {I : World → Prop}
/-- the walk in the text's order: operations ahead of the store (true: it may come behind it), the store, the rest -/
def wpFL (P : Program) (ops : Array Oper) (I : World → Prop) (fs : List Tmp) (FS : Tmp → Value → World → Prop) (St : (Tmp → Value) → World → World → Prop) (E : Act → Prop) : List Bool → List Oper → Act → Prop
  | _, [], a => E a
  | [], o :: r, a => StOb P ops I fs FS St o a ∧ wpFS P ops I fs FS St E none r a
  | false :: m, o :: r, a => ∃ v, Ob P ops I fs FS o v a ∧ wpFL P ops I fs FS St E m r (a.put o.dst v)
  | true :: m, o :: r, a => ∃ v, PureOb P ops fs o v a ∧ wpFL P ops I fs FS St E m r (a.put o.dst v)
theorem wpFL_vals {ops : Array Oper} {St : (Tmp → Value) → World → World → Prop} {E : Act → Prop} : ∀ (ms : List Bool) (l : List Oper) (a : Act), wpFL P ops I fs FS St E ms l a → ∃ vs : List Value, vs.length = l.length ∧
    (∀ (j : Nat) o v, l[j]? = some o → vs[j]? = some v → (j < ms.length → Ob P ops I fs FS o v (lex l vs a j)) ∧ (j = ms.length → StOb P ops I fs FS St o (lex l vs a j)) ∧ (ms.length < j ∨ ms.getD j false = true → PureOb P ops fs o v (lex l vs a j))) ∧ E (lex l vs a l.length)
  | _, [], a, h => ⟨[], rfl, by simp, by cases ‹List Bool› with | nil => exact h | cons b m => cases b <;> exact h⟩
  | [], o :: r, a, ⟨hob, hr⟩ => by
    obtain ⟨vs, h1, h2, h3⟩ := wpFS_vals0 r _ hr
    have hput : a.put o.dst undef = a := by rw [hob.1]; rfl
    refine ⟨undef :: vs, by simp [h1], fun j o' v' ho hv => ?_, ?_⟩
    · cases j with
      | zero =>
        simp only [List.getElem?_cons_zero, Option.some.injEq] at ho hv
        subst ho hv
        exact ⟨fun h => absurd h (Nat.not_lt_zero _), fun _ => hob, fun h => h.elim (fun h => absurd h (Nat.not_lt_zero _)) (fun h => by simp at h)⟩
      | succ j =>
        simp only [List.getElem?_cons_succ] at ho hv
        refine ⟨fun h => absurd h (Nat.not_lt_zero _), fun h => absurd h (Nat.succ_ne_zero j), fun _ => ?_⟩
        show PureOb P ops fs o' v' (lex r vs (a.put o.dst undef) j)
        rw [hput]
        exact h2 j o' v' ho hv
    · show E (lex r vs (a.put o.dst undef) r.length)
      rw [hput]
      exact h3
  | false :: m, o :: r, a, ⟨v, hob, hr⟩ => by
    obtain ⟨vs, h1, h2, h3⟩ := wpFL_vals m r _ hr
    refine ⟨v :: vs, by simp [h1], fun j o' v' ho hv => ?_, h3⟩
    cases j with
    | zero =>
      simp only [List.getElem?_cons_zero, Option.some.injEq] at ho hv
      subst ho hv
      exact ⟨fun _ => hob, fun h => by simp at h, fun h => by simp at h⟩
    | succ j =>
      simp only [List.getElem?_cons_succ] at ho hv
      obtain ⟨q1, q2, q3⟩ := h2 j o' v' ho hv
      exact ⟨fun h => q1 (by simp at h; omega), fun h => q2 (by simp at h; omega), fun h => q3 (by simp at h; exact h.imp (fun h => by omega) (fun h => by simpa using h))⟩
  | true :: m, o :: r, a, ⟨v, hob, hr⟩ => by
    obtain ⟨vs, h1, h2, h3⟩ := wpFL_vals m r _ hr
    refine ⟨v :: vs, by simp [h1], fun j o' v' ho hv => ?_, h3⟩
    cases j with
    | zero =>
      simp only [List.getElem?_cons_zero, Option.some.injEq] at ho hv
      subst ho hv
      exact ⟨fun _ => hob.ob, fun h => by simp at h, fun _ => hob⟩
    | succ j =>
      simp only [List.getElem?_cons_succ] at ho hv
      obtain ⟨q1, q2, q3⟩ := h2 j o' v' ho hv
      exact ⟨fun h => q1 (by simp at h; omega), fun h => q2 (by simp at h; omega), fun h => q3 (by simp at h; exact h.imp (fun h => by omega) (fun h => by simpa using h))⟩
/-- ONE WALK IN THE TEXT's ORDER SERVES EVERY ORDER, the store behind as many as ms has -/
theorem wp_region_FL {id : Nat} {Q : Exit → Act → World → Prop} {a : Act} {w : World} {l : List Oper} (N f : Nat) (ms : List Bool) (fs : List Tmp) (FS : Tmp → Value → World → Prop) (I : World → Prop) (St : (Tmp → Value) → World → World → Prop) (hm : P.follows .mixedOrders = true) (hB : rgB .any l.toArray N = true)
    (hk : decide (ms.length < l.length) = true) (hreach : ((List.range ms.length).all fun j => ms.getD j false || reachB .any l.toArray f ms.length j) = true) (hfs : (fs.all fun s => (List.range ms.length).any fun j => !ms.getD j false && ((l[j]?).bind (·.dst) == some s)) = true) (hN : N ≤ a.tmps.size) (hI : Closed I) (hF : ∀ s x w w', FS s x w → Below w.heap.size w w' → FS s x w') (hC : I w.drew)
    (h : wpFL P l.toArray I fs FS St (fun a' => ∀ xs W w', I W → (∀ s ∈ fs, FS s (xs s) W) → St xs W w' → Q .normal (fill fs xs a') w') ms l a) : (Code.region id l.toArray true).wp P Q a w := by
  have hR := rgB_spec hB
  have hk' : ms.length < l.length := by simpa using hk
  obtain ⟨vs, hlen, hob, hE⟩ := wpFL_vals ms l a h
  have hfs' : ∀ s ∈ fs, ∃ (j : Nat) (o : Oper), j < ms.length ∧ ms.getD j false = false ∧ l[j]? = some o ∧ o.dst = some s := fun s hs => by
    rw [List.all_eq_true] at hfs
    have h1 := hfs s hs
    rw [List.any_eq_true] at h1
    obtain ⟨j, hj, hd⟩ := h1
    rw [List.mem_range] at hj
    rw [Bool.and_eq_true] at hd
    obtain ⟨o, ho⟩ : ∃ o, l[j]? = some o := ⟨_, List.getElem?_eq_getElem (by omega)⟩
    rw [ho] at hd
    exact ⟨j, o, hj, by simpa using hd.1, ho, by simpa using hd.2⟩
  exact region_of_FS (late := fun j => ms.getD j false) hm hR hk' (fun j hj hl => by
    rw [List.all_eq_true] at hreach
    have h1 := hreach j (List.mem_range.2 hj)
    rw [hl, Bool.false_or] at h1
    exact h1) hfs' hN hI hF hC hlen hob hE
/-! ### its steps -/
variable {l : List Oper} {St : (Tmp → Value) → World → World → Prop} {E : Act → Prop} {o : Oper} {rest : List Oper} {a : Act} {ms : List Bool}
theorem wpFL_step (h : wpF P l.toArray I fs FS (fun a' => wpFL P l.toArray I fs FS St E ms rest a') [o] a) : wpFL P l.toArray I fs FS St E (false :: ms) (o :: rest) a := by
  obtain ⟨v, hob, hr⟩ := h
  exact ⟨v, hob, hr⟩
/-- one that may come behind the store -/
theorem wpFL_late (h : wpFS P l.toArray I fs FS St (fun a' => wpFL P l.toArray I fs FS St E ms rest a') none [o] a) : wpFL P l.toArray I fs FS St E (true :: ms) (o :: rest) a := by
  obtain ⟨v, hob, hr⟩ := h
  exact ⟨v, hob, hr⟩
theorem wpFL_store (h : wpFS P l.toArray I fs FS St E (some 0) (o :: rest) a) : wpFL P l.toArray I fs FS St E [] (o :: rest) a := h
end
end Go.Proofs.Ytloncplpjdekoaa

namespace Go.Proofs.Ytloncplpjdekoaa
open Go.RowKit
section
variable {P : Program} {l : List Oper} {vs : List Value} {fs : List Tmp} {FS : Tmp → Value → World → Prop} {I : World → Prop} {a0 : Act}
/-- an operation that looks at no memory, and at one source: of whatever is good for what the source promises it makes one value -/
def UseOb (P : Program) (ops : Array Oper) (I : World → Prop) (fs : List Tmp) (FS : Tmp → Value → World → Prop) (o : Oper) (v : Value) (a : Act) : Prop :=
  ∃ s, s ∈ fs ∧ (∃ j, (ops[j]?).bind (·.dst) = some s ∧ o.after.any (fun e => Region.binds .any e && e.on == j) = true) ∧ (∀ d ∈ o.looksAt ops, d ∈ fs → d = s) ∧ (∀ d, o.dst = some d → d ∉ fs) ∧
    ∀ x W, I W → FS s x W → Region.wanted o (yielded ops (a.put (some s) x).tmps) = true ∧ ∀ w, purUpon w v ((execOp (a.put (some s) x).eval o).run P w)
def LateOb (P : Program) (ops : Array Oper) (I : World → Prop) (fs : List Tmp) (FS : Tmp → Value → World → Prop) (o : Oper) (v : Value) (a : Act) : Prop := PureOb P ops fs o v a ∨ UseOb P ops I fs FS o v a
theorem LateOb.dst {ops : Array Oper} {o : Oper} {v : Value} {a : Act} (h : LateOb P ops I fs FS o v a) : ∀ d, o.dst = some d → d ∉ fs := by
  rcases h with h | ⟨_, _, _, _, h, _⟩
  · exact h.2.1
  · exact h
theorem LateOb.ob {ops : Array Oper} {o : Oper} {v : Value} {a : Act} (h : LateOb P ops I fs FS o v a) : Ob P ops I fs FS o v a := by
  rcases h with h | ⟨s, h1, h2, h3, h4, h5⟩
  · exact h.ob
  · refine .inr (.inr (.inl ⟨s, h1, h2, h3, h4, fun x w hI hx => ?_⟩))
    obtain ⟨q1, q2⟩ := h5 x w hI hx
    refine ⟨q1, ?_⟩
    have q3 := q2 w
    generalize (execOp (a.put (some s) x).eval o).run P w = r at q3
    cases r with
    | ok n w' =>
      cases n <;> simp only [purUpon] at q3
      case value u => exact q3
      case skip => exact q3
    | halt x w' => simp only [purUpon] at q3
theorem any_of_FG {N k f : Nat} {late : Nat → Bool} {Q' : Exit → Act → World → Prop} {St : (Tmp → Value) → World → World → Prop} (hR : RG .any l.toArray N) (hN : N ≤ a0.tmps.size) (hlen : vs.length = l.length) (hI : Closed I) (hF : ∀ s x w w', FS s x w → Below w.heap.size w w' → FS s x w')
    (hob : ∀ (j : Nat) o v, l[j]? = some o → vs[j]? = some v → (j < k → Ob P l.toArray I fs FS o v (lex l vs a0 j)) ∧ (j = k → StOb P l.toArray I fs FS St o (lex l vs a0 j)) ∧ (k < j ∨ late j = true → LateOb P l.toArray I fs FS o v (lex l vs a0 j)))
    (hk : k < l.length) (hreach : ∀ j, j < k → late j = false → reachB .any l.toArray f k j = true) (hfs : ∀ s ∈ fs, ∃ (j : Nat) (o : Oper), j < k ∧ late j = false ∧ l[j]? = some o ∧ o.dst = some s)
    (hQ : ∀ (listed : Array Bool) b W w xs, (∀ j, listed.getD j true = true) → Inv l vs fs FS I a0 listed b W → (∀ s ∈ fs, b.tmps[s]? = some (xs s) ∧ FS s (xs s) W) → St xs W w → Q' .normal b w) :
    ∀ (fuel : Nat) (listed : Array Bool) (b : Act) (W w : World), listed.toList.count false ≤ fuel → Inv l vs fs FS I a0 listed b W →
      ((listed.getD k true = false ∧ w = W) ∨ (listed.getD k true = true ∧ ∃ xs, (∀ s ∈ fs, b.tmps[s]? = some (xs s) ∧ FS s (xs s) W) ∧ St xs W w)) → wpAny P .any l.toArray Q' fuel listed b w
  | 0, listed, b, W, w, hc, h, hp => by
    have hall := count_zero (L := listed) (by omega)
    rcases hp with ⟨h0, _⟩ | ⟨_, xs, hx, hst⟩
    · rw [hall k] at h0; cases h0
    refine ⟨?_, hQ listed b W w xs hall h hx hst⟩
    rw [List.eq_nil_iff_forall_not_mem]
    intro i hi
    have := (mem_ready.1 hi).1
    rw [hall i] at this
    cases this
  | fuel + 1, listed, b, W, w, hc, h, hph => by
    refine ⟨fun h0 => ?_, fun i hi => ?_⟩
    · have hall := ready_all hR h.lsize h0
      rcases hph with ⟨h0, _⟩ | ⟨_, xs, hx, hst⟩
      · rw [hall k] at h0; cases h0
      · exact hQ listed b W w xs hall h hx hst
    obtain ⟨hun, o, ho, hall⟩ := mem_ready.1 hi
    have ho2 : l[i]? = some o := by simpa using ho
    have hp : ∀ e ∈ o.after, Region.binds .any e = true → listed.getD e.on true = true := fun e he hb => by
      have h1 := hall e he hb
      rw [Array.getD_eq_getD_getElem?] at h1 ⊢
      cases hx : listed[e.on]? with
      | none => rfl
      | some y => rw [hx] at h1; simpa using h1
    obtain ⟨v, hv⟩ : ∃ v, vs[i]? = some v := ⟨_, List.getElem?_eq_getElem (by rw [hlen]; exact (List.getElem?_eq_some_iff.1 ho2).1)⟩
    obtain ⟨q1, q2, q3⟩ := hob i o v ho2 hv
    have hcnt := count_set hun
    have hsel : ∀ cs c, o.op ≠ .select cs c := fun cs c => hR.sel i o cs c ho
    have ag : ∀ d ∈ o.looksAt l.toArray, d ∉ fs → (lex l vs a0 i).tmps[d]? = b.tmps[d]? := fun d hd hf => h.agree hR hN hlen ho2 hun hp hd hf
    rcases hph with ⟨hk0, rfl⟩ | ⟨hk1, xs, hx, hst⟩
    · by_cases hik : i = k
      · subst hik
        obtain ⟨hdst, hstore⟩ := q2 rfl
        have got : ∀ s ∈ fs, ∃ x, b.tmps[s]? = some x ∧ FS s x w ∧ s < (lex l vs a0 i).tmps.size := fun s hs => by
          obtain ⟨j, oj, hji, hlj, hoj, hdj⟩ := hfs s hs
          obtain ⟨vj, hvj⟩ : ∃ v, vs[j]? = some v := ⟨_, List.getElem?_eq_getElem (by rw [hlen]; exact (List.getElem?_eq_some_iff.1 hoj).1)⟩
          obtain ⟨x, hbx, hfx⟩ := (h.ins j oj s vj hoj (reach_ready h ho2 hp f j (hreach j hji hlj)) hdj hvj).1 hs
          exact ⟨x, hbx, hfx, by rw [(lex_size l vs a0 i).1]; exact Nat.lt_of_lt_of_le (hR.small j oj s (by simpa using hoj) hdj) hN⟩
        have hxs : ∀ s ∈ fs, b.tmps[s]? = some (b.tmps.getD s undef) ∧ FS s (b.tmps.getD s undef) w := fun s hs => by
          obtain ⟨x, hbx, hfx, _⟩ := got s hs
          simpa [hbx] using hfx
        have ag2 : ∀ d ∈ o.looksAt l.toArray, (fill fs (fun s => b.tmps.getD s undef) (lex l vs a0 i)).tmps[d]? = b.tmps[d]? := fun d hd => by
          by_cases hdf : d ∈ fs
          · obtain ⟨x, hbx, _, hlt⟩ := got d hdf
            rw [fill_in fs _ _ d hdf hlt, hbx]
            simp [hbx]
          · rw [fill_out fs _ _ d hdf]
            exact ag d hd hdf
        obtain ⟨hwt, h3⟩ := hstore (fun s => b.tmps.getD s undef) w h.cls fun s hs => (hxs s hs).2
        rw [wanted_agree (ops := l.toArray) ag2] at hwt
        rw [exec_agree (ops := l.toArray) hsel ag2] at h3
        have hin : ∀ u, Inv l vs fs FS I a0 (listed.setIfInBounds i true) (b.put o.dst u) w := fun u => h.next hR hN hI hF ho2 hp (Below.refl _ _) fun d hd => by rw [hdst] at hd; cases hd
        have hput : ∀ u, b.put o.dst u = b := fun u => by rw [hdst]; rfl
        have kk : ∀ u w', St (fun s => b.tmps.getD s undef) w w' → wpAny P .any l.toArray Q' fuel (listed.setIfInBounds i true) (b.put o.dst u) w' := fun u w' hs =>
          any_of_FG hR hN hlen hI hF hob hk hreach hfs hQ fuel _ _ w w' (by omega) (hin u) (.inr ⟨getD_set_same _ _, _, by rw [hput u]; exact hxs, hs⟩)
        unfold Go.wpOp
        simp only [ho]
        rw [if_pos hwt]
        left
        unfold Oper.wp
        generalize (execOp b.eval o).run P w = r at h3
        cases r with
        | ok n w' =>
          cases n <;> simp only [stUpon] at h3 <;> simp only [Oper.upon]
          case value u => exact kk _ _ h3
          case skip => exact kk _ _ h3
        | halt x w' => simp only [stUpon] at h3
      · have hob' : Ob P l.toArray I fs FS o v (lex l vs a0 i) := by
          rcases Nat.lt_or_gt_of_ne hik with hlt | hgt
          · exact q1 hlt
          · exact (q3 (.inl hgt)).ob
        exact op_of_F hR hN hlen h ho2 hun hp hv hob' fun u w' hb hu =>
          any_of_FG hR hN hlen hI hF hob hk hreach hfs hQ fuel _ _ w' w' (by omega) (h.next hR hN hI hF ho2 hp hb hu) (.inl ⟨by rw [getD_set_far _ hik]; exact hk0, rfl⟩)
    · have hki : k < i ∨ late i = true := by
        rcases Nat.lt_trichotomy i k with hlt | rfl | hgt
        · cases hla : late i with
          | true => exact .inr rfl
          | false => rw [reach_listed h f k i hk1 (hreach i hlt hla)] at hun; cases hun
        · rw [hk1] at hun; cases hun
        · exact .inl hgt
      have h2 := (q3 hki).dst
      have kv : wpAny P .any l.toArray Q' fuel (listed.setIfInBounds i true) (b.put o.dst v) w :=
        any_of_FG hR hN hlen hI hF hob hk hreach hfs hQ fuel _ _ W w (by omega) (h.next hR hN hI hF ho2 hp (Below.refl _ _) fun d hd => ⟨fun hf => absurd hf (h2 d hd), fun _ => hv⟩)
          (.inr ⟨getD_set_up _ hk1, xs, fun s hs => ⟨by rw [put_other v (fun e => h2 s e hs)]; exact (hx s hs).1, (hx s hs).2⟩, hst⟩)
      unfold Go.wpOp
      simp only [ho]
      rcases q3 hki with ⟨h1, _, h3⟩ | ⟨s, hs, _, h1, _, huse⟩
      · have he := exec_agree (ops := l.toArray) hsel fun d hd => ag d hd (h1 d hd)
        have hw := wanted_agree (ops := l.toArray) fun d hd => ag d hd (h1 d hd)
        rcases h3 with ⟨hwt, hval⟩ | ⟨hwf, rfl⟩
        · rw [hw] at hwt
          rw [if_pos hwt]
          left
          have h4 := hval w
          rw [he] at h4
          unfold Oper.wp
          generalize (execOp b.eval o).run P w = r at h4
          cases r with
          | ok n w' =>
            cases n <;> simp only [purUpon] at h4 <;> simp only [Oper.upon]
            case value u => obtain ⟨rfl, rfl⟩ := h4; exact kv
            case skip => obtain ⟨rfl, rfl⟩ := h4; exact kv
          | halt x w' => simp only [purUpon] at h4
        · rw [hw] at hwf
          rw [hwf, if_neg (by simp)]
          exact kv
      · obtain ⟨hbx, hfx⟩ := hx s hs
        have hslt : s < (lex l vs a0 i).tmps.size := by
          rw [(lex_size l vs a0 i).1, ← h.size]
          exact (Array.getElem?_eq_some_iff.1 hbx).1
        have ag2 : ∀ d ∈ o.looksAt l.toArray, ((lex l vs a0 i).put (some s) (xs s)).tmps[d]? = b.tmps[d]? := fun d hd => by
          by_cases hsd : s = d
          · subst hsd
            rw [put_same (xs s) hslt, hbx]
          · rw [put_other (xs s) (by simpa using hsd)]
            exact ag d hd fun hf => hsd (h1 d hd hf).symm
        obtain ⟨hwt, hval⟩ := huse (xs s) W h.cls hfx
        have he := exec_agree (ops := l.toArray) hsel ag2
        rw [wanted_agree (ops := l.toArray) ag2] at hwt
        rw [if_pos hwt]
        left
        have h4 := hval w
        rw [he] at h4
        unfold Oper.wp
        generalize (execOp b.eval o).run P w = r at h4
        cases r with
        | ok n w' =>
          cases n <;> simp only [purUpon] at h4 <;> simp only [Oper.upon]
          case value u => obtain ⟨rfl, rfl⟩ := h4; exact kv
          case skip => obtain ⟨rfl, rfl⟩ := h4; exact kv
        | halt x w' => simp only [purUpon] at h4

theorem region_of_FG {id : Nat} {Q : Exit → Act → World → Prop} {a : Act} {w : World} {l : List Oper} {vs : List Value} {N k f : Nat} {late : Nat → Bool} {fs : List Tmp} {FS : Tmp → Value → World → Prop} {I : World → Prop} {St : (Tmp → Value) → World → World → Prop} (hm : P.follows .mixedOrders = true) (hR : RG .any l.toArray N)
    (hk' : k < l.length) (hreach : ∀ j, j < k → late j = false → reachB .any l.toArray f k j = true) (hfs' : ∀ s ∈ fs, ∃ (j : Nat) (o : Oper), j < k ∧ late j = false ∧ l[j]? = some o ∧ o.dst = some s) (hN : N ≤ a.tmps.size) (hI : Closed I) (hF : ∀ s x w w', FS s x w → Below w.heap.size w w' → FS s x w') (hC : I w.drew)
    (hlen : vs.length = l.length) (hob : ∀ (j : Nat) o v, l[j]? = some o → vs[j]? = some v → (j < k → Ob P l.toArray I fs FS o v (lex l vs a j)) ∧ (j = k → StOb P l.toArray I fs FS St o (lex l vs a j)) ∧ (k < j ∨ late j = true → LateOb P l.toArray I fs FS o v (lex l vs a j)))
    (hE : ∀ xs W w', I W → (∀ s ∈ fs, FS s (xs s) W) → St xs W w' → Q .normal (fill fs xs (lex l vs a l.length)) w') : (Code.region id l.toArray true).wp P Q a w := by
  refine wp_region_any hm ?_
  refine any_of_FG (l := l) (vs := vs) (fs := fs) (FS := FS) (I := I) (a0 := a) (St := St) (k := k) (f := f) (late := late) hR hN hlen hI hF hob hk' hreach hfs' ?_ _ _ _ w.drew _ ?_ ?_ ?_
  · intro listed b W w' xs hall hinv hx hst
    have hb : b = fill fs xs (lex l vs a l.length) := by
      have ht : b.tmps = (fill fs xs (lex l vs a l.length)).tmps := by
        apply Array.ext_getElem?
        intro d
        by_cases hd : d ∈ fs
        · have hlt : d < (lex l vs a l.length).tmps.size := by
            rw [(lex_size l vs a l.length).1, ← hinv.size]
            exact (Array.getElem?_eq_some_iff.1 (hx d hd).1).1
          rw [fill_in fs _ _ d hd hlt, (hx d hd).1]
        · rw [fill_out fs _ _ d hd]
          by_cases hwr : ∃ (j : Nat) (oj : Oper), l[j]? = some oj ∧ oj.dst = some d
          · obtain ⟨j, oj, hj, hdj⟩ := hwr
            obtain ⟨v, hv⟩ : ∃ v, vs[j]? = some v := ⟨_, List.getElem?_eq_getElem (by rw [hlen]; exact (List.getElem?_eq_some_iff.1 hj).1)⟩
            have hj' : l.toArray[j]? = some oj := by simpa using hj
            rw [(hinv.ins j oj d v hj (hall j) hdj hv).2 hd]
            exact (lex_in l vs a l.length j oj d v hj (List.getElem?_eq_some_iff.1 hj).1 hv hdj (Nat.lt_of_lt_of_le (hR.small _ _ _ hj' hdj) hN) fun i oi hi _ hne => hR.once i j oi oj d (by simpa using hi) hj' hdj hne).symm
          · rw [lex_out l vs a l.length d fun i oi hi _ hdi => hwr ⟨i, oi, hi, hdi⟩]
            exact hinv.out d fun i oi hi _ hdi => hwr ⟨i, oi, hi, hdi⟩
      have hd : b.defers = (fill fs xs (lex l vs a l.length)).defers := by
        rw [(fill_size ..).2, (lex_size ..).2]
        exact hinv.defers
      cases b
      simp only at ht hd
      rw [Act.mk.injEq]
      exact ⟨ht, hd⟩
    rw [hb]
    exact hE xs W w' hinv.cls (fun s hs => (hx s hs).2) hst
  · simp
  · refine ⟨hC, rfl, rfl, fun _ _ => rfl, fun j o d v hj hlj => ?_, fun j o hj hlj => ?_, by simp⟩
    all_goals
      have hlt := (List.getElem?_eq_some_iff.1 hj).1
      rw [Array.getD_eq_getD_getElem?] at hlj
      simp [hlt] at hlj
  · refine .inl ⟨?_, rfl⟩
    rw [Array.getD_eq_getD_getElem?]
    simp [hk']

/-- the walk behind the store -/
def wpFGn (P : Program) (ops : Array Oper) (I : World → Prop) (fs : List Tmp) (FS : Tmp → Value → World → Prop) (E : Act → Prop) : List Oper → Act → Prop
  | [], a => E a
  | o :: r, a => ∃ v, LateOb P ops I fs FS o v a ∧ wpFGn P ops I fs FS E r (a.put o.dst v)
theorem wpFGn_vals {ops : Array Oper} {E : Act → Prop} : ∀ (l : List Oper) (a : Act), wpFGn P ops I fs FS E l a → ∃ vs : List Value, vs.length = l.length ∧
    (∀ (j : Nat) o v, l[j]? = some o → vs[j]? = some v → LateOb P ops I fs FS o v (lex l vs a j)) ∧ E (lex l vs a l.length)
  | [], a, h => ⟨[], rfl, by simp, h⟩
  | o :: r, a, ⟨v, hob, hr⟩ => by
    obtain ⟨vs, h1, h2, h3⟩ := wpFGn_vals r _ hr
    refine ⟨v :: vs, by simp [h1], fun j o' v' ho hv => ?_, h3⟩
    cases j with
    | zero =>
      simp only [List.getElem?_cons_zero, Option.some.injEq] at ho hv
      subst ho hv
      exact hob
    | succ j =>
      simp only [List.getElem?_cons_succ] at ho hv
      exact h2 j o' v' ho hv
/-- the walk in the text's order: operations ahead of the store (true: it may come behind it), the store, the rest -/
def wpFG (P : Program) (ops : Array Oper) (I : World → Prop) (fs : List Tmp) (FS : Tmp → Value → World → Prop) (St : (Tmp → Value) → World → World → Prop) (E : Act → Prop) : List Bool → List Oper → Act → Prop
  | _, [], a => E a
  | [], o :: r, a => StOb P ops I fs FS St o a ∧ wpFGn P ops I fs FS E r a
  | false :: m, o :: r, a => ∃ v, Ob P ops I fs FS o v a ∧ wpFG P ops I fs FS St E m r (a.put o.dst v)
  | true :: m, o :: r, a => ∃ v, LateOb P ops I fs FS o v a ∧ wpFG P ops I fs FS St E m r (a.put o.dst v)
theorem wpFG_vals {ops : Array Oper} {St : (Tmp → Value) → World → World → Prop} {E : Act → Prop} : ∀ (ms : List Bool) (l : List Oper) (a : Act), wpFG P ops I fs FS St E ms l a → ∃ vs : List Value, vs.length = l.length ∧
    (∀ (j : Nat) o v, l[j]? = some o → vs[j]? = some v → (j < ms.length → Ob P ops I fs FS o v (lex l vs a j)) ∧ (j = ms.length → StOb P ops I fs FS St o (lex l vs a j)) ∧ (ms.length < j ∨ ms.getD j false = true → LateOb P ops I fs FS o v (lex l vs a j))) ∧ E (lex l vs a l.length)
  | _, [], a, h => ⟨[], rfl, by simp, by cases ‹List Bool› with | nil => exact h | cons b m => cases b <;> exact h⟩
  | [], o :: r, a, ⟨hob, hr⟩ => by
    obtain ⟨vs, h1, h2, h3⟩ := wpFGn_vals r _ hr
    have hput : a.put o.dst undef = a := by rw [hob.1]; rfl
    refine ⟨undef :: vs, by simp [h1], fun j o' v' ho hv => ?_, ?_⟩
    · cases j with
      | zero =>
        simp only [List.getElem?_cons_zero, Option.some.injEq] at ho hv
        subst ho hv
        exact ⟨fun h => absurd h (Nat.not_lt_zero _), fun _ => hob, fun h => h.elim (fun h => absurd h (Nat.not_lt_zero _)) (fun h => by simp at h)⟩
      | succ j =>
        simp only [List.getElem?_cons_succ] at ho hv
        refine ⟨fun h => absurd h (Nat.not_lt_zero _), fun h => absurd h (Nat.succ_ne_zero j), fun _ => ?_⟩
        show LateOb P ops I fs FS o' v' (lex r vs (a.put o.dst undef) j)
        rw [hput]
        exact h2 j o' v' ho hv
    · show E (lex r vs (a.put o.dst undef) r.length)
      rw [hput]
      exact h3
  | false :: m, o :: r, a, ⟨v, hob, hr⟩ => by
    obtain ⟨vs, h1, h2, h3⟩ := wpFG_vals m r _ hr
    refine ⟨v :: vs, by simp [h1], fun j o' v' ho hv => ?_, h3⟩
    cases j with
    | zero =>
      simp only [List.getElem?_cons_zero, Option.some.injEq] at ho hv
      subst ho hv
      exact ⟨fun _ => hob, fun h => by simp at h, fun h => by simp at h⟩
    | succ j =>
      simp only [List.getElem?_cons_succ] at ho hv
      obtain ⟨q1, q2, q3⟩ := h2 j o' v' ho hv
      exact ⟨fun h => q1 (by simp at h; omega), fun h => q2 (by simp at h; omega), fun h => q3 (by simp at h; exact h.imp (fun h => by omega) (fun h => by simpa using h))⟩
  | true :: m, o :: r, a, ⟨v, hob, hr⟩ => by
    obtain ⟨vs, h1, h2, h3⟩ := wpFG_vals m r _ hr
    refine ⟨v :: vs, by simp [h1], fun j o' v' ho hv => ?_, h3⟩
    cases j with
    | zero =>
      simp only [List.getElem?_cons_zero, Option.some.injEq] at ho hv
      subst ho hv
      exact ⟨fun _ => hob.ob, fun h => by simp at h, fun _ => hob⟩
    | succ j =>
      simp only [List.getElem?_cons_succ] at ho hv
      obtain ⟨q1, q2, q3⟩ := h2 j o' v' ho hv
      exact ⟨fun h => q1 (by simp at h; omega), fun h => q2 (by simp at h; omega), fun h => q3 (by simp at h; exact h.imp (fun h => by omega) (fun h => by simpa using h))⟩
/-- ONE WALK IN THE TEXT's ORDER SERVES EVERY ORDER, the store behind as many as ms has -/
theorem wp_region_FG {id : Nat} {Q : Exit → Act → World → Prop} {a : Act} {w : World} {l : List Oper} (N f : Nat) (ms : List Bool) (fs : List Tmp) (FS : Tmp → Value → World → Prop) (I : World → Prop) (St : (Tmp → Value) → World → World → Prop) (hm : P.follows .mixedOrders = true) (hB : rgB .any l.toArray N = true)
    (hk : decide (ms.length < l.length) = true) (hreach : ((List.range ms.length).all fun j => ms.getD j false || reachB .any l.toArray f ms.length j) = true) (hfs : (fs.all fun s => (List.range ms.length).any fun j => !ms.getD j false && ((l[j]?).bind (·.dst) == some s)) = true) (hN : N ≤ a.tmps.size) (hI : Closed I) (hF : ∀ s x w w', FS s x w → Below w.heap.size w w' → FS s x w') (hC : I w.drew)
    (h : wpFG P l.toArray I fs FS St (fun a' => ∀ xs W w', I W → (∀ s ∈ fs, FS s (xs s) W) → St xs W w' → Q .normal (fill fs xs a') w') ms l a) : (Code.region id l.toArray true).wp P Q a w := by
  have hR := rgB_spec hB
  have hk' : ms.length < l.length := by simpa using hk
  obtain ⟨vs, hlen, hob, hE⟩ := wpFG_vals ms l a h
  have hfs' : ∀ s ∈ fs, ∃ (j : Nat) (o : Oper), j < ms.length ∧ ms.getD j false = false ∧ l[j]? = some o ∧ o.dst = some s := fun s hs => by
    rw [List.all_eq_true] at hfs
    have h1 := hfs s hs
    rw [List.any_eq_true] at h1
    obtain ⟨j, hj, hd⟩ := h1
    rw [List.mem_range] at hj
    rw [Bool.and_eq_true] at hd
    obtain ⟨o, ho⟩ : ∃ o, l[j]? = some o := ⟨_, List.getElem?_eq_getElem (by omega)⟩
    rw [ho] at hd
    exact ⟨j, o, hj, by simpa using hd.1, ho, by simpa using hd.2⟩
  exact region_of_FG (late := fun j => ms.getD j false) hm hR hk' (fun j hj hl => by
    rw [List.all_eq_true] at hreach
    have h1 := hreach j (List.mem_range.2 hj)
    rw [hl, Bool.false_or] at h1
    exact h1) hfs' hN hI hF hC hlen hob hE

/-! ### its steps -/
section
variable {l : List Oper} {St : (Tmp → Value) → World → World → Prop} {E : Act → Prop} {o : Oper} {rest : List Oper} {a : Act} {ms : List Bool}
theorem wpFG_step (h : wpF P l.toArray I fs FS (fun a' => wpFG P l.toArray I fs FS St E ms rest a') [o] a) : wpFG P l.toArray I fs FS St E (false :: ms) (o :: rest) a := by
  obtain ⟨v, hob, hr⟩ := h
  exact ⟨v, hob, hr⟩
theorem useOb_of (s : Tmp) (j : Nat) (v : Value) (hs : s ∈ fs) (hj : (l[j]?).bind (·.dst) = some s) (hje : (o.after.any fun e => Region.binds .any e && e.on == j) = true)
    (hn : ((o.looksAt l.toArray).all fun d => !fs.contains d || d == s) = true) (hdst : (match o.dst with | some d => !fs.contains d | none => true) = true) (hw : ∀ x, Region.wanted o (yielded l.toArray (a.put (some s) x).tmps) = true)
    (hrun : ∀ x W, FS s x W → ∀ w, (execOp (a.put (some s) x).eval o).run P w = .ok (.value v) w) : UseOb P l.toArray I fs FS o v a := by
  refine ⟨s, hs, ⟨j, by simpa using hj, hje⟩, fun d hd hf => ?_, fun d hd => ?_, fun x W _ hx => ⟨hw x, fun w => ?_⟩⟩
  · have h1 := (List.all_eq_true.1 hn) d hd
    rw [Bool.or_eq_true] at h1
    rcases h1 with h1 | h1
    · rw [List.contains_iff_mem.2 hf] at h1; cases h1
    · simpa using h1
  · rw [hd] at hdst
    intro hf
    simp only [List.contains_iff_mem.2 hf] at hdst
    cases hdst
  · rw [hrun x W hx w]
    exact ⟨rfl, rfl⟩
/-- an operation ahead of the store that may come behind it, of one source's value -/
theorem wpFG_use (s : Tmp) (j : Nat) (v : Value) (hs : s ∈ fs) (hj : (l[j]?).bind (·.dst) = some s) (hje : (o.after.any fun e => Region.binds .any e && e.on == j) = true)
    (hn : ((o.looksAt l.toArray).all fun d => !fs.contains d || d == s) = true) (hdst : (match o.dst with | some d => !fs.contains d | none => true) = true) (hw : ∀ x, Region.wanted o (yielded l.toArray (a.put (some s) x).tmps) = true)
    (hrun : ∀ x W, FS s x W → ∀ w, (execOp (a.put (some s) x).eval o).run P w = .ok (.value v) w) (h : wpFG P l.toArray I fs FS St E ms rest (a.put o.dst v)) : wpFG P l.toArray I fs FS St E (true :: ms) (o :: rest) a :=
  ⟨v, .inr (useOb_of s j v hs hj hje hn hdst hw hrun), h⟩
theorem wpFG_storeX {t : TypeId} {x y : Operand} (ho : o.op = .store t x y) (hd : o.dst = none) (hg : o.guard = none)
    (hrun : ∀ xs w, I w → (∀ s ∈ fs, FS s (xs s) w) → ∃ w', (Instr.storeAt t ((fill fs xs a).eval x) ((fill fs xs a).eval y)).run P w = .ok () w' ∧ St xs w w') (h : wpFGn P l.toArray I fs FS E rest a) : wpFG P l.toArray I fs FS St E [] (o :: rest) a := by
  refine ⟨⟨hd, fun xs w hI hs => ⟨by simp [Region.wanted, hg], ?_⟩⟩, h⟩
  obtain ⟨w', hr, hst⟩ := hrun xs w hI hs
  unfold execOp
  simp only [ho]
  rw [Sem.run_bind, hr]
  exact hst
/-- behind the store -/
theorem wpFGn_pure (h : wpFS P l.toArray I fs FS (fun _ _ _ => True) (fun a' => wpFGn P l.toArray I fs FS E rest a') none [o] a) : wpFGn P l.toArray I fs FS E (o :: rest) a := by
  obtain ⟨v, hob, hr⟩ := h
  exact ⟨v, .inl hob, hr⟩
end
end
end Go.Proofs.Ytloncplpjdekoaa

namespace Go.Proofs.Ytloncplpjdekoaa
open Go.RowKit
set_option maxRecDepth 100000

theorem salike_any {w : World} {b m : Nat} {v k s : Int} {c : Int} {E : List Pl} (h : SlotAt w b m v k s c E) {A : Option Addr} {n cp : Nat} {fs : List Fr} (hr : RefAt w c A n cp fs) (hp : (E.map Pl.ct).Perm (fs.map Fr.ct)) :
    Calls Try.prog 45 #[.pointer (some ⟨b, 0, none⟩), frV v k s 0 c (.slice A n cp)] w fun e w' => e = .returned (.bool true) ∧ Below w.heap.size w w' := by
  obtain ⟨q, rfl, _⟩ := h.count
  by_cases hq : n = q
  · exact salike_full h hr hp hq
  · exact salike_part h hr hp hq
theorem frs_nil13 (W : World) (B : Nat) : FrsAt W B none [] := ⟨fun f hf => (by cases hf), fun j f hf => by simp at hf⟩
/-- the document's slot behind a frame -/
def nxF (gs : List Fr) (f : Fr) (er : Int) : List Fr := if er = 0 then gs ++ [f] else gs
def nxC (C : Sl.Ct) (f : Fr) (er : Int) : Sl.Ct := if er = 0 then C ++ [f.ct] else C
theorem nx_ct (gs : List Fr) (f : Fr) (er : Int) : (nxF gs f er).map Fr.ct = nxC (gs.map Fr.ct) f er := by
  unfold nxF nxC
  split <;> simp
theorem rput_nx {w w' : World} {v k s c : Int} {A : Option Addr} {n cp : Nat} {gs : List Fr} {f : Fr} {er : Int} {e : Ending} (hr : RefAt w c A n cp gs) (h : RPutR w v k s c A n cp gs f er e w') :
    ∃ A2 n2 cp2, e = .returned (.tuple #[frV v k s 0 c (.slice A2 n2 cp2), .int .i64 er]) ∧ RefAt w' c A2 n2 cp2 (nxF gs f er) ∧ Below w.heap.size w w' := by
  obtain ⟨hb, ⟨h0, he⟩ | ⟨h0, A2, cp2, he, hr2⟩⟩ := h
  · exact ⟨A, n, cp, he, by unfold nxF; rw [if_neg h0]; exact hr.below hb, hb⟩
  · subst h0
    exact ⟨A2, n + 1, cp2, he, hr2, hb⟩
theorem put_nx {w w' : World} {b m : Nat} {v k s c : Int} {E : List Pl} {f : Fr} {er : Int} {e : Ending} (h : PutR w b m v k s c E f.i.toNat f.zs er e w') :
    e = .returned (.int .i64 er) ∧ Off (fun q => q = m) w w' ∧ ∃ E2, SlotAt w' b m v k s c E2 ∧ E2.map Pl.ct = nxC (E.map Pl.ct) f er := by
  obtain ⟨he, ho, ⟨h0, hs⟩ | ⟨h0, p, hi, hz, hs⟩⟩ := h
  · exact ⟨he, ho, E, hs, by unfold nxC; rw [if_neg h0]⟩
  · refine ⟨he, ho, _, hs, ?_⟩
    unfold nxC
    rw [if_pos h0, List.map_append]
    simp [Pl.ct, Fr.ct, hi, hz]
/-- where the law's loop is: the slot and the document's are the same -/
structure PP (w : World) (b m bm : Nat) (v k s c : Int) (E : List Pl) (A : Option Addr) (n cp : Nat) (gs : List Fr) (wr : World) : Prop where
  slot : SlotAt wr b m v k s c E
  box : wr.heap[bm]? = some (.cells (frC v k s 0 c (.slice A n cp)) 83 (0, 0))
  ref : RefAt wr c A n cp gs
  same : E.map Pl.ct = gs.map Fr.ct
  below : Below w.heap.size w wr
theorem PP.below' {w wr wr' : World} {b m bm : Nat} {v k s c : Int} {E : List Pl} {A : Option Addr} {n cp : Nat} {gs : List Fr} (h : PP w b m bm v k s c E A n cp gs wr) (hb : Below wr.heap.size wr wr') : PP w b m bm v k s c E A n cp gs wr' :=
  ⟨h.slot.below hb, (hb.block bm (Array.getElem?_eq_some_iff.1 h.box).1).trans h.box, h.ref.below hb, h.same, h.below.trans (hb.mono h.below.size)⟩
theorem fs_store (W : World) (g : Nat) (old cs : Array Value) (h : W.heap[g]? = some (.cells old 83 (0, 0))) (ho : old.size = 6) (hc : cs.size = 6) (h1 : cs.all (·.oneCell') = true) :
    (Instr.storeAt 83 (.pointer (some ⟨g, 0, none⟩)) (.agg cs)).run Try.prog W = .ok () (W.setRow g cs) := by
  simp only [Instr.storeAt, Instr.sureAddr, Sem.run_bind, Sem.run_pure, Result.andThen]
  exact run_storeVar_row W g 83 83 old cs h (by rw [hc]; exact ssInfo) (by omega) h1
/-- what the operations of 'next, want := ref.Put(m, Of(f))' hand on -/
def FNx (H : Nat) (v k s c : Int) (gs : List Fr) (f : Fr) (er : Int) (q : Tmp) (x : Value) (W : World) : Prop :=
  if q = 12 then ∃ g, x = .pointer (some ⟨g, 0, none⟩) ∧ H ≤ g ∧ W.heap[g]? = some (.cells (frC 0 0 0 0 0 (.slice none 0 0)) 83 (0, 0))
  else ∃ A2 n2 cp2, x = (if q = 63 then frV v k s 0 c (.slice A2 n2 cp2) else .tuple #[frV v k s 0 c (.slice A2 n2 cp2), .int .i64 er]) ∧ RefAt W c A2 n2 cp2 (nxF gs f er)
theorem FNx.later {H : Nat} {v k s c : Int} {gs : List Fr} {f : Fr} {er : Int} {q : Tmp} {x : Value} {W W' : World} (h : FNx H v k s c gs f er q x W) (hb : Below W.heap.size W W') : FNx H v k s c gs f er q x W' := by
  unfold FNx at h ⊢
  split at h
  · rename_i hq
    rw [if_pos hq]
    obtain ⟨g, e, hg, h1⟩ := h
    exact ⟨g, e, hg, (hb.block g (Array.getElem?_eq_some_iff.1 h1).1).trans h1⟩
  · rename_i hq
    rw [if_neg hq]
    obtain ⟨A2, n2, cp2, e, h1⟩ := h
    exact ⟨A2, n2, cp2, e, h1.below hb⟩
end Go.Proofs.Ytloncplpjdekoaa

namespace Go.Proofs.Ytloncplpjdekoaa
open Go.RowKit Go.Shelf
set_option maxRecDepth 100000

theorem room_of14 (x : Int) : ∃ r : Nat, wrap64 (1 + wrap64 ((IntKind.u64.wrap x).tmod 16)) = (r : Int) ∧ 1 ≤ r ∧ r ≤ 16 := by
  have h0 : 0 ≤ IntKind.u64.wrap x := by rw [IntKind.wrap_u64]; omega
  have h1 := Int.tmod_nonneg 16 h0
  have h2 := Int.tmod_lt_of_pos (IntKind.u64.wrap x) (show (0 : Int) < 16 by omega)
  refine ⟨(1 + (IntKind.u64.wrap x).tmod 16).toNat, ?_, by omega, by omega⟩
  unfold wrap64; omega
theorem TblAt.good {w : World} {S : Nat → Prop} {b r m n cp : Nat} {A : Option Addr} {X : List Sx} (h : TblAt w S b r m A n cp X) : (Tb.nums (X.map Sx.ms)).Nodup ∧ ∀ x ∈ X.map Sx.ms, Tb.Good x := by
  refine ⟨by rw [nums_ms]; exact h.keys.1, fun x hx => ?_⟩
  obtain ⟨y, hy, rfl⟩ := List.mem_map.1 hx
  have hs := h.slots y hy
  refine ⟨SlotAt.keys hs, fun p hp => ?_, SlotAt.most hs⟩
  obtain ⟨q, hq, rfl⟩ := List.mem_map.1 hp
  exact SlotAt.few hs q hq
set_option maxHeartbeats 8000000 in
theorem tbounds_go (x : Int) (A : Option Addr) (n cp : Nat) (fs : List Fr) (w : World) (hn : fs.length = n) (hcp : n ≤ cp) (h1 : FrsAt w w.heap.size A fs) :
    Calls Try.prog 4 #[.int .i64 x, .slice A n cp] w fun e w' => e = .returned (.bool true) ∧ Below w.heap.size w w' := by
  have hnc : (n : Int) ≤ (cp : Int) := by omega
  obtain ⟨r, hr, hr1, hr2⟩ := room_of14 x
  have HKN := Lib.hid (fun W => tbknown_any W)
  have HNW := Lib.hid (tnew_any (r : Int) w)
  have H1 := Lib.hid h1
  have HN := Lib.hid hn
  clear h1 hn
  go_enter Try.func4, Try.ntmps4
  go_wp2_with fail
  refine HNW.out.mono ?_
  rintro e w1 (⟨h, _⟩ | ⟨r', hr', b, m, rfl, hT, hb1⟩)
  · exact absurd ⟨by omega, by omega⟩ h
  obtain rfl : r' = r := by omega
  have hT0 : Hid (TblOf w1 (fun q => w.heap.size ≤ q) b r' []) := ⟨m, none, 0, 0, [], hT, rfl⟩
  have HB1 := Lib.hid hb1
  clear hT hb1 HNW hr'
  go_wp2_with fail
  clear hr
  go_loopw [7] (fun iv wr => ∃ j : Nat, j ≤ n ∧ j ≤ 100 ∧ iv = .int .i64 (j : Int) ∧ ∃ T, Hid (TblOf wr (fun q => w.heap.size ≤ q) b r' T ∧ Below w.heap.size w wr)) (fun iv _ => 100 - (intOf iv).toNat)
  case atStart => exact ⟨0, by omega, by omega, rfl, [], Lib.hid ⟨hT0.out, HB1.out⟩⟩
  case round =>
    obtain ⟨j, hjn, hj100, rfl, T, HTB⟩ := hrel
    by_cases hj1 : j < n
    · by_cases hj2 : j < 100
      · have hj1' : (j : Int) < (n : Int) := by omega
        have hj2' : (j : Int) < 100 := by omega
        obtain ⟨f, hfj⟩ : ∃ f, fs[j]? = some f := ⟨_, List.getElem?_eq_getElem (by rw [HN.out]; omega)⟩
        have hat := H1.out.1 f (List.mem_of_getElem? hfj)
        have hfl : (f.zs.take 250).length = min 250 f.zs.length := List.length_take
        have KC : ∀ W, Calls Try.prog 9 #[.agg #[.int .i64 f.v, .int .i64 f.k, .int .u32 f.s, .int .i64 f.i, .int .i64 f.c, .slice f.a f.zs.length f.cp]] W fun e w' => e = .returned (.agg #[.int .i64 f.cut.v, .int .i64 f.cut.k, .int .u32 f.cut.s, .int .i64 f.cut.i, .int .i64 f.cut.c, .slice f.cut.a f.cut.zs.length f.cut.cp]) ∧ Below W.heap.size W w' :=
          fun W => cut_any f.v f.k f.s f.i f.c f.a f.zs.length (f.zs.take 250).length f.cp W (by omega) (by omega) hat.room
        have HCA := Lib.hid (Fr.cut_at hat)
        have HKC := Lib.hid KC
        have HFJ := Lib.hid hfj
        clear KC hat hfl hfj hj1 hj2
        generalize f.cut = h at HCA HKC
        obtain ⟨m1, A1, n1, cp1, X, hT, hX⟩ := HTB.out.1.small
        have hn1 : T.length = n1 := by rw [← hX, List.length_map]; exact hT.len
        have hn116 : n1 ≤ 16 := by have := hT.few; omega
        have KS := Lib.hid (tseqs_any hT)
        have HT := Lib.hid hT
        have HX := Lib.hid hX
        clear hT
        go_wp2_with fail
        refine KS.out.mono ?_
        rintro e W1 ⟨v, rfl, hmk⟩
        obtain ⟨A2, c2, rfl, hc2, hnum2⟩ := hmk.slice
        have hlen2 : (X.map Sx.s).length = n1 := by rw [List.length_map]; exact HT.out.len
        have hnS2 := hmk.numsS rfl
        rw [hlen2] at hc2 ⊢
        have hb1 := hmk.2
        have KH := Lib.hid (theld_any (HT.out.below hb1))
        have HNS := Lib.hid hnS2
        have HB1 := Lib.hid hb1
        clear hmk hnum2 hnS2 hb1 KS
        go_wp2_with fail
        refine KH.out.mono ?_
        rintro e W2 ⟨rfl, hb2⟩
        have hbr2 := HB1.out.trans (hb2.mono HB1.out.size)
        obtain ⟨g, off, hAA, hg, a0, a1, a2, a3, a4, a5⟩ := (H1.out.below (HTB.out.2.trans (hbr2.mono HTB.out.2.size))).six HFJ.out
        subst hAA
        have HBR2 := Lib.hid hbr2
        have hw12 := hb2.size
        have HB12 := Lib.hid hb2
        clear hb2 hbr2 KH HB1
        go_wp2_with fail
        refine (HKC.out W2).mono ?_
        rintro e W3 ⟨rfl, hb3⟩
        have hbr3 := HBR2.out.trans (hb3.mono HBR2.out.size)
        have hbw3 := HTB.out.2.trans (hbr3.mono HTB.out.2.size)
        have hT3 : TblOf W3 (fun q => w.heap.size ≤ q ∧ q < wr.heap.size) b r' T := ⟨m1, A1, n1, cp1, X, HT.out.below hbr3, HX.out⟩
        have hh3 : h.At W3 W3.heap.size := (HCA.out.below hbw3).mono hbw3.size
        have KP := tput_of hT3 h hh3
        unfold frV frC at KP
        have HKP := Lib.hid KP
        have HBR3 := Lib.hid hbr3
        have HBW3 := Lib.hid hbw3
        have hw23 := hb3.size
        have HB13 := Lib.hid (HB12.out.trans (hb3.mono HB12.out.size))
        clear KP hT3 hh3 hb3 hbr3 hbw3 HBR2 a0 a1 a2 a3 a4 a5
        go_wp2_with fail
        refine HKP.out.mono ?_
        rintro e W4 ⟨A5, c5, rfl, hc5, hnum5, hto5, m5, A6, n6, cp6, X6, hT5, hX6⟩
        have hgd := HT.out.good
        rw [HX.out] at hgd
        have hz192 := Tb.put_zs (r := r') (f := h) hgd.1 hgd.2
        have hev := @Tb.put_ev r' T h
        have herr := @Tb.put_err r' T h
        clear hgd
        generalize Tb.put r' T h = R at *
        obtain ⟨er, T', zs, wh, ev, old⟩ := R
        simp only at hc5 hnum5 hX6 hz192 hev herr ⊢
        rw [hn1] at hev
        have hw34 := hto5.size
        have hw03 := HBW3.out.size
        have hbw4 := HBW3.out.trans (hto5.below (fun q hq => hq.1) HBW3.out.size)
        have hks : KeepS (fun b => wr.heap.size ≤ b ∧ b < W1.heap.size) W1 W4 := by
          exact ⟨by omega, fun k hk => (TOff.keep hto5 (by omega) (fun hq => by omega)).trans (HB13.out.block k hk.2)⟩
        have hnS4 := HNS.out.keeps hks
        have hal := (Below.refl W4.heap.size W4).alloc (Nat.le_refl _) (.cells (outC A5 zs.length c5 wh ev old) 48)
        have hO5 := World.alloc_heap_new W4 (.cells (outC A5 zs.length c5 wh ev old) 48)
        have hT5' := hT5.below hal
        have hbw5 := hbw4.alloc hbw4.size (.cells (outC A5 zs.length c5 wh ev old) 48)
        have hs5 : W4.heap.size < (W4.alloc (.cells (outC A5 zs.length c5 wh ev old) 48)).heap.size := by simp
        have hn6 := hT5.few
        have hr6 := hT5.room
        have hld : Tb.held T' ≤ 192 * n6 := by
          rw [← hX6, ← tots_held, ← hT5.len]
          exact tots_le hT5.slots
        unfold outV
        simp only [outC] at hO5 hT5' hbw5 hs5 hal ⊢
        obtain ⟨W5, hW5⟩ : ∃ W5, W4.alloc (.cells #[.slice A5 zs.length c5, .bool wh, .bool ev, .int .u32 old] 48) = W5 := ⟨_, rfl⟩
        rw [hW5] at hO5 hT5' hbw5 hs5 hal
        have hnS5 := hnS4.keeps (KeepS.of_below hal fun k hk => by omega)
        have HW5 := Lib.hid hW5
        have HO5 := Lib.hid hO5
        have HT5 := Lib.hid hT5'
        have HX6 := Lib.hid hX6
        have HBW5 := Lib.hid hbw5
        have HNS5 := Lib.hid hnS5
        have HERR := Lib.hid herr
        have HEV := Lib.hid hev
        generalize zs.length = q5 at *
        clear hW5 hO5 hT5' hX6 hbw5 hnS5 hnS4 hks hbw4 hto5 hT5 hnum5 hal hev herr HKP HBR3 HBW3 HNS HKC
        by_cases er0 : er = 0
        · subst er0
          clear HERR
          go_wp2_with fail
          rw [HW5.out]
          refine (tlen_any HT5.out).mono ?_
          rintro e W9 ⟨rfl, rfl⟩
          rename World => W6
          have hle1 : (n6 : Int) ≤ (r' : Int) := by omega
          have hle2 : (n6 : Int) ≤ 16 := by omega
          have KH := Lib.hid (theld_any HT5.out)
          rw [HX6.out] at KH
          generalize Tb.held T' = H' at *
          have hle3 : (H' : Int) ≤ 192 * (n6 : Int) := by omega
          go_wp2_with fail
          refine KH.out.mono ?_
          rintro e W7 ⟨rfl, hb7⟩
          have hT7 := HT5.out.below hb7
          obtain ⟨k0, k1, k2, k3⟩ := out_block (row_stays HO5.out hb7)
          have HREL : Hid (TblOf W7 (fun q => w.heap.size ≤ q) b r' T' ∧ Below w.heap.size w W7) :=
            Lib.hid ⟨⟨m5, A6, n6, cp6, X6, hT7.mono fun q hq => hq.elim (fun h => h.1) (fun h => by omega), HX6.out⟩, HBW5.out.trans (hb7.mono HBW5.out.size)⟩
          have KL := Lib.hid (tlen_any hT7)
          have hq192 : (q5 : Int) ≤ 192 := by omega
          clear hb7 KH hT7 HT5 HBW5 HNS5 HW5 HO5 HX6
          go_wp2_with fail
          refine KL.out.mono ?_
          rintro e W9 ⟨rfl, rfl⟩
          clear KL
          cases wh <;> cases ev
          case' false.true =>
            have hnr : ((n1 : Int) != (r' : Int)) = false := by have := HEV.out rfl; simp [this]
          case' true.true =>
            have hnr : ((n1 : Int) != (r' : Int)) = false := by have := HEV.out rfl; simp [this]
          all_goals (
            clear HEV
            go_wp2
            go_roundw
            case rel => exact ⟨j + 1, by omega, by omega, by go_num, T', HREL⟩
            case measure => simp [intOf]; omega)
        · obtain ⟨hTT, ho⟩ := HERR.out er0
          simp only [Tb.Out.no, Tb.Out.mk.injEq] at ho
          obtain ⟨-, rfl, rfl, rfl⟩ := ho
          subst hTT
          have hnn : n6 = n1 := by
            rw [← hn1, ← HX6.out, List.length_map]
            exact HT5.out.len.symm
          subst hnn
          have hXs : X6.map Sx.s = X.map Sx.s := by rw [← nums_ms, ← nums_ms, HX6.out, HX.out]
          have her : (er != 0) = true := by simpa using er0
          have hle1 : (n6 : Int) ≤ (r' : Int) := by omega
          have hle2 : (n6 : Int) ≤ 16 := by omega
          have KH : Hid (∀ W, Below W5.heap.size W5 W → Calls Try.prog 19 #[.pointer (some ⟨b, 0, none⟩)] W fun e w' => e = .returned (.int .i64 (Tb.held T' : Int)) ∧ Below W.heap.size W w') := Lib.hid fun W hW => by
            have := theld_any (HT5.out.below hW)
            rw [HX6.out] at this
            exact this
          have HXS := Lib.hid hXs
          have HN5 := Lib.hid hs5
          clear HERR er0 HEV hXs
          generalize hH' : Tb.held T' = H' at *
          have hle3 : (H' : Int) ≤ 192 * (n6 : Int) := by omega
          go_wp2_with fail
          rw [HW5.out]
          refine (tlen_any HT5.out).mono ?_
          rintro e W9 ⟨rfl, rfl⟩
          rename World => W6
          go_wp2_with fail
          refine (KH.out _ (Below.refl _ _)).mono ?_
          rintro e W7 ⟨rfl, hb7⟩
          have hT7 := HT5.out.below hb7
          have KL := Lib.hid (tlen_any hT7)
          have KS7 := Lib.hid (tseqs_any hT7)
          have HB7 := Lib.hid hb7
          clear hb7 hT7
          go_wp2_with fail
          refine KL.out.mono ?_
          rintro e W9 ⟨rfl, rfl⟩
          clear KL
          go_wp2_with fail
          refine KS7.out.mono ?_
          rintro e W8 ⟨v8, rfl, hm8⟩
          obtain ⟨A8, c8, rfl, hc8, hnum8⟩ := hm8.slice
          have hlen8 : (X6.map Sx.s).length = n6 := by rw [HXS.out]; exact hlen2
          rw [hlen8] at hc8 ⊢
          rw [HXS.out] at hnum8
          have hb68 := HB7.out.trans (hm8.2.mono HB7.out.size)
          have hnum2 := (HNS5.out.keeps (KeepS.of_below hb68 fun k hk => by have := HN5.out; omega)).nums (B := W8.heap.size) fun k hk => by have := hb68.size; have := HN5.out; omega
          have KQ := Lib.hid (tseqsame_any A8 A2 n6 c8 c2 (X.map Sx.s) W8 W8.heap.size hlen2 (by omega) hnum8 hnum2)
          have HB68 := Lib.hid hb68
          clear hm8 hnum8 hnum2 hb68 KS7
          go_wp2_with fail
          refine KQ.out.mono ?_
          rintro e W9 ⟨rfl, d, rfl⟩
          have hb69 := below_drewN HB68.out d
          clear KQ HB68
          generalize W8.drewN d = W9 at *
          have KH9 := Lib.hid (KH.out _ hb69)
          have HB69 := Lib.hid hb69
          clear hb69 KH
          go_wp2_with fail
          refine KH9.out.mono ?_
          rintro e W10 ⟨rfl, hb10⟩
          have hb610 := HB69.out.trans (hb10.mono HB69.out.size)
          obtain ⟨k0, k1, k2, k3⟩ := out_block (row_stays HO5.out hb610)
          have HREL : Hid (TblOf W10 (fun q => w.heap.size ≤ q) b r' T' ∧ Below w.heap.size w W10) :=
            Lib.hid ⟨⟨m5, A6, n6, cp6, X6, (HT5.out.below hb610).mono fun q hq => hq.elim (fun h => h.1) (fun h => by omega), HX6.out⟩, HBW5.out.trans (hb610.mono HBW5.out.size)⟩
          clear hb10 hb610 HT5 HBW5 HNS5 HW5 HO5 HX6 HB69 HB7 KH9
          go_wp2
          go_roundw
          case rel => exact ⟨j + 1, by omega, by omega, by go_num, T', HREL⟩
          case measure => simp [intOf]; omega
      · have hj' : j = 100 := by omega
        have h100 : ¬ (j : Int) < 100 := by omega
        have hj1' : (j : Int) < (n : Int) := by omega
        clear hj'
        go_wp2_with fail
        refine (HKN.out _).mono ?_
        rintro e W9 ⟨rfl, hb9⟩
        have HFIN := Lib.hid (HTB.out.2.trans (hb9.mono HTB.out.2.size))
        clear hb9
        go_wp2
        go_ret
        exact ⟨rfl, HFIN.out⟩
    · have hj1' : ¬ (j : Int) < (n : Int) := by omega
      go_wp2_with fail
      refine (HKN.out _).mono ?_
      rintro e W9 ⟨rfl, hb9⟩
      have HFIN := Lib.hid (HTB.out.2.trans (hb9.mono HTB.out.2.size))
      clear hb9
      go_wp2
      go_ret
      exact ⟨rfl, HFIN.out⟩
end Go.Proofs.Ytloncplpjdekoaa

namespace Go.Proofs.Ytloncplpjdekoaa
open Go.RowKit
set_option maxRecDepth 100000

theorem nodup_sum (g : Nat → Nat) : ∀ (n : Nat) (l : List Nat), l.Nodup → (∀ x ∈ l, x < n) → (l.map g).sum ≤ ((List.range n).map g).sum
  | 0, l, _, h => by
    cases l with
    | nil => simp
    | cons x r => have := h x (by simp); omega
  | n + 1, l, hn, h => by
    have h1 := nodup_sum g n (l.erase n) (hn.erase n) fun x hx => by
      have h2 := (List.Nodup.mem_erase_iff hn).1 hx
      have := h x h2.2
      have := h2.1
      omega
    rw [List.range_succ, List.map_append, List.sum_append]
    simp only [List.map_cons, List.map_nil, List.sum_cons, List.sum_nil]
    by_cases hm : n ∈ l
    · have h2 := ((List.perm_cons_erase hm).map g).sum_nat
      rw [List.map_cons, List.sum_cons] at h2
      omega
    · rw [List.erase_of_not_mem hm] at h1
      omega
theorem lack_of : ∀ (n : Nat) (l : List Nat), l.length < n → ∃ j, j < n ∧ j ∉ l
  | 0, _, h => by omega
  | n + 1, l, h => by
    by_cases hm : n ∈ l
    · have h1 := List.length_erase_of_mem hm
      have h0 := List.length_pos_of_mem hm
      obtain ⟨j, hj, hx⟩ := lack_of n (l.erase n) (by omega)
      exact ⟨j, by omega, fun hl => hx ((List.mem_erase_of_ne (by omega)).2 hl)⟩
    · exact ⟨n, by omega, hm⟩
/-- the payload of a frame -/
def pz (fs : List Fr) (j : Nat) : List Int := ((fs[j]?).map Fr.zs).getD []
theorem pz_at {fs : List Fr} {j : Nat} {f : Fr} (h : fs[j]? = some f) : pz fs j = f.zs := by simp [pz, h]
theorem pz_flat (fs : List Fr) : ∀ n, n ≤ fs.length → (List.range n).flatMap (pz fs) = Ct.flat (fs.take n)
  | 0, _ => by simp [Ct.flat]
  | n + 1, hn => by
    obtain ⟨f, hf⟩ : ∃ f, fs[n]? = some f := ⟨_, List.getElem?_eq_getElem (by omega)⟩
    rw [List.range_succ, List.flatMap_append, pz_flat fs n (by omega), Ct.flat_take hf]
    simp [pz_at hf]
theorem pz_sum (fs : List Fr) : ∀ n, n ≤ fs.length → ((List.range n).map fun j => (pz fs j).length).sum = (Ct.flat (fs.take n)).length
  | 0, _ => by simp [Ct.flat]
  | n + 1, hn => by
    obtain ⟨f, hf⟩ : ∃ f, fs[n]? = some f := ⟨_, List.getElem?_eq_getElem (by omega)⟩
    rw [List.range_succ, List.map_append, List.sum_append, pz_sum fs n (by omega), Ct.flat_take hf, List.length_append]
    simp [pz_at hf]
/-- what has come, of the frames whose places are told -/
def cts (fs : List Fr) (ks : List Nat) : Sl.Ct := ks.map fun j => (j, pz fs j)
section
variable {fs : List Fr} {ks : List Nat}
theorem cts_keys : (cts fs ks).map Prod.fst = ks := by
  unfold cts
  rw [List.map_map]
  exact List.map_id' ks
theorem cts_has (j : Nat) : Sl.has (cts fs ks) j = true ↔ j ∈ ks := by rw [Sl.has_iff, cts_keys]
theorem cts_tot : Sl.tot (cts fs ks) = (ks.map fun j => (pz fs j).length).sum := by
  unfold Sl.tot cts
  rw [List.map_map]
  rfl
theorem cts_at (hn : ks.Nodup) {j : Nat} (hj : j ∈ ks) : Sl.at' (cts fs ks) j = pz fs j := Sl.at_mem (by unfold Sl.Keys; rw [cts_keys]; exact hn) (List.mem_map.2 ⟨j, hj, rfl⟩)
theorem cts_cat (hn : ks.Nodup) (hl : ∀ j ∈ ks, j < fs.length) (hf : ks.length = fs.length) : Sl.cat (cts fs ks) fs.length = Ct.flat fs := by
  have h := pz_flat fs fs.length (Nat.le_refl _)
  rw [List.take_length] at h
  rw [← h]
  unfold Sl.cat
  rw [List.flatMap_def, List.flatMap_def]
  congr 1
  apply List.map_congr_left
  intro j hj
  exact cts_at hn (nodup_all hn hl hf (List.mem_range.1 hj))
end
/-- what a slot tells of a frame of its body -/
theorem order_err {v k s : Int} {zs : List Int} {r : Nat} {fs : List Fr} (hc : Ct.Cut v k s zs r fs) (hr : 1 ≤ r) (hz : zs.length ≤ 192) {ks : List Nat} (hn : ks.Nodup) (hl : ∀ j ∈ ks, j < fs.length) {j : Nat} {f : Fr} (hf : fs[j]? = some f) :
    sErr v k s (fs.length : Int) f.v f.k f.s f.i f.c (cts fs ks) f.zs = if j ∈ ks then 16 else 0 := by
  obtain ⟨e1, e2, e3, e4, e5, e6⟩ := hc.at' j f hf
  have hj := (List.getElem?_eq_some_iff.1 hf).1
  have hlen := hc.len
  have hpos : 0 < f.zs.length := by
    rw [e6, Ct.part_len]
    have := (Ct.lt_cnt (n := zs.length) (j := j) hr).1 (by omega)
    omega
  unfold sErr
  rw [if_neg (by simp [mateZ, e1, e2, e3, e5, hlen]), if_neg (by omega), if_neg (by omega), show f.i.toNat = j by omega]
  by_cases hm : j ∈ ks
  · rw [if_pos ((cts_has j).2 hm), if_pos hm]
  · rw [if_neg (fun h => hm ((cts_has j).1 h)), if_neg hm, if_neg]
    have h1 := nodup_sum (fun j => (pz fs j).length) fs.length (j :: ks) (List.nodup_cons.2 ⟨hm, hn⟩) (fun x hx => by
      rcases List.mem_cons.1 hx with rfl | hx
      · exact hj
      · exact hl x hx)
    rw [pz_sum fs _ (Nat.le_refl _), List.take_length, hc.flat_eq hr, List.map_cons, List.sum_cons, pz_at hf] at h1
    rw [cts_tot]
    omega

/-- bools that lie in block g, whole -/
def RowB (W : World) (g : Nat) (S : List Bool) : Prop := ∃ cs, W.heap[g]? = some (.cells cs 4 (0, 0)) ∧ ∀ (j : Nat) (c : Bool), S[j]? = some c → cs[j]? = some (.bool c)
section
variable {W W' : World} {g : Nat} {S : List Bool}
theorem RowB.lt (h : RowB W g S) : g < W.heap.size := by
  obtain ⟨cs, hh, _⟩ := h
  exact (Array.getElem?_eq_some_iff.1 hh).1
theorem RowB.cell (h : RowB W g S) {j : Nat} {c : Bool} (hj : S[j]? = some c) : W.cell? ⟨g, j, none⟩ = some (.bool c) := by
  obtain ⟨cs, hh, hc⟩ := h
  simp only [World.cell?, hh]
  exact hc j c hj
theorem RowB.frozen (h : RowB W g S) (j : Nat) : W.frozen? ⟨g, j, none⟩ = false := by
  obtain ⟨cs, hh, hc⟩ := h
  simp [World.frozen?, hh]
theorem RowB.off {T : Nat → Prop} (h : RowB W g S) (ho : Off T W W') (hg : ¬ T g) : RowB W' g S := by
  obtain ⟨cs, hh, hc⟩ := h
  exact ⟨cs, (ho.block g (Array.getElem?_eq_some_iff.1 hh).1 hg).trans hh, hc⟩
theorem RowB.below (h : RowB W g S) (hb : Below W.heap.size W W') : RowB W' g S := h.off (Off.of_below (S := fun _ => False) hb) fun h => h
theorem RowB.set (h : RowB W g S) (j : Nat) (c : Bool) : RowB (W.setCell ⟨g, j, none⟩ (.bool c)) g (S.set j c) := by
  obtain ⟨cs, hh, hc⟩ := h
  refine ⟨_, setCell_at hh, fun i x hi => ?_⟩
  rw [Array.getElem?_setIfInBounds]
  rw [List.getElem?_set] at hi
  by_cases hji : j = i
  · subst hji
    rw [if_pos rfl] at hi ⊢
    split at hi
    · rename_i hlt
      injection hi with hi
      subst hi
      have h2 := hc j S[j] (List.getElem?_eq_getElem hlt)
      rw [if_pos (Array.getElem?_eq_some_iff.1 h2).1]
    · simp at hi
  · rw [if_neg hji] at hi ⊢
    exact hc i x hi
end
theorem boolInfo13 : (Try.prog.info? 4).map (fun i => (i.zero, i.size, i.bytes)) = some (some (.bool false), 1, 1) := by kernel_rfl
theorem come_row (W : World) (n : Nat) : RowB (W.alloc (.cells (madeCells #[Value.bool false] n) 4)) W.heap.size (List.replicate n false) := by
  refine ⟨_, World.alloc_heap_new _ _, fun j c hj => ?_⟩
  rw [← Array.getElem?_toList, toList_madeCells_one]
  rw [List.getElem?_replicate] at hj ⊢
  split at hj
  · rename_i h
    injection hj with hj
    subst hj
    rw [if_pos h]
  · simp at hj

/-- S tells which have come -/
def Come (ks : List Nat) (S : List Bool) : Prop := ∀ j, S[j]? = some true ↔ j ∈ ks
theorem Come.start (n : Nat) : Come [] (List.replicate n false) := fun j => by
  rw [List.getElem?_replicate]
  split <;> simp
theorem Come.at' {ks : List Nat} {S : List Bool} (h : Come ks S) {j : Nat} (hj : j < S.length) : S[j]? = some (decide (j ∈ ks)) := by
  obtain ⟨c, hc⟩ : ∃ c, S[j]? = some c := ⟨_, List.getElem?_eq_getElem hj⟩
  rw [hc]
  have h1 := h j
  rw [hc] at h1
  by_cases hm : j ∈ ks
  · rw [h1.2 hm, decide_eq_true hm]
  · rw [decide_eq_false hm]
    cases c with
    | false => rfl
    | true => exact absurd (h1.1 rfl) hm
theorem Come.push {ks : List Nat} {S : List Bool} (h : Come ks S) {j : Nat} (hj : j < S.length) : Come (ks ++ [j]) (S.set j true) := fun i => by
  rw [List.getElem?_set, List.mem_append, List.mem_singleton]
  by_cases hi : j = i
  · subst hi
    rw [if_pos rfl, if_pos hj]
    simp
  · rw [if_neg hi, h i]
    exact ⟨.inl, fun h => h.elim id fun e => absurd e.symm hi⟩
/-- where the law's loop is: ks: the frames that came, in their order; S: what the row of bools has -/
structure OO (W w1 : World) (b m gc : Nat) (v k s : Int) (fs : List Fr) (ks : List Nat) (S : List Bool) : Prop where
  slot : ∃ E, SlotAt W b m v k s (fs.length : Int) E ∧ E.map Pl.ct = cts fs ks
  nd : ks.Nodup
  lt : ∀ j ∈ ks, j < fs.length
  len : S.length = fs.length
  row : RowB W gc S
  ge : w1.heap.size ≤ b ∧ w1.heap.size ≤ m ∧ w1.heap.size ≤ gc
  below : Below w1.heap.size w1 W
section
variable {W W' w1 : World} {b m gc : Nat} {v k s : Int} {fs : List Fr} {ks : List Nat} {S : List Bool}
theorem OO.later (h : OO W w1 b m gc v k s fs ks S) (hb : Below W.heap.size W W') : OO W' w1 b m gc v k s fs ks S := by
  obtain ⟨E, h1, h2⟩ := h.slot
  exact ⟨⟨E, h1.below hb, h2⟩, h.nd, h.lt, h.len, h.row.below hb, h.ge, h.below.trans (hb.mono h.below.size)⟩
theorem OO.few (h : OO W w1 b m gc v k s fs ks S) : ks.length ≤ fs.length := nodup_few _ _ h.nd h.lt
theorem OO.set (h : OO W w1 b m gc v k s fs ks S) (j : Nat) : OO (W.setCell ⟨gc, j, none⟩ (.bool true)) w1 b m gc v k s fs ks (S.set j true) := by
  obtain ⟨E, h1, h2⟩ := h.slot
  obtain ⟨cs, hh, _⟩ := h.row
  have ho : Off (fun q => q = gc) W (W.setCell ⟨gc, j, none⟩ (.bool true)) := (Off.refl (fun q => q = gc) W).setCell rfl _
  refine ⟨⟨E, h1.off ho (fun e => ?_) (fun e => h1.map.not_cells _ _ _ (by rw [e]; exact hh)) (fun q cs' hq e => ?_), h2⟩, h.nd, h.lt, by rw [List.length_set]; exact h.len, h.row.set j true, h.ge, h.below.trans (ho.below (fun q hq => by subst hq; exact h.ge.2.2) h.below.size)⟩
  · have h3 := h1.row
    rw [e, hh] at h3
    injection h3 with h3
    injection h3 with h3 h4 h5
    exact absurd h4 (by decide)
  · subst e
    rw [hh] at hq
    injection hq with hq
    injection hq with h3 h4 h5
    exact absurd h4 (by decide)
theorem OO.put_any {zs : List Int} {r : Nat} (h : OO W w1 b m gc v k s fs ks S) (hc : Ct.Cut v k s zs r fs) (hr : 1 ≤ r) (hz : zs.length ≤ 192) {j : Nat} {f : Fr} (hf : fs[j]? = some f) (ha : f.At W W.heap.size) :
    Calls Try.prog 36 #[.pointer (some ⟨b, 0, none⟩), frV f.v f.k f.s f.i f.c (.slice f.a f.zs.length f.cp)] W fun e W' => e = .returned (.int .i64 (if j ∈ ks then 16 else 0)) ∧ OO W' w1 b m gc v k s fs (if j ∈ ks then ks else ks ++ [j]) S := by
  obtain ⟨E, h1, h2⟩ := h.slot
  have hj := (List.getElem?_eq_some_iff.1 hf).1
  have K := sput_any h1 f.v f.k f.s f.i f.c f.a f.zs.length f.cp f.zs rfl ha.byte ha.nums
  rw [h2, order_err hc hr hz h.nd h.lt hf] at K
  have hi : f.i.toNat = j := by have := (hc.at' j f hf).2.2.2.1; omega
  refine K.mono fun e W' ⟨he, ho, hor⟩ => ⟨he, ?_⟩
  have hgm : ¬ gc = m := fun e => by
    obtain ⟨cs, hh, _⟩ := h.row
    exact h1.map.not_cells _ _ _ (by rw [← e]; exact hh)
  have hb := h.below.trans (ho.below (fun q hq => by subst hq; exact h.ge.2.1) h.below.size)
  by_cases hm : j ∈ ks
  · rw [if_pos hm] at hor ⊢
    rcases hor with ⟨_, hs⟩ | ⟨h0, _⟩
    · exact ⟨⟨E, hs, h2⟩, h.nd, h.lt, h.len, h.row.off ho hgm, h.ge, hb⟩
    · omega
  · rw [if_neg hm] at hor ⊢
    rcases hor with ⟨h0, _⟩ | ⟨_, p, hp, hpz, hs⟩
    · exact absurd rfl h0
    · refine ⟨⟨_, hs, ?_⟩, ?_, ?_, h.len, h.row.off ho hgm, h.ge, hb⟩
      · rw [List.map_append, h2]
        unfold cts
        rw [List.map_append]
        simp [Pl.ct, hp, hpz, hi, pz_at hf]
      · rw [List.nodup_append]
        exact ⟨h.nd, by simp, fun a ha b hb e => hm (by rw [← List.mem_singleton.1 hb, ← e]; exact ha)⟩
      · intro x hx
        rcases List.mem_append.1 hx with hx | hx
        · exact h.lt x hx
        · rw [List.mem_singleton.1 hx]; exact hj
theorem OO.slot_len {E : List Pl} (h : E.map Pl.ct = cts fs ks) : E.length = ks.length := by
  have := congrArg List.length h
  simpa [cts] using this
theorem OO.full_any (h : OO W w1 b m gc v k s fs ks S) : Calls Try.prog 63 #[.pointer (some ⟨b, 0, none⟩)] W fun e W' => e = .returned (.bool ((ks.length : Int) == (fs.length : Int))) ∧ OO W' w1 b m gc v k s fs ks S := by
  obtain ⟨E, h1, h2⟩ := h.slot
  refine (sfull_any h1).mono fun e W' ⟨he, d, hd⟩ => ⟨?_, ?_⟩
  · rw [he, OO.slot_len h2]
  · rw [hd]
    exact h.later (below_drewN (Below.refl _ _) d)
theorem OO.have_any (h : OO W w1 b m gc v k s fs ks S) : Calls Try.prog 62 #[.pointer (some ⟨b, 0, none⟩)] W fun e W' => e = .returned (.int .i64 (ks.length : Int)) ∧ W' = W := by
  obtain ⟨E, h1, h2⟩ := h.slot
  refine (shave_any h1).mono fun e W' ⟨he, hd⟩ => ⟨?_, hd⟩
  rw [he, OO.slot_len h2]
theorem OO.bytes_any {zs : List Int} {r : Nat} (h : OO W w1 b m gc v k s fs ks S) (hc : Ct.Cut v k s zs r fs) (hr : 1 ≤ r) (hf : ks.length = fs.length) : Calls Try.prog 59 #[.pointer (some ⟨b, 0, none⟩)] W fun e W' => Below W.heap.size W W' ∧ ∃ A cp, e = .returned (.tuple #[.slice A zs.length cp, .bool true]) ∧ zs.length ≤ cp ∧ Nums .u8 W' W'.heap.size A zs := by
  obtain ⟨E, h1, h2⟩ := h.slot
  have hl := OO.slot_len h2
  have e1 : Sl.cat (E.map Pl.ct) E.length = zs := by rw [h2, hl, hf, cts_cat h.nd h.lt hf, hc.flat_eq hr]
  refine (sbytes_any h1).mono fun e W' ⟨hb, hor⟩ => ⟨hb, ?_⟩
  rw [e1] at hor
  rcases hor with ⟨h0, _⟩ | ⟨_, A, cp, he, hcp, hn⟩
  · omega
  · exact ⟨A, cp, he, hcp, hn⟩
end
end Go.Proofs.Ytloncplpjdekoaa

namespace Go.Proofs.Ytloncplpjdekoaa
open Go.RowKit Go.Shelf
set_option maxRecDepth 100000

/-- what Frames leaves -/
def FramesR (w : World) (v k s : Int) (zs : List Int) (room : Int) (e : Ending) (w' : World) : Prop :=
  Below w.heap.size w w' ∧ ((Ct.fErr v k zs.length room ≠ 0 ∧ e = .returned (.tuple #[.slice none 0 0, .int .i64 (Ct.fErr v k zs.length room)])) ∨
    (Ct.fErr v k zs.length room = 0 ∧ ∃ A c fs, e = .returned (.tuple #[.slice A fs.length c, .int .i64 0]) ∧ fs.length ≤ c ∧ Ct.Cut v k s zs room.toNat fs ∧ FrsAt w' w'.heap.size A fs))
theorem FramesR.bad {w w' : World} {v k s room E : Int} {zs : List Int} {e : Ending} (h : Ct.fErr v k zs.length room = E) (h0 : E ≠ 0) (he : e = .returned (.tuple #[.slice none 0 0, .int .i64 E])) (hb : Below w.heap.size w w') : FramesR w v k s zs room e w' :=
  ⟨hb, .inl ⟨by rw [h]; exact h0, by rw [h]; exact he⟩⟩
/-- the frames that have been made -/
def CutGo (v k s : Int) (zs : List Int) (r m : Nat) (fs : List Fr) : Prop := ∀ (j : Nat) (f : Fr), fs[j]? = some f → f.v = v ∧ f.k = k ∧ f.s = s ∧ f.i = (j : Int) ∧ f.c = (m : Int) ∧ f.zs = Ct.part zs r j
theorem CutGo.push {v k s : Int} {zs : List Int} {r m : Nat} {fs : List Fr} (h : CutGo v k s zs r m fs) (a : Option Addr) (cp : Nat) : CutGo v k s zs r m (fs ++ [⟨v, k, s, (fs.length : Int), (m : Int), a, cp, Ct.part zs r fs.length⟩]) := fun j f hf => by
  rcases Nat.lt_or_ge j fs.length with h1 | h1
  · rw [List.getElem?_append_left h1] at hf
    exact h j f hf
  · rw [List.getElem?_append_right h1] at hf
    have h2 : j - fs.length = 0 := by
      have := (List.getElem?_eq_some_iff.1 hf).1
      simp at this; omega
    rw [h2] at hf
    have h3 : j = fs.length := by omega
    simp only [List.getElem?_cons_zero, Option.some.injEq] at hf
    subst hf h3
    exact ⟨rfl, rfl, rfl, rfl, rfl, rfl⟩
theorem chk_from {v k m : Int} {j : Nat} (h : chk v k 0 m = 0) (hj : (j : Int) < m) : chk v k (j : Int) m = 0 := by
  obtain ⟨h1, h2, h3, h4, h5, h6, h7⟩ := chk_zero h
  unfold chk
  rw [if_neg (by omega), if_neg (by omega), if_neg (by omega)]
theorem FramesR.good {w W : World} {v k s room : Int} {zs : List Int} {base t : TypeId} {u : Value} {fs : List Fr} {m : Nat} (hE : Ct.fErr v k zs.length room = 0) (hm : Ct.cnt zs.length room.toNat = m) (hl : fs.length = m) (hg : CutGo v k s zs room.toNat m fs)
    (hat : ∀ f ∈ fs, f.At W W.heap.size) (hrow : W.ownsRow base t 6 u fs.length (flatF fs)) (hb : Below w.heap.size w W) : FramesR w v k s zs room (.returned (.tuple #[u, .int .i64 0])) W := by
  obtain ⟨A, c, rfl, hc, hf⟩ := own_frs hrow hat
  exact ⟨hb, .inr ⟨hE, A, c, fs, rfl, hc, ⟨by rw [hm]; exact hl, by rw [hm]; exact hg⟩, hf⟩⟩
end Go.Proofs.Ytloncplpjdekoaa

namespace Go.Proofs.Ytloncplpjdekoaa
open Go.RowKit
namespace Tb
/-- its number is less than a quarter of a round ahead of the start -/
def Ahead (st : Int) (x : Ms) : Prop := 1 ≤ Sr.way x.s st ∧ Sr.way x.s st ≤ 1073741824
theorem Ahead.ne {st : Int} {x : Ms} (h : Ahead st x) : x.s ≠ st := fun e => by
  have h1 := h.1
  rw [e] at h1
  unfold Sr.way at h1
  omega
theorem Ahead.after {st : Int} {x : Ms} (h : Ahead st x) : Sr.after st x.s = true := by
  unfold Sr.after
  have := h.1
  have := h.2
  simp
  omega
theorem ahead_of {st z : Int} {x : Ms} (h : x.s = (st - 1 - z % 1073741824) % 4294967296) : Ahead st x := by
  unfold Ahead Sr.way
  omega
section
variable {T : List Ms} {n : Int} {ev : Bool} {old : Int} {f : Fr} {x : Ms} {r : Nat}
theorem came_sub (h : x ∈ (came T n ev old).1) : x ∈ T := by
  cases hx : find T n with
  | none => unfold came at h; rw [hx] at h; exact h
  | some y =>
    by_cases hf : (y.C.length : Int) = y.c
    · rw [came_full hx hf] at h
      exact (List.mem_filter.1 h).1
    · rw [came_part hx hf] at h
      exact h
theorem put1_s (h : x ∈ put1 T f) : ∃ y ∈ T, y.s = x.s := by
  obtain ⟨y, hy, e⟩ := List.mem_map.1 h
  refine ⟨y, hy, ?_⟩
  by_cases hs : y.s = f.s
  · rw [if_pos hs] at e
    rw [← e]
    rfl
  · rw [if_neg hs] at e
    rw [e]
/-- a table's numbers are those that it had, or the frame's -/
theorem put_in (h : x ∈ (put r T f).T) : x.s = f.s ∨ ∃ y ∈ T, y.s = x.s := by
  by_cases h1 : chk f.v f.k f.i f.c = 0
  · by_cases h2 : f.zs = []
    · rw [put_short h1 h2] at h; exact .inr ⟨x, h, rfl⟩
    · cases hx : find T f.s with
      | some y =>
        rw [put_there h1 h2 hx] at h
        split at h
        · exact .inr ⟨x, h, rfl⟩
        · exact .inr (put1_s (came_sub h))
      | none =>
        rw [put_new h1 h2 hx] at h
        split at h
        · exact .inr ⟨x, h, rfl⟩
        · split at h
          · split at h
            · rcases List.mem_append.1 (came_sub h) with h | h
              · exact .inr ⟨x, (List.mem_filter.1 h).1, rfl⟩
              · exact .inl (by rw [List.mem_singleton.1 h]; rfl)
            · exact .inr ⟨x, h, rfl⟩
          · rcases List.mem_append.1 (came_sub h) with h | h
            · exact .inr ⟨x, h, rfl⟩
            · exact .inl (by rw [List.mem_singleton.1 h]; rfl)
  · rw [put_head h1] at h; exact .inr ⟨x, h, rfl⟩
theorem put_ahead {st : Int} (hT : ∀ x ∈ T, Ahead st x) (hf : ∀ x : Ms, x.s = f.s → Ahead st x) : ∀ x ∈ (put r T f).T, Ahead st x := fun x hx => by
  rcases put_in hx with h | ⟨y, hy, e⟩
  · exact hf x h
  · have := hT y hy
    unfold Ahead at this ⊢
    rwa [e] at this
theorem find_ahead {st : Int} (hT : ∀ x ∈ T, Ahead st x) : find T st = none := find_none.2 fun x hx => (hT x hx).ne
theorem drop_app {st : Int} (hT : ∀ x ∈ T, Ahead st x) (hx : x.s = st) : drop (T ++ [x]) st = T := by
  unfold drop
  rw [List.filter_append, List.filter_eq_self.2 fun y hy => by simpa using (hT y hy).ne]
  simp [hx]
end
section
variable {v k s : Int} {zs : List Int} {r R : Nat} {fs : List Fr}
/-- the message, behind j of its frames -/
def nx (v k s : Int) (fs : List Fr) (j : Nat) : Ms := ⟨v, k, s, (fs.length : Int), cts fs (List.range j)⟩
/-- what the table has behind j of the frames -/
def St (v k s : Int) (fs : List Fr) (j : Nat) (T : List Ms) : Prop := ∃ T0, (∀ x ∈ T0, Ahead s x) ∧ T = T0 ++ (if 0 < j ∧ j < fs.length then [nx v k s fs j] else [])
theorem nx_push {j : Nat} {f : Fr} (hc : Ct.Cut v k s zs r fs) (hf : fs[j]? = some f) : (nx v k s fs j).push f = nx v k s fs (j + 1) := by
  obtain ⟨e1, e2, e3, e4, e5, e6⟩ := hc.at' j f hf
  unfold nx Ms.push
  simp only [List.range_succ, cts, List.map_append, List.map_cons, List.map_nil, pz_at hf]
  have : f.ct = (j, f.zs) := by unfold Fr.ct; rw [e4]; rfl
  rw [this]
theorem came_nx {T1 : List Ms} {j : Nat} {ev : Bool} {old : Int} (hc : Ct.Cut v k s zs r fs) (hr : 1 ≤ r) (hT : ∀ x ∈ T1, Ahead s x) (hj : j < fs.length) :
    ∃ T', came (T1 ++ [nx v k s fs (j + 1)]) s ev old = (T', ⟨if j + 1 = fs.length then zs else [], decide (j + 1 = fs.length), ev, old⟩) ∧ St v k s fs (j + 1) T' := by
  have hfd : find (T1 ++ [nx v k s fs (j + 1)]) s = some (nx v k s fs (j + 1)) := find_app (find_ahead hT) rfl
  have hl : (nx v k s fs (j + 1)).C.length = j + 1 := by simp [nx, cts]
  by_cases h : j + 1 = fs.length
  · rw [came_full hfd (by rw [hl, h]; rfl), drop_app hT rfl, hl, if_pos h, decide_eq_true h]
    refine ⟨T1, ?_, T1, hT, ?_⟩
    · have hcat : Sl.cat (cts fs (List.range fs.length)) fs.length = zs := by
        rw [cts_cat List.nodup_range (fun x hx => List.mem_range.1 hx) List.length_range, hc.flat_eq hr]
      show (T1, Out.mk (Sl.cat (cts fs (List.range (j + 1))) (j + 1)) true ev old) = _
      rw [h, hcat]
    · rw [if_neg (by omega), List.append_nil]
  · rw [came_part hfd (by rw [hl]; show ((j + 1 : Nat) : Int) ≠ (fs.length : Int); omega), if_neg h, decide_eq_false h]
    refine ⟨_, rfl, T1, hT, ?_⟩
    rw [if_pos (by omega)]
/-- a frame of it comes -/
theorem put_nx {T : List Ms} {j : Nat} {f : Fr} (hc : Ct.Cut v k s zs r fs) (hr : 1 ≤ r) (hz : zs.length ≤ 192) (hk : chk v k 0 (fs.length : Int) = 0) (hR : 1 ≤ R) (hf : fs[j]? = some f) (h : St v k s fs j T) :
    ∃ T' ev old, put R T f = ⟨0, T', ⟨if j + 1 = fs.length then zs else [], decide (j + 1 = fs.length), ev, old⟩⟩ ∧ St v k s fs (j + 1) T' := by
  have hj := (List.getElem?_eq_some_iff.1 hf).1
  obtain ⟨e1, e2, e3, e4, e5, e6⟩ := hc.at' j f hf
  have hlen := hc.len
  have he := order_err hc hr hz List.nodup_range (fun x hx => Nat.lt_trans (List.mem_range.1 hx) hj) hf (ks := List.range j)
  rw [if_neg (by simp)] at he
  have h1 : chk f.v f.k f.i f.c = 0 := by
    rw [e1, e2, e4, e5, ← hlen]
    exact chk_from hk (by omega)
  have h2 : f.zs ≠ [] := fun e => by
    have hp := Ct.part_len zs r j
    rw [← e6, e] at hp
    have := (Ct.lt_cnt (n := zs.length) (j := j) hr).1 (by omega)
    simp at hp
    omega
  obtain ⟨T0, hT0, hT⟩ := h
  by_cases h0 : j = 0
  · subst h0
    rw [if_neg (by omega), List.append_nil] at hT
    subst hT
    have hnew : Ms.new f = nx v k s fs 0 := by
      unfold Ms.new nx
      rw [e1, e2, e3, e5, ← hlen]
      rfl
    have hfd : find T f.s = none := by rw [e3]; exact find_ahead hT0
    rw [put_new h1 h2 hfd, hnew]
    have he' : (nx v k s fs 0).err f = 0 := he
    rw [if_neg (by simp [he']), nx_push hc hf, e3]
    by_cases hL : T.length = R
    · rw [if_pos hL]
      obtain ⟨y, hy, ey⟩ := old_mem (T := T) (fun e => by subst e; simp at hL; omega)
      rw [if_pos (by rw [← ey]; exact (hT0 y hy).after)]
      obtain ⟨T', hcm, hst⟩ := came_nx (ev := true) (old := old T) hc hr (T1 := drop T (old T)) (fun x hx => hT0 x (List.mem_filter.1 hx).1) hj
      exact ⟨T', true, old T, by rw [hcm]; rfl, hst⟩
    · rw [if_neg hL]
      obtain ⟨T', hcm, hst⟩ := came_nx (ev := false) (old := 0) hc hr hT0 hj
      exact ⟨T', false, 0, by rw [hcm]; rfl, hst⟩
  · rw [if_pos (by omega)] at hT
    subst hT
    have hfd : find (T0 ++ [nx v k s fs j]) f.s = some (nx v k s fs j) := by rw [e3]; exact find_app (find_ahead hT0) rfl
    rw [put_there h1 h2 hfd]
    have he' : (nx v k s fs j).err f = 0 := he
    have hp1 : put1 (T0 ++ [nx v k s fs j]) f = T0 ++ [nx v k s fs (j + 1)] := by
      unfold put1
      rw [List.map_append]
      congr 1
      · refine (List.map_congr_left fun x hx => ?_).trans (List.map_id' T0)
        rw [if_neg (by rw [e3]; exact (hT0 x hx).ne)]
      · rw [List.map_cons, List.map_nil, if_pos (show (nx v k s fs j).s = f.s by rw [e3]; rfl), nx_push hc hf]
    rw [if_neg (by simp [he']), hp1, e3]
    obtain ⟨T', hcm, hst⟩ := came_nx (ev := false) (old := 0) hc hr hT0 hj
    exact ⟨T', false, 0, by rw [hcm]; rfl, hst⟩
theorem St.start {T : List Ms} (h : ∀ x ∈ T, Ahead s x) : St v k s fs 0 T := ⟨T, h, by simp⟩
theorem St.done {T : List Ms} (h : St v k s fs fs.length T) : ∀ x ∈ T, Ahead s x := by
  obtain ⟨T0, hT0, hT⟩ := h
  rw [if_neg (by omega), List.append_nil] at hT
  rw [hT]
  exact hT0
end
end Tb
end Go.Proofs.Ytloncplpjdekoaa

namespace Go.Proofs.Ytloncplpjdekoaa
open Go.RowKit Go.Shelf
set_option maxRecDepth 100000
attribute [local go_sem] Oper.semAt_some

theorem frames_short (v k s i c : Int) (a : Option Addr) (cp : Nat) (room : Int) (w : World) :
    Calls Try.prog 22 #[hdV v k s i c, .slice a 0 cp, .int .i64 room] w (FramesR w v k s [] room) := by
  have HF := Lib.hid (fun e w' => FramesR.bad (w := w) (w' := w') (s := s) (e := e) (show Ct.fErr v k ([] : List Int).length room = 13 from rfl) (by decide))
  generalize FramesR w v k s [] room = G at *
  unfold hdV
  go_enter Try.func22, Try.ntmps22
  go_wp2
  try go_ret2
  exact HF.out _ _ rfl ((Below.refl _ w).alloc (Nat.le_refl _) _)
theorem frames_long (v k s i c : Int) (a : Option Addr) (n cp : Nat) (zs : List Int) (room : Int) (w : World) (hn : zs.length = n) (h1 : 192 < n) :
    Calls Try.prog 22 #[hdV v k s i c, .slice a n cp, .int .i64 room] w (FramesR w v k s zs room) := by
  have HF := Lib.hid (fun e w' => FramesR.bad (w := w) (w' := w') (s := s) (e := e) (show Ct.fErr v k zs.length room = 2 from by unfold Ct.fErr; rw [if_neg (by omega), if_pos (by omega)]) (by decide))
  have h2 : ¬ (n : Int) = 0 := by omega
  have h3 : 192 < (n : Int) := by omega
  clear hn h1
  generalize FramesR w v k s zs room = G at *
  unfold hdV
  go_enter Try.func22, Try.ntmps22
  go_wp2
  try go_ret2
  exact HF.out _ _ rfl ((Below.refl _ w).alloc (Nat.le_refl _) _)
theorem frames_range (v k s i c : Int) (a : Option Addr) (n cp : Nat) (zs : List Int) (room : Int) (w : World) (hn : zs.length = n) (h0 : 1 ≤ n) (h1 : n ≤ 192) (hr : room < 1 ∨ 242 < room) :
    Calls Try.prog 22 #[hdV v k s i c, .slice a n cp, .int .i64 room] w (FramesR w v k s zs room) := by
  have HF := Lib.hid (fun e w' => FramesR.bad (w := w) (w' := w') (s := s) (e := e) (show Ct.fErr v k zs.length room = 5 from by unfold Ct.fErr; rw [if_neg (by omega), if_neg (by omega), if_pos hr]) (by decide))
  have h2 : ¬ (n : Int) = 0 := by omega
  have h3 : ¬ 192 < (n : Int) := by omega
  clear hn h1 h0
  generalize FramesR w v k s zs room = G at *
  unfold hdV
  by_cases h4 : room < 1
  · clear hr
    go_enter Try.func22, Try.ntmps22
    go_wp2
    try go_ret2
    exact HF.out _ _ rfl ((Below.refl _ w).alloc (Nat.le_refl _) _)
  · have h5 : 242 < room := by omega
    clear hr
    go_enter Try.func22, Try.ntmps22
    go_wp2
    try go_ret2
    exact HF.out _ _ rfl ((Below.refl _ w).alloc (Nat.le_refl _) _)
theorem frames_chk (v k s i c : Int) (a : Option Addr) (n cp r : Nat) (zs : List Int) (w : World) (hn : zs.length = n) (h0 : 1 ≤ n) (hn2 : n ≤ 192) (hr1 : 1 ≤ r) (hr2 : r ≤ 242) (hE : chk v k 0 (Ct.cnt n r : Int) ≠ 0) :
    Calls Try.prog 22 #[hdV v k s i c, .slice a n cp, .int .i64 (r : Int)] w (FramesR w v k s zs (r : Int)) := by
  obtain ⟨m, hm⟩ : ∃ m, Ct.cnt n r = m := ⟨_, rfl⟩
  rw [hm] at hE
  have hfe : Ct.fErr v k zs.length (r : Int) = chk v k 0 (m : Int) := by unfold Ct.fErr; rw [if_neg (by omega), if_neg (by omega), if_neg (by omega), Int.toNat_natCast, hn, hm]
  have HF := Lib.hid (fun e w' => FramesR.bad (w := w) (w' := w') (s := s) (e := e) hfe hE)
  have KN : ∀ W, Calls Try.prog 47 #[.int .i64 (n : Int), .int .i64 (r : Int)] W fun e w' => e = .returned (.int .i64 (m : Int)) ∧ w' = W := fun W => by
    have h := ccount_any n (r : Int) (by omega) (by omega) W
    have e1 : cntZ n (r : Int) = (m : Int) := by unfold cntZ; rw [if_neg (by omega), if_neg (by omega), Int.toNat_natCast, hm]
    rwa [e1] at h
  have KC := fun W => check_any v k s 0 (m : Int) W
  unfold hdV at KC
  have h2 : ¬ (n : Int) = 0 := by omega
  have h3 : ¬ 192 < (n : Int) := by omega
  have h4 : ¬ (r : Int) < 1 := by omega
  have h5 : ¬ 242 < (r : Int) := by omega
  have hE2 : (chk v k 0 (m : Int) != 0) = true := by simpa using hE
  clear hn h0 hfe hm hE
  generalize FramesR w v k s zs (r : Int) = G at *
  generalize chk v k 0 (m : Int) = E at *
  unfold hdV
  go_enter Try.func22, Try.ntmps22
  go_wp2_with fail
  refine (KN _).mono ?_
  rintro e w1 ⟨rfl, rfl⟩
  go_wp2_with fail
  refine (KC _).mono ?_
  rintro e w2 ⟨rfl, hb⟩
  have HB := Lib.hid (((Below.refl _ w).alloc (Nat.le_refl _) _).trans (hb.mono (by simp)))
  clear hb
  go_wp2
  try go_ret2
  exact HF.out _ _ rfl HB.out
end Go.Proofs.Ytloncplpjdekoaa

namespace Go.Proofs.Ytloncplpjdekoaa
open Go.RowKit Go.Shelf
set_option maxRecDepth 100000
attribute [local go_sem] Oper.semAt_some

/-- numbers that lie in a row of bytes -/
def InRow (W : World) (A : Option Addr) (zs : List Int) : Prop :=
  zs ≠ [] → ∃ g off cur, A = some ⟨g, off, none⟩ ∧ W.heap[g]? = some (.cells cur 5 (0, 0)) ∧ ∀ (j : Nat) (z : Int), zs[j]? = some z → cur[off + j]? = some (.int .u8 z)
theorem InRow.nums {W : World} {A : Option Addr} {zs : List Int} (h : InRow W A zs) : Nums .u8 W W.heap.size A zs := fun hn => by
  obtain ⟨g, off, cur, e, hh, hc⟩ := h hn
  exact ⟨g, off, e, (Array.getElem?_eq_some_iff.1 hh).1, fun j z hj => by simp only [World.cell?, hh]; exact hc j z hj⟩
/-- rows of bytes, and boxes of numbers, are as they were -/
structure KpT (A B : World) : Prop where
  size : A.heap.size ≤ B.heap.size
  same : ∀ (k : Nat) (cs : Array Value) (t : TypeId), (t = 5 ∨ t = 3 ∨ t = 34) → A.heap[k]? = some (.cells cs t (0, 0)) → B.heap[k]? = some (.cells cs t (0, 0))
theorem KpT.refl (A : World) : KpT A A := ⟨Nat.le_refl _, fun _ _ _ _ h => h⟩
theorem KpT.trans {A B C : World} (h : KpT A B) (k : KpT B C) : KpT A C := ⟨Nat.le_trans h.size k.size, fun i cs t ht hi => k.same i cs t ht (h.same i cs t ht hi)⟩
theorem KpT.of_below {A B : World} (h : Below A.heap.size A B) : KpT A B := ⟨h.size, fun k _ _ _ hk => (h.block k (Array.getElem?_eq_some_iff.1 hk).1).trans hk⟩
theorem KpT.putObj {A : World} {l : Nat} {o o' : Obj} (ho : A.heap[l]? = some o) (hc : o.isCells = false) : KpT A (A.putObj l o') :=
  ⟨by simp [World.putObj], fun k cs t _ hk => (World.putObj_heap_other (fun e => by
    subst e
    rw [ho] at hk
    injection hk with hk
    rw [hk] at hc; cases hc)).trans hk⟩
theorem InRow.keeps {A B : World} {a : Option Addr} {zs : List Int} (h : InRow A a zs) (k : KpT A B) : InRow B a zs := fun hn => by
  obtain ⟨g, off, cur, e, hh, hc⟩ := h hn
  exact ⟨g, off, cur, e, k.same g cur _ (.inl rfl) hh, hc⟩
theorem InRow.made {w w1 : World} {L : List Int} {v : Value} (h : MadeK 5 .u8 w w1 L v) (hn : L ≠ []) : ∃ g cap cur, v = .slice (some ⟨g, 0, none⟩) L.length cap ∧ L.length ≤ cap ∧ w.heap.size ≤ g ∧ w1.heap[g]? = some (.cells cur 5 (0, 0)) ∧ ∀ (j : Nat) (z : Int), L[j]? = some z → cur[j]? = some (.int .u8 z) := by
  obtain ⟨A, c, rfl, hc, hnu⟩ := h.slice
  obtain ⟨b, off, rfl, hb, hcl⟩ := hnu hn
  obtain ⟨hge, cur, hcur⟩ := h.own_ge (g := b) rfl
  have h0 : off = 0 := by
    rcases h.1.2 with ⟨e, _⟩ | ⟨g, cap, cu, hv, _⟩
    · cases e
    · injection hv with hv
      injection hv with hv
      injection hv
  subst h0
  refine ⟨b, c, cur, rfl, hc, hge, hcur, fun j z hj => ?_⟩
  have := hcl j z hj
  rw [Nat.zero_add] at this
  simpa [World.cell?, hcur] using this

/-- what Parts answers: a closure over a copy of the bytes, and the room -/
structure PaSeq (w : World) (zs : List Int) (r Bo Br : Nat) (A1 : Option Addr) (n k1 : Nat) (w' : World) : Prop where
  loO : w.heap.size ≤ Bo
  hiO : Bo < w'.heap.size
  loR : w.heap.size ≤ Br
  boxO : Boxed w' Bo 34 (.slice A1 n k1)
  boxR : Boxed w' Br 3 (.int .i64 (r : Int))
  room : n ≤ k1
  nums : InRow w' A1 zs
  below : Below w.heap.size w w'
theorem cparts_any (a : Option Addr) (n c r : Nat) (zs : List Int) (w : World) (hn : zs.length = n) (hl : n ≤ 1000000) (hr : 1 ≤ r) (h1 : Nums .u8 w w.heap.size a zs) :
    Calls Try.prog 49 #[.slice a n c, .int .i64 (r : Int)] w fun e w' => ∃ Bo Br A1 k1, e = .returned (.func (.func 67) #[] #[.pointer (some ⟨Bo, 0, none⟩), .pointer (some ⟨Br, 0, none⟩)]) ∧ PaSeq w zs r Bo Br A1 n k1 w' := by
  have hb0 := (Below.refl _ w).alloc (Nat.le_refl _) (.cells #[.int .i64 (r : Int)] 3)
  have bR := Boxed.new w 3 (.int .i64 (r : Int))
  have K := clone_any a n c zs (w.alloc (.cells #[.int .i64 (r : Int)] 3)) hn hl ((h1.below hb0).mono hb0.size)
  have hs0 : (w.alloc (.cells #[.int .i64 (r : Int)] 3)).heap.size = w.heap.size + 1 := by simp
  have hr0 : ¬ (r : Int) < 1 := by omega
  have HB0 := Lib.hid hb0
  have HR := Lib.hid bR
  have HS := Lib.hid hs0
  clear h1 hb0 bR hs0
  go_enter Try.func49, Try.ntmps49
  go_wp2_with fail
  refine K.mono ?_
  rintro e w1 ⟨v, rfl, hm⟩
  clear K
  have hnu : ∀ A n c, v = .slice A n c → InRow w1 A zs := fun A n c e h0 => by
    obtain ⟨g, cap, cur, e2, _, _, h1, h2⟩ := InRow.made hm h0
    rw [e2] at e
    injection e with e
    exact ⟨g, 0, cur, e.symm, h1, fun j z hj => by rw [Nat.zero_add]; exact h2 j z hj⟩
  obtain ⟨A1, k1, rfl, hk1, _⟩ := hm.slice
  have hnu := hnu _ _ _ rfl
  rw [hn] at hk1 ⊢
  have hb1 := hm.2
  have hb01 := HB0.out.trans (hb1.mono (by have := HS.out; omega))
  have hs1 : w.heap.size + 1 ≤ w1.heap.size := by have := hb1.size; have := HS.out; omega
  have hb12 : Below w1.heap.size w1 (w1.alloc (.cells #[.slice A1 n k1] 34)) := (Below.refl _ w1).alloc (Nat.le_refl _) _
  have HF := Lib.hid (show PaSeq w zs r w1.heap.size w.heap.size A1 n k1 (w1.alloc (.cells #[.slice A1 n k1] 34)) from
    ⟨by omega, by simp, Nat.le_refl _, Boxed.new w1 _ _, (hb12.block _ (by omega)).trans ((hb1.block _ (by have := HS.out; omega)).trans HR.out), hk1, hnu.keeps (KpT.of_below hb12), hb01.trans (hb12.mono hb01.size)⟩)
  clear hm hnu hb1 hb01 hb12
  go_wp2
  go_ret
  exact ⟨_, _, _, _, rfl, HF.out⟩

set_option maxHeartbeats 4000000 in
theorem cparts_in (n : Nat) (hn1 : 1 ≤ n) (m' l Bo Br m k1 r s0 : Nat) (A1 : Option Addr) (zs : List Int) (hm : zs.length = m) (hm1 : 1 ≤ m) (hl : m ≤ 1000000) (hr1 : 1 ≤ r) (hr2 : r ≤ 1000000)
    (Dn : Nat → World → Prop) (Bk X : World → Prop) (Kp : World → World → Prop)
    (hDb : ∀ A B, Dn 0 A → Below A.heap.size A B → Dn 0 B)
    (hBk : ∀ A B, Bk A → A.heap.size ≤ B.heap.size → (∀ k, s0 ≤ k → k < s0 + 2 → B.heap[k]? = A.heap[k]?) → Bk B) (hBlt : ∀ A, Bk A → s0 + 2 ≤ A.heap.size)
    (hKs : ∀ A B, Kp A B → KpT A B)
    (hY : ∀ j A' W1, Dn j W1 → j < Ct.cnt m r → InRow W1 A' (Ct.part zs r j) → Bk W1 → YieldAt Fence.wide m' Try.prog l #[.int .i64 (j : Int), .slice A' (Ct.part zs r j).length (Ct.part zs r j).length] W1 (YPost s0 l Kp (fun W2 => Dn (j + 1) W2 ∧ Bk W2) X W1))
    (W : World) (hBo : W.cell? ⟨Bo, 0, none⟩ = some (.slice A1 m k1)) (hBr : Boxed W Br 3 (.int .i64 (r : Int))) (hN1 : Nums .u8 W W.heap.size A1 zs) (hD0 : Dn 0 W) (hB0 : Bk W) :
    CallsIn Fence.wide n Try.prog 67 #[.func (.yield l) #[] #[], .pointer (some ⟨Bo, 0, none⟩), .pointer (some ⟨Br, 0, none⟩)] W fun e W' => (∃ v, e = .returned v) ∧ ((Dn (Ct.cnt m r) W' ∧ Bk W') ∨ X W') := by
  have hsW := hBlt W hB0
  have hcl := clone_any A1 m k1 zs W hm hl hN1
  have hz0 : zs ≠ [] := fun e => by rw [e] at hm; simp at hm; omega
  obtain ⟨q, hq⟩ : ∃ q, Ct.cnt m r = q := ⟨_, rfl⟩
  have hq1 : 1 ≤ q := by rw [← hq]; exact Ct.cnt_pos hr1 hm1
  have hqm : q ≤ m := by rw [← hq]; exact Ct.cnt_le hr1
  have HQ : Hid (∀ j, j < q ↔ j * r < m) := fun j => by rw [← hq]; exact Ct.lt_cnt hr1
  have HQE : Hid (m ≤ q * r) := by show m ≤ q * r; rw [← hq]; exact Ct.cnt_end hr1
  rw [hq] at hY ⊢
  have HY := Lib.hid hY
  clear hq hY
  refine callsIn_of_wp Try.func67 rfl trivial ?_ rfl
  simp only [Try.ntmps67, List.size_toArray, List.length_cons, List.length_nil, Nat.reduceAdd, Nat.reduceSub, Array.replicate_succ, Array.replicate_zero, List.push_toArray, List.append_toArray, List.nil_append, List.cons_append]
  gi_wp2_with fail
  refine ⟨trivial, ?_⟩
  refine (callsIn_wide.2 hcl).mono ?_
  rintro e W1 ⟨v, rfl, hmk⟩
  clear hcl
  obtain ⟨g, c', cur, rfl, hc', hge, hcur, hcells⟩ := InRow.made hmk hz0
  rw [hm] at hc' ⊢
  have hb1 := hmk.2
  have hs1 := hb1.size
  have hD1 := hDb _ _ hD0 hb1
  have hBk1 : Bk W1 := hBk _ _ hB0 hs1 (fun k _ h2 => hb1.block k (by omega))
  have HCUR := Lib.hid hcur
  have HCELL := Lib.hid hcells
  have HBR : Hid (Boxed W1 Br 3 (.int .i64 (r : Int))) := (hb1.block Br hBr.lt).trans hBr
  have HM := Lib.hid hm
  clear hmk hcur hcells hb1 hBo hN1 hBr hD0 hB0 hm
  gi_wp2
  gi_loopw [4, 5] (fun v iv wr => ∃ (Al : Option Addr) (j mm cc : Nat), v = .slice Al mm cc ∧ iv = .int .i64 (j : Int) ∧ mm ≤ cc ∧ mm ≤ m ∧ j ≤ q ∧ Hid (0 < mm → Al = some ⟨g, j * r, none⟩) ∧ Hid ((j < q ∧ j * r + mm = m) ∨ (j = q ∧ mm = 0)) ∧ Hid (Dn j wr) ∧ Hid (Bk wr) ∧ Hid (KpT W1 wr))
    (fun _ iv _ => q - (intOf iv).toNat)
  case atStart => exact ⟨some ⟨g, 0, none⟩, 0, m, c', rfl, rfl, hc', Nat.le_refl _, by omega, fun _ => by simp, .inl ⟨by omega, by omega⟩, hD1, hBk1, KpT.refl _⟩
  case round =>
    obtain ⟨Al, j, mm, cc, rfl, rfl, hmc, hml, hjq, HA, HJ, HD, HB, HK⟩ := hrel
    by_cases hm0 : mm = 0
    · have hF : Hid (Dn q wr ∧ Bk wr) := by
        rcases HJ.out with ⟨h1, h2⟩ | ⟨h1, _⟩
        · have := (HQ.out j).1 h1; omega
        · exact ⟨by rw [← h1]; exact HD.out, HB.out⟩
      have hm2 : ¬ (0 : Int) < (mm : Int) := by omega
      gi_wp2
      first | go_end0 | (refine bodyPost_ret (results_none rfl _ _ _) rfl ?_)
      exact ⟨⟨_, rfl⟩, .inl hF.out⟩
    · have hm2 : (0 : Int) < (mm : Int) := by omega
      obtain ⟨hjlt, hjm⟩ : j < q ∧ j * r + mm = m := by
        rcases HJ.out with h | ⟨_, h⟩
        · exact h
        · exact absurd h hm0
      have hAl := HA.out (by omega)
      have hpl : (Ct.part zs r j).length = min r mm := by rw [Ct.part_len, HM.out]; congr 1; omega
      obtain ⟨p, hp⟩ : ∃ p, min r mm = p := ⟨_, rfl⟩
      rw [hp] at hpl
      have hin : InRow wr Al (Ct.part zs r j) := fun _ => ⟨g, j * r, cur, hAl, HK.out.same g cur _ (.inl rfl) HCUR.out, fun i z hi => HCELL.out (j * r + i) z (by
        unfold Ct.part at hi
        rw [List.getElem?_take] at hi
        split at hi
        · rwa [List.getElem?_drop] at hi
        · cases hi)⟩
      have hyl := HY.out j Al wr HD.out hjlt hin HB.out
      rw [hpl] at hyl
      obtain ⟨fn, tmps, assign, body, hy, hR⟩ := yield_any (n - 1) hyl
      have HRn := Lib.hid hR
      have hpi : min (r : Int) (mm : Int) = (p : Int) := by omega
      have hp1 : 1 ≤ p := by omega
      have hpm : p ≤ mm := by omega
      have hpm' : (p : Int) ≤ (mm : Int) := by omega
      have hpc' : (p : Int) ≤ (cc : Int) := by omega
      have hmcc : (mm : Int) ≤ (cc : Int) := by omega
      have hbr : wr.cell? ⟨Br, 0, none⟩ = some (.int .i64 (r : Int)) := (show Boxed wr Br 3 (.int .i64 (r : Int)) from HK.out.same _ _ _ (.inr (.inl rfl)) HBR.out).cell
      have HAl := Lib.hid hAl
      have HJM := Lib.hid hjm
      have HP := Lib.hid hp
      have hsucc : (j + 1) * r = j * r + r := by rw [Nat.add_mul, Nat.one_mul]
      have hnext : (j + 1 < q ∧ p = r ∧ (j + 1) * r + (mm - p) = m) ∨ (j + 1 = q ∧ mm - p = 0) := by
        rcases Nat.lt_or_ge (j + 1) q with h | h
        · left
          have := (HQ.out (j + 1)).1 h
          refine ⟨h, by omega, by omega⟩
        · right
          have h2 : j + 1 = q := by omega
          have := HQE.out
          rw [← h2] at this
          exact ⟨h2, by omega⟩
      have HNX := Lib.hid hnext
      clear hAl hjm hpl hp hin hyl hR hsucc hnext HJ HA
      by_cases hcp : cc = p
      · have hjq1 : j + 1 = q := by
          rcases HNX.out with ⟨h1, _, h3⟩ | ⟨h, _⟩
          · have := (HQ.out (j + 1)).1 h1; omega
          · exact h
        have e1 : mm = p := by omega
        have HJ1 := Lib.hid hjq1
        clear hjq1 HNX HJM HP
        subst e1
        subst hcp
        gi_wp2_with fail
        refine HRn.out.mono ?_
        rintro e V2 (⟨rfl, ⟨hd, hb⟩, hk, _⟩ | ⟨rfl, hx, _⟩)
        · have HD2 := Lib.hid hd
          have HB2 := Lib.hid hb
          have HK2 := Lib.hid (HK.out.trans (hKs _ _ hk))
          clear hd hb hk
          gi_wp2
          go_roundw
          case rel => exact ⟨_, j + 1, _, _, rfl, by go_num, by omega, by omega, by have := HJ1.out; omega, fun h => by omega, .inr ⟨HJ1.out, by omega⟩, HD2, HB2, HK2⟩
          case measure => simp [intOf]; omega
        · have hF := Lib.hid hx
          clear hx
          gi_wp2
          first | go_end0 | (refine bodyPost_ret (results_none rfl _ _ _) rfl ?_)
          exact ⟨⟨_, rfl⟩, .inr hF.out⟩
      · gi_wp2_with fail
        refine HRn.out.mono ?_
        rintro e V2 (⟨rfl, ⟨hd, hb⟩, hk, _⟩ | ⟨rfl, hx, _⟩)
        · have HD2 := Lib.hid hd
          have HB2 := Lib.hid hb
          have HK2 := Lib.hid (HK.out.trans (hKs _ _ hk))
          have HA2 : Hid (0 < mm - p → Al.map (·.add p) = some ⟨g, (j + 1) * r, none⟩) := fun h => by
            rcases HNX.out with ⟨_, h2, _⟩ | ⟨_, h2⟩
            · rw [HAl.out, h2]
              have hr0 : r ≠ 0 := by omega
              simp [Addr.add, Nat.add_mul, hr0]
            · omega
          have HJ2 : Hid ((j + 1 < q ∧ (j + 1) * r + (mm - p) = m) ∨ (j + 1 = q ∧ mm - p = 0)) := HNX.out.imp (fun h => ⟨h.1, h.2.2⟩) id
          clear hd hb hk HNX
          gi_wp2
          go_roundw
          case rel => exact ⟨_, j + 1, mm - p, cc - p, rfl, by go_num, by omega, by omega, by omega, HA2, HJ2, HD2, HB2, HK2⟩
          case measure => simp [intOf]; omega
        · have hF := Lib.hid hx
          clear hx
          gi_wp2
          first | go_end0 | (refine bodyPost_ret (results_none rfl _ _ _) rfl ?_)
          exact ⟨⟨_, rfl⟩, .inr hF.out⟩
end Go.Proofs.Ytloncplpjdekoaa

namespace Go.Proofs.Ytloncplpjdekoaa
namespace Fc
open Cb

theorem scan_feed (x y : List Int) : ∀ (p : Nat) (now : List Int), scan p now (x ++ y) = scan p now x ++ scan (p + x.length) (opn now x) y := by
  induction x with
  | nil => intro p now; simp [scan, opn]
  | cons z x ih =>
    intro p now
    rw [List.cons_append]
    by_cases hz : z = 0
    · subst hz
      rw [scan_zero, scan_zero, ih, List.append_assoc, opn_zero, List.length_cons]
      congr 3; omega
    · rw [scan_ne hz, scan_ne hz, ih, opn_ne hz, List.length_cons]
      congr 2; omega
theorem opn_feed (x y : List Int) : ∀ now : List Int, opn now (x ++ y) = opn (opn now x) y := by
  induction x with
  | nil => intro now; simp [opn]
  | cons z x ih =>
    intro now
    rw [List.cons_append]
    by_cases hz : z = 0
    · subst hz; rw [opn_zero, opn_zero, ih]
    · rw [opn_ne hz, opn_ne hz, ih]
theorem opn_isNZ (x : List Int) : ∀ {now : List Int}, NZ now → NZ (opn now x) := by
  induction x with
  | nil => intro now h; simpa [opn] using h
  | cons z x ih =>
    intro now h
    by_cases hz : z = 0
    · subst hz; rw [opn_zero]; exact ih (fun c hc => by cases hc)
    · rw [opn_ne hz]; exact ih (h.append fun c hc => by simp at hc; subst hc; exact hz)
theorem opn_length (x : List Int) : ∀ now : List Int, (opn now x).length ≤ now.length + x.length := by
  induction x with
  | nil => intro now; simp [opn]
  | cons z x ih =>
    intro now
    by_cases hz : z = 0
    · subst hz; have := ih []; rw [opn_zero]; simp only [List.length_nil, List.length_cons] at this ⊢; omega
    · have := ih (now ++ [z]); rw [opn_ne hz]; simp only [List.length_append, List.length_cons, List.length_nil] at this ⊢; omega
theorem opn_bytes (x : List Int) : ∀ {now : List Int}, Bytes now → Bytes x → Bytes (opn now x) := by
  induction x with
  | nil => intro now h _; simpa [opn] using h
  | cons z x ih =>
    intro now h hx
    have hr : Bytes x := fun c hc => hx c (by simp [hc])
    by_cases hz : z = 0
    · subst hz; rw [opn_zero]; exact ih (fun c hc => by cases hc) hr
    · rw [opn_ne hz]; exact ih (h.append fun c hc => by simp at hc; subst hc; exact hx c (by simp)) hr
/-- up to the first 0 -/
theorem scan_stepn {L : List Int} (h : nz L < L.length) (p : Nat) (now : List Int) :
    scan p now L = (if now ++ L.take (nz L) = [] then [] else [(p + nz L - (now ++ L.take (nz L)).length, now ++ L.take (nz L))]) ++ scan (p + nz L + 1) [] (L.drop (nz L + 1)) := by
  conv => lhs; rw [cut_nz h]
  have hl : (L.take (nz L)).length = nz L := by rw [List.length_take]; omega
  rw [scan_nz (nz_take L), scan_zero, hl]
theorem opn_stepn {L : List Int} (h : nz L < L.length) (now : List Int) : opn now L = opn [] (L.drop (nz L + 1)) := by
  conv => lhs; rw [cut_nz h]
  rw [opn_app]
theorem last_isNZ {L : List Int} (h : L.length ≤ nz L) : NZ L := by
  have := nz_take L
  rwa [List.take_of_length_le h] at this
theorem scan_lastn {L : List Int} (h : L.length ≤ nz L) (p : Nat) (now : List Int) : scan p now L = [] := scan_end (last_isNZ h) p now
theorem opn_lastn {L : List Int} (h : L.length ≤ nz L) (now : List Int) : opn now L = now ++ L := opn_end (last_isNZ h) now
/-- a segment's end lies within what was fed -/
theorem scan_place (L : List Int) : ∀ (p : Nat) (now : List Int), now.length ≤ p → ∀ x ∈ scan p now L, p - now.length ≤ x.1 ∧ x.1 + x.2.length + 1 ≤ p + L.length := by
  induction L with
  | nil => intro p now _ x hx; simp [scan] at hx
  | cons z r ih =>
    intro p now hn x hx
    by_cases hz : z = 0
    · subst hz
      rw [scan_zero] at hx
      rcases List.mem_append.1 hx with hx | hx
      · split at hx
        · simp at hx
        · simp at hx; subst hx
          exact ⟨Nat.le_refl _, by simp only [List.length_cons]; omega⟩
      · have h1 := ih (p + 1) [] (by simp) x hx
        simp only [List.length_nil, List.length_cons] at h1 ⊢
        omega
    · rw [scan_ne hz] at hx
      have h1 := ih (p + 1) (now ++ [z]) (by simp; omega) x hx
      simp only [List.length_append, List.length_cons, List.length_nil] at h1 ⊢
      omega
theorem scan_isBytes (L : List Int) : ∀ (p : Nat) (now : List Int), Bytes now → Bytes L → ∀ x ∈ scan p now L, Bytes x.2 := by
  induction L with
  | nil => intro p now _ _ x hx; simp [scan] at hx
  | cons z r ih =>
    intro p now h hx x hm
    have hr : Bytes r := fun c hc => hx c (by simp [hc])
    by_cases hz : z = 0
    · subst hz
      rw [scan_zero] at hm
      rcases List.mem_append.1 hm with hm | hm
      · split at hm
        · simp at hm
        · simp at hm; subst hm; exact h
      · exact ih _ [] (fun c hc => by cases hc) hr x hm
    · rw [scan_ne hz] at hm
      exact ih _ _ (h.append fun c hc => by simp at hc; subst hc; exact hx c (by simp)) hr x hm
end Fc

/-- what is held of bytes that are open: none, if they are too many -/
def held (b : List Int) : List Int := if 255 < b.length then [] else b
theorem held_long {b : List Int} (h : 255 < b.length) : held b = [] := if_pos h
theorem held_short {b : List Int} (h : b.length ≤ 255) : held b = b := if_neg (by omega)
theorem held_len (b : List Int) : (held b).length ≤ 255 := by
  unfold held; split
  · simp
  · omega
theorem held_le (b : List Int) : (held b).length ≤ b.length := by
  unfold held; split
  · simp
  · exact Nat.le_refl _
theorem held_bytes {b : List Int} (h : Bytes b) : Bytes (held b) := by
  unfold held; split
  · intro c hc; cases hc
  · exact h
theorem held_nil : held [] = [] := rfl

/-- a segment that was told: its bytes' place and room; where it was, and its bytes -/
structure Sg where
  a : Option Addr
  cp : Nat
  p : Nat
  b : List Int
def Sg.cs (x : Sg) : Array Value := #[.slice x.a (held x.b).length x.cp, .bool (decide (255 < x.b.length)), .int .i64 x.b.length, .int .u64 x.p]
def Sg.pb (x : Sg) : Nat × List Int := (x.p, x.b)
/-- the cells of segments, one behind the other -/
def flatS (xs : List Sg) : List Value := xs.flatMap fun x => x.cs.toList
theorem flatS_len (xs : List Sg) : (flatS xs).length = xs.length * 4 := by
  induction xs with
  | nil => rfl
  | cons f r ih => unfold flatS at *; rw [List.flatMap_cons, List.length_append, ih, List.length_cons]; have : f.cs.toList.length = 4 := rfl; omega
theorem flatS_push (xs : List Sg) (x : Sg) : flatS (xs ++ [x]) = flatS xs ++ x.cs.toList := by unfold flatS; simp
theorem flatS_append (xs ys : List Sg) : flatS (xs ++ ys) = flatS xs ++ flatS ys := by unfold flatS; simp
theorem flatS_at : ∀ {xs : List Sg} {j q : Nat} {x : Sg} {u : Value}, xs[j]? = some x → x.cs[q]? = some u → (flatS xs)[j * 4 + q]? = some u
  | [], _, _, _, _, h, _ => by simp at h
  | g :: r, 0, q, x, u, h, hq => by
    simp only [List.getElem?_cons_zero, Option.some.injEq] at h
    subst h
    have hlt : q < 4 := (Array.getElem?_eq_some_iff.1 hq).1
    unfold flatS
    rw [List.flatMap_cons, List.getElem?_append_left (by show 0 * 4 + q < 4; omega), Nat.zero_mul, Nat.zero_add, Array.getElem?_toList]
    exact hq
  | g :: r, j + 1, q, x, u, h, hq => by
    have ih := flatS_at (xs := r) (j := j) (q := q) (x := x) (u := u) (by simpa using h) hq
    unfold flatS at *
    have h6 : g.cs.toList.length = 4 := rfl
    rw [List.flatMap_cons, List.getElem?_append_right (by rw [h6]; omega), h6, show (j + 1) * 4 + q - 4 = j * 4 + q by omega]
    exact ih
theorem flatS_of {xs : List Sg} {i : Nat} {u : Value} (h : (flatS xs)[i]? = some u) : ∃ x, xs[i / 4]? = some x ∧ x.cs[i % 4]? = some u := by
  have hlt := (List.getElem?_eq_some_iff.1 h).1
  rw [flatS_len] at hlt
  have hx : i / 4 < xs.length := by omega
  obtain ⟨x, hx⟩ : ∃ x, xs[i / 4]? = some x := ⟨_, List.getElem?_eq_getElem hx⟩
  have h4 : i % 4 < x.cs.size := by show i % 4 < 4; omega
  obtain ⟨v, hv⟩ : ∃ v, x.cs[i % 4]? = some v := ⟨_, Array.getElem?_eq_getElem h4⟩
  have := flatS_at hx hv
  rw [show i / 4 * 4 + i % 4 = i by omega, h] at this
  injection this with this
  subst this
  exact ⟨x, hx, hv⟩
theorem flatS_one {xs : List Sg} : ∀ u ∈ flatS xs, u.oneCell' = true := fun u hu => by
  obtain ⟨x, _, hx⟩ := List.mem_flatMap.1 hu
  simp [Sg.cs] at hx
  rcases hx with rfl | rfl | rfl | rfl <;> rfl
end Go.Proofs.Ytloncplpjdekoaa

namespace Go.Proofs.Ytloncplpjdekoaa
open Go.RowKit Go.Shelf
set_option maxRecDepth 100000
attribute [local go_sem] Oper.semAt_some

section
variable {te tl : TypeId} {k : IntKind} {base : Nat} {W w1 : World} {v v' u u' x : Value} {xs : List Value} {O : List (List Int)} {N b : List Int} {o : Obj}
/-- a row of a third type has grown -/
theorem Ls.far {e3 : TypeId} {n : Nat} {v3 : Value} {ys : List Value} (h : Ls te tl k base W v u xs O N) (h3 : W.ownsRow base e3 1 v3 n ys) (hne : te ≠ e3) (hne2 : tl ≠ e3) (hg : (W.alloc o).grownBy w1 v3.ownBlock) : Ls te tl k base w1 v u xs O N := by
  refine ⟨(h.out.alloc o).kept hg (own_far h.out h3 hne2), fun i b hb => ?_, (h.now.alloc o).kept hg (own_far h.now h3 hne)⟩
  obtain ⟨x, hx, A, c, rfl, hc, hcell⟩ := h.els i b hb
  refine ⟨_, hx, A, c, rfl, hc, fun hn => ?_⟩
  obtain ⟨g, cur, rfl, hbg, hh, hu, hz⟩ := hcell hn
  have hlt := (Array.getElem?_eq_some_iff.1 hh).1
  refine ⟨g, cur, rfl, hbg, ?_, hu, hz⟩
  rw [hg.block g (by rw [World.size_alloc]; omega) (fun e => ?_)]
  · exact (Below.heap_alloc W o g hlt).trans hh
  · rcases h3.2 with ⟨rfl, _⟩ | ⟨g2, cap2, cur2, rfl, _, hh2, _⟩
    · simp [Value.ownBlock] at e
    · simp only [Value.ownBlock, Option.some.injEq] at e
      subst e
      rw [hh] at hh2
      injection hh2 with hh2
      injection hh2 with _ ht
      exact hne ht
theorem Ls.renil (h : Ls te tl k base W v u xs O []) : Ls te tl k base W v (.slice none 0 0) xs O [] := by
  refine ⟨h.out, fun i b hb => ?_, World.ownsRow_nil _ _ _ _⟩
  obtain ⟨x, hx, A, c, rfl, hc, hcell⟩ := h.els i b hb
  refine ⟨_, hx, A, c, rfl, hc, fun hn => ?_⟩
  obtain ⟨g, cur, rfl, hbg, hh, _, hz⟩ := hcell hn
  exact ⟨g, cur, rfl, hbg, hh, by simp [Value.ownBlock], hz⟩
end

theorem own_slice_le {w : World} {base : Nat} {e : TypeId} {size n : Nat} {v : Value} {xs : List Value} (h : w.ownsRow base e size v n xs) : ∃ A c, v = .slice A n c ∧ n ≤ c := by
  rcases h.2 with ⟨rfl, h0⟩ | ⟨g, cap, cur, rfl, _, _, hle, _⟩
  · subst h0; exact ⟨none, 0, rfl, Nat.le_refl _⟩
  · exact ⟨_, cap, rfl, hle⟩

/-- the places, as the program's numbers -/
def plc (l : List (Nat × List Int)) : List Int := l.map fun x => (x.1 : Int)
theorem plc_append (a b : List (Nat × List Int)) : plc (a ++ b) = plc a ++ plc b := by simp [plc]
/-- what the document's Split leaves -/
def RSplit (w : World) (zs : List Int) (e : Ending) (w' : World) : Prop :=
  ∃ A1 c1 A2 c2 A3 c3, e = .returned (.tuple #[.slice A1 (Fc.segs zs).length c1, .slice A2 (Fc.segs zs).length c2, .slice A3 (Fc.opn [] zs).length c3]) ∧ (Fc.segs zs).length ≤ c1 ∧ (Fc.segs zs).length ≤ c2 ∧ (Fc.opn [] zs).length ≤ c3 ∧
    ListAt .u8 w' w'.heap.size A1 (Fc.segs zs) ∧ Nums .i64 w' w'.heap.size A2 (plc (Fc.scan 0 [] zs)) ∧ Nums .u8 w' w'.heap.size A3 (Fc.opn [] zs) ∧ Below w.heap.size w w'

/-- the elements' bytes lie in blocks of base.. -/
def ListNew (base : Nat) (w : World) (A : Option Addr) (bl : List (List Int)) : Prop :=
  ∀ (i : Nat) (b : List Int), bl[i]? = some b → ∃ (g : Nat) (Ai : Option Addr) (ci : Nat), A = some ⟨g, 0, none⟩ ∧ w.cell? ⟨g, i, none⟩ = some (.slice Ai b.length ci) ∧ NumsS .u8 w (fun k => base ≤ k ∧ k < w.heap.size) Ai b
theorem Ls.new {te tl : TypeId} {base : Nat} {W : World} {v u : Value} {xs : List Value} {O : List (List Int)} {N : List Int} (h : Ls te tl .u8 base W v u xs O N) (A : Option Addr) (c : Nat) (hv : v = .slice A O.length c) : ListNew base W A O := fun i b hi => by
  rcases h.out.2 with ⟨_, h0⟩ | ⟨g, cap, cur, e, hbg, hh, hle, _⟩
  · rw [List.eq_nil_of_length_eq_zero h0] at hi
    simp at hi
  · rw [hv] at e
    injection e with e1 e2 e3
    subst e1 e3
    obtain ⟨x, hx, A, c, rfl, hc, hcell⟩ := h.els i b hi
    have h1 := h.out.cells (g := g) (by rw [hv]; rfl) i _ hx
    rw [Addr.add_lit, Nat.zero_add] at h1
    refine ⟨g, A, c, rfl, h1, fun hn => ?_⟩
    obtain ⟨g2, cur2, rfl, hb2, hh2, _, hz⟩ := hcell hn
    refine ⟨g2, 0, rfl, ⟨hb2, (Array.getElem?_eq_some_iff.1 hh2).1⟩, fun j z hj => ?_⟩
    rw [Nat.zero_add]
    simp [World.cell?, hh2, hz j z hj]
def RSplit2 (w : World) (zs : List Int) (e : Ending) (w' : World) : Prop :=
  ∃ A1 c1 A2 c2 A3 c3, e = .returned (.tuple #[.slice A1 (Fc.segs zs).length c1, .slice A2 (Fc.segs zs).length c2, .slice A3 (Fc.opn [] zs).length c3]) ∧ (Fc.segs zs).length ≤ c1 ∧ (Fc.segs zs).length ≤ c2 ∧ (Fc.opn [] zs).length ≤ c3 ∧
    ListAt .u8 w' w'.heap.size A1 (Fc.segs zs) ∧ Nums .i64 w' w'.heap.size A2 (plc (Fc.scan 0 [] zs)) ∧ Nums .u8 w' w'.heap.size A3 (Fc.opn [] zs) ∧ Below w.heap.size w w' ∧ ListNew w.heap.size w' A1 (Fc.segs zs)
end Go.Proofs.Ytloncplpjdekoaa

namespace Go.Proofs.Ytloncplpjdekoaa
open Go.RowKit Go.Shelf
set_option maxRecDepth 100000

section
variable {w w' : World} {b lo : Nat} {v : Value} {p : Nat} {now : List Int}
end
/-- what a turn of the scanner changes: it, and the row that it holds -/
def ScB (b : Nat) (own : Option Nat) (k : Nat) : Prop := k = b ∨ own = some k
/-- a store into the scanner's own block -/
theorem scan_store {w : World} {b j : Nat} {cs : Array Value} {t : TypeId} {u : Value} (own : Option Nat) (_h : w.heap[b]? = some (.cells cs t (0, 0))) : Off (ScB b own) w (w.setCell ⟨b, j, none⟩ u) :=
  (Off.refl (ScB b own) w).setCell (p := ⟨b, j, none⟩) (.inl rfl) u
theorem own_setCell {w : World} {b j lo n : Nat} {e : TypeId} {v u : Value} {xs : List Value} (h : w.ownsRow lo e 1 v n xs) (hb : v.ownBlock ≠ some b) : (w.setCell ⟨b, j, none⟩ u).ownsRow lo e 1 v n xs := by
  refine ⟨h.1, ?_⟩
  rcases h.2 with h3 | ⟨g, cap, cur, rfl, hg, hh, r⟩
  · exact .inl h3
  · exact .inr ⟨g, cap, cur, rfl, hg, (Below.heap_setCell _ ⟨b, j, none⟩ _ g (fun e => hb (by rw [e]; rfl))).trans hh, r⟩
end Go.Proofs.Ytloncplpjdekoaa

namespace Go.Proofs.Ytloncplpjdekoaa
open Go.RowKit Go.Shelf
set_option maxRecDepth 100000

section
variable {w : World} {b lo p : Nat} {v : Value} {now : List Int}
end
end Go.Proofs.Ytloncplpjdekoaa

namespace Go.Proofs.Ytloncplpjdekoaa
open Go.RowKit Go.Shelf
set_option maxRecDepth 100000

/-- a segment's cells -/
def sgC (v : Value) (l : Bool) (n p : Int) : Array Value := #[v, .bool l, .int .i64 n, .int .u64 p]
theorem sg_block {W : World} {b : Nat} {v : Value} {l : Bool} {n p : Int} {t : TypeId} (h : W.heap[b]? = some (.cells (sgC v l n p) t (0, 0))) :
    W.cell? ⟨b, 0, none⟩ = some v ∧ W.cell? ⟨b, 1, none⟩ = some (.bool l) ∧ W.cell? ⟨b, 2, none⟩ = some (.int .i64 n) ∧ W.cell? ⟨b, 3, none⟩ = some (.int .u64 p) := by
  simp [World.cell?, h, sgC]
theorem sg_one (A : Option Addr) (n c : Nat) (l : Bool) (m p : Int) : (sgC (.slice A n c) l m p).all (·.oneCell') = true := by simp [sgC, Value.oneCell']
end Go.Proofs.Ytloncplpjdekoaa

namespace Go.Proofs.Ytloncplpjdekoaa
open Go.RowKit Go.Shelf
set_option maxRecDepth 100000
attribute [local go_sem] Oper.semAt_some

/-- the block of the row that the scanner holds now -/
def ownS (b : Nat) (W : World) : Option Nat := (W.cell? ⟨b, 2, none⟩).bind Value.ownBlock
section
variable {b lo p j : Nat} {own0 : Option Nat} {W W1 W2 : World} {v v1 : Value} {now : List Int}
end
end Go.Proofs.Ytloncplpjdekoaa

namespace Go.Proofs.Ytloncplpjdekoaa
open Go.RowKit Go.Shelf
set_option maxRecDepth 100000

theorem own_offR {S : Nat → Prop} {w w' : World} {lo e size n : Nat} {v : Value} {xs : List Value} (h : w.ownsRow lo e size v n xs) (hf : Off S w w') (hn : ∀ g, v.ownBlock = some g → ¬ S g) : w'.ownsRow lo e size v n xs :=
  ⟨h.1, h.2.imp id fun ⟨g, cap, cur, hv, hg, hh, r⟩ => ⟨g, cap, cur, hv, hg, (hf.block g (Array.getElem?_eq_some_iff.1 hh).1 (hn g (by rw [hv]; rfl))).trans hh, r⟩⟩
theorem own_same {w w' : World} {lo e size n : Nat} {v : Value} {xs : List Value} (h : w.ownsRow lo e size v n xs) (hk : ∀ (k : Nat) (o : Obj), w.heap[k]? = some o → o.isCells = true → w'.heap[k]? = some o) : w'.ownsRow lo e size v n xs :=
  ⟨h.1, h.2.imp id fun ⟨g, cap, cur, hv, hg, hh, r⟩ => ⟨g, cap, cur, hv, hg, hk g _ hh rfl, r⟩⟩
/-- a segment's bytes lie in a block of Q that the scanner doesn't hold -/
def SgP (b : Nat) (Q : Nat → Prop) (W : World) (x : Sg) : Prop :=
  (held x.b).length ≤ x.cp ∧ (held x.b ≠ [] → ∃ g cur, x.a = some ⟨g, 0, none⟩ ∧ Q g ∧ W.heap[g]? = some (.cells cur 5 (0, 0)) ∧ ownS b W ≠ some g ∧ ∀ (j : Nat) (z : Int), (held x.b)[j]? = some z → cur[j]? = some (.int .u8 z))
theorem ownS_of_block {b : Nat} {V V' : World} (h : V'.heap[b]? = V.heap[b]?) : ownS b V' = ownS b V := by
  unfold ownS; rw [World.cell?_of_block (a := ⟨b, 2, none⟩) h]
section
variable {w1 V V' : World} {b Bo j : Nat} {Q : Nat → Prop} {own0 : Option Nat} {full : List (Nat × List Int)}
end
/-- append of structs onto a row of the call's own, inside a fence -/
theorem wpListIn_append_own_at {F : Fence} {nF : Nat} {P : Program} {w : World} {ops : Array Oper} {rest : List Oper} {o : Oper} {a : Act} {Q : Exit → Act → World → Prop} (hg : o.guard = none) (s x : Operand) (t : TypeId)
    (hop : o.op = Op.call { callee := Callee.builtin Builtin.append, args := #[s, x], argTypes := #[t, t] })
    (base : Nat) (e : TypeId) (i : TypeInfo) (z : Value) (size bytes : Nat) (ht : P.underlying t = some (.slice e)) (hi : P.info? e = some i) (hz : i.zero = some z) (hsize : i.size = size) (hby : i.bytes = bytes) (hzs : z.cells.size = size) (hsz : 0 < size)
    (v : Value) (n : Nat) (xs : List Value) (hs : a.eval s = v) (hown : w.ownsRow base e size v n xs) (ad : Addr) (m c : Nat) (news : List Value) (hx : a.eval x = .slice (some ad) m c) (hl : news.length = m * size) (hnews : ∀ j u, news[j]? = some u → w.cell? (ad.add j) = some u) (h1 : ∀ u ∈ news, u.oneCell' = true)
    (h63 : n + m ≤ maxLen) (hbytes : (n + m) * bytes ≤ 140737488355328) (hbase : base ≤ w.heap.size)
    (hK : ∀ v' w', w'.ownsRow base e size v' (n + m) (xs ++ news) → w.grownBy w' v.ownBlock → (v'.ownBlock = v.ownBlock ∨ v'.ownBlock = some w.heap.size) → wpListIn F nF P ops Q rest (a.put o.dst v') w') :
    wpListIn F nF P ops Q (o :: rest) a w := by
  refine wpListIn_plain hg fun K hK' => ?_
  obtain ⟨v', w', hrun, r1, r2, _, r4⟩ := run_append_own_at (P := P) (w := w) base t o.type e i z size bytes ht hi hz hsize hby hzs hsz v n xs hown ad m c news hl hnews h1 h63 hbytes hbase
  unfold Oper.wpIn
  refine ⟨?_, ?_⟩
  · simp [Oper.about, hop, resolve, Target.leads, Sem.run_pure]
  · rw [Oper.semAt_plain F _ _ (by rw [hop]; intro c hc'; cases hc')]
    simp [execOp, hop, resolve, invoke, builtin, hs, hx, hrun, Result.andThen]
    exact hK' _ _ (hK v' w' r1 r2 r4)
end Go.Proofs.Ytloncplpjdekoaa

namespace Go.Proofs.Ytloncplpjdekoaa
open Go.RowKit Go.Shelf
set_option maxRecDepth 100000

/-- the payloads lie in rows of bytes -/
def PayIn (W : World) (fs : List Fr) : Prop := ∀ f ∈ fs, f.zs.length ≤ f.cp ∧ InRow W f.a f.zs
theorem PayIn.keeps {A B : World} {fs : List Fr} (h : PayIn A fs) (k : KpT A B) : PayIn B fs := fun f hf => ⟨(h f hf).1, (h f hf).2.keeps k⟩
/-- behind j rounds: the list in the box Bl, the head in the box Bh; what was there at the loop's start (w4) lies as it lay -/
structure Fq (Bh Bl base : Nat) (v k s : Int) (zs : List Int) (r m : Nat) (w w4 : World) (j : Nat) (V : World) : Prop where
  list : ∃ u fs, Boxed V Bl 57 u ∧ V.ownsRow base 36 6 u fs.length (flatF fs) ∧ fs.length = j ∧ CutGo v k s zs r m fs ∧ PayIn V fs
  head : ∃ i, V.heap[Bh]? = some (.cells #[.int .i64 v, .int .i64 k, .int .u32 s, .int .i64 i, .int .i64 (m : Int)] 33 (0, 0))
  keep : KpT w4 V
  below : Below w.heap.size w V
section
variable {Bh Bl base r m j : Nat} {v k s : Int} {zs : List Int} {w w4 V V' : World}
theorem Fq.putObj {l : Nat} {o o' : Obj} (h : Fq Bh Bl base v k s zs r m w w4 j V) (hw : w.heap.size ≤ l) (ho : V.heap[l]? = some o) (hc : o.isCells = false) : Fq Bh Bl base v k s zs r m w w4 j (V.putObj l o') := by
  obtain ⟨u, fs, h1, h2, h3, h4, h5⟩ := h.list
  obtain ⟨i, hi⟩ := h.head
  have hne : ∀ (q : Nat) (cs : Array Value) (t : TypeId), V.heap[q]? = some (.cells cs t (0, 0)) → (V.putObj l o').heap[q]? = some (.cells cs t (0, 0)) := fun q cs t hq => (World.putObj_heap_other (fun e => by
    subst e
    rw [ho] at hq
    injection hq with hq
    rw [hq] at hc; cases hc)).trans hq
  exact ⟨⟨u, fs, hne _ _ _ h1, ownsRow_putObj h2 _ ho hc, h3, h4, h5.keeps (KpT.putObj ho hc)⟩, ⟨i, hne _ _ _ hi⟩, h.keep.trans (KpT.putObj ho hc), h.below.trans (below_put V o' hw)⟩
theorem Fq.later (h : Fq Bh Bl base v k s zs r m w w4 j V) (hB : Below V.heap.size V V') : Fq Bh Bl base v k s zs r m w w4 j V' := by
  obtain ⟨u, fs, h1, h2, h3, h4, h5⟩ := h.list
  obtain ⟨i, hi⟩ := h.head
  exact ⟨⟨u, fs, (hB.block _ h1.lt).trans h1, own_below6 h2 hB, h3, h4, h5.keeps (KpT.of_below hB)⟩, ⟨i, (hB.block _ (Array.getElem?_eq_some_iff.1 hi).1).trans hi⟩, h.keep.trans (KpT.of_below hB), h.below.trans (hB.mono h.below.size)⟩
/-- a round: the head's index is set, the list grows -/
theorem Fq.push {V4 : World} {u u' : Value} {fs : List Fr} {i j' : Int} {a : Option Addr} {cp : Nat} {P : List Int} {s0 : Nat} (hbase : w.heap.size ≤ base) (hBh : w.heap.size ≤ Bh) (hBl : w.heap.size ≤ Bl) (hj : j' = (j : Int))
    (hne : Bh ≠ Bl) (h1 : Boxed V Bl 57 u) (h2 : V.ownsRow base 36 6 u fs.length (flatF fs)) (h3 : fs.length = j) (h4 : CutGo v k s zs r m fs) (h5 : PayIn V fs)
    (hh : V.heap[Bh]? = some (.cells #[.int .i64 v, .int .i64 k, .int .u32 s, .int .i64 i, .int .i64 (m : Int)] 33 (0, 0))) (hk : KpT w4 V) (hb : Below w.heap.size w V) (hP : P = Ct.part zs r j) (hcp : P.length ≤ cp) (hin : InRow V a P)
    (hown : V4.ownsRow base 36 6 u' (fs.length + 1) (flatF fs ++ [.int .i64 v, .int .i64 k, .int .u32 s, .int .i64 j', .int .i64 (m : Int), .slice a P.length cp]))
    (hg : ((V.setCell ⟨Bh, 3, none⟩ (.int .i64 j')).alloc (.cells #[.int .i64 v, .int .i64 k, .int .u32 s, .int .i64 j', .int .i64 (m : Int), .slice a P.length cp] 36)).grownBy V4 u.ownBlock) :
    Boxed V4 Bl 57 u ∧ Fq Bh Bl base v k s zs r m w w4 (j + 1) (V4.setCell ⟨Bl, 0, none⟩ u') ∧ KeepsFrom s0 V (V4.setCell ⟨Bl, 0, none⟩ u') ∧ KpT V (V4.setCell ⟨Bl, 0, none⟩ u') := by
  subst hj hP
  have hlt := h2.lt
  have hBlt := h1.lt
  have hBht := (Array.getElem?_eq_some_iff.1 hh).1
  have hsz1 : (V.setCell ⟨Bh, 3, none⟩ (.int .i64 (j : Int))).heap.size = V.heap.size := by simp [World.setCell]
  have hsz := hg.size
  rw [World.size_alloc, hsz1] at hsz
  have hrowty : ∀ q, u.ownBlock = some q → ∃ cur, V.heap[q]? = some (.cells cur 36 (0, 0)) := fun q e => by
    rcases h2.2 with ⟨rfl, _⟩ | ⟨g, cap, cu, rfl, _, hh, _⟩
    · simp [Value.ownBlock] at e
    · simp only [Value.ownBlock, Option.some.injEq] at e
      subst e
      exact ⟨cu, hh⟩
  have hgq : ∀ q, q < V.heap.size → u.ownBlock ≠ some q → V4.heap[q]? = (V.setCell ⟨Bh, 3, none⟩ (.int .i64 (j : Int))).heap[q]? := fun q h6 h7 =>
    (hg.block q (by rw [World.size_alloc, hsz1]; omega) (fun e => h7 e.symm)).trans (Below.heap_alloc _ _ q (by rw [hsz1]; exact h6))
  have key : ∀ q, q < V.heap.size → q ≠ Bh → q ≠ Bl → u.ownBlock ≠ some q → (V4.setCell ⟨Bl, 0, none⟩ u').heap[q]? = V.heap[q]? := fun q h6 h7 h8 h9 =>
    (Below.heap_setCell V4 ⟨Bl, 0, none⟩ u' q h8).trans ((hgq q h6 h9).trans (Below.heap_setCell V ⟨Bh, 3, none⟩ _ q h7))
  have hnB : u.ownBlock ≠ some Bl := fun e => by
    obtain ⟨cur, hc⟩ := hrowty _ e
    rw [show V.heap[Bl]? = _ from h1] at hc
    injection hc with hc
    injection hc with _ ht
    exact absurd ht (by decide)
  have hnH : u.ownBlock ≠ some Bh := fun e => by
    obtain ⟨cur, hc⟩ := hrowty _ e
    rw [hh] at hc
    injection hc with hc
    injection hc with _ ht
    exact absurd ht (by decide)
  have b4 : Boxed V4 Bl 57 u := (hgq Bl hBlt hnB).trans ((Below.heap_setCell V ⟨Bh, 3, none⟩ _ Bl (fun e => hne e.symm)).trans h1)
  have hh4 : (V4.setCell ⟨Bl, 0, none⟩ u').heap[Bh]? = some (.cells #[.int .i64 v, .int .i64 k, .int .u32 s, .int .i64 (j : Int), .int .i64 (m : Int)] 33 (0, 0)) := by
    rw [Below.heap_setCell V4 ⟨Bl, 0, none⟩ u' Bh hne, hgq Bh hBht hnH, setCell_at hh]
    rfl
  have hK : KpT V (V4.setCell ⟨Bl, 0, none⟩ u') := ⟨by simp only [World.setCell, Array.size_modify]; omega, fun q cs t ht hq => (key q (Array.getElem?_eq_some_iff.1 hq).1 (fun e => by
      subst e
      rw [hh] at hq
      injection hq with hq
      injection hq with _ h6
      subst h6
      exact absurd ht (by decide)) (fun e => by
      subst e
      rw [show V.heap[q]? = _ from h1] at hq
      injection hq with hq
      injection hq with _ h6
      subst h6
      exact absurd ht (by decide)) (fun e => by
      obtain ⟨cur, hc⟩ := hrowty _ e
      rw [hc] at hq
      injection hq with hq
      injection hq with _ h6
      subst h6
      exact absurd ht (by decide))).trans hq⟩
  refine ⟨b4, ⟨⟨u', fs ++ [⟨v, k, s, (j : Int), (m : Int), a, cp, Ct.part zs r j⟩], b4.set u', ?_, by rw [List.length_append, h3]; rfl, ?_, fun f hf => ?_⟩, ⟨_, hh4⟩, hk.trans hK, ?_⟩, ⟨hK.size, fun q o _ ho hc => (key q (Array.getElem?_eq_some_iff.1 ho).1 (fun e => by
      subst e
      rw [hh] at ho
      injection ho with ho
      subst ho
      cases hc) (fun e => by
      subst e
      rw [show V.heap[q]? = _ from h1] at ho
      injection ho with ho
      subst ho
      cases hc) (fun e => by
      obtain ⟨cur, h6⟩ := hrowty _ e
      rw [h6] at ho
      injection ho with ho
      subst ho
      cases hc)).trans ho⟩, hK⟩
  · rw [List.length_append, List.length_singleton, flatF_push]
    have h6 : (V4.setCell ⟨Bl, 0, none⟩ u').ownsRow base 36 6 u' (fs.length + 1) (flatF fs ++ [.int .i64 v, .int .i64 k, .int .u32 s, .int .i64 (j : Int), .int .i64 (m : Int), .slice a (Ct.part zs r j).length cp]) :=
      ⟨hown.1, hown.2.imp id fun ⟨g, cap, cur, hv, hge, hh', r'⟩ => ⟨g, cap, cur, hv, hge, (Below.heap_setCell V4 ⟨Bl, 0, none⟩ u' g (fun e => by
        subst e
        rw [show V4.heap[g]? = _ from b4] at hh'
        injection hh' with hh'
        injection hh' with _ ht
        exact absurd ht (by decide))).trans hh', r'⟩⟩
    exact h6
  · have := h4.push a cp
    rw [h3] at this
    exact this
  · rcases List.mem_append.1 hf with hf | hf
    · exact ⟨(h5 f hf).1, (h5 f hf).2.keeps hK⟩
    · obtain rfl : f = ⟨v, k, s, (j : Int), (m : Int), a, cp, Ct.part zs r j⟩ := by simpa using hf
      exact ⟨hcp, hin.keeps hK⟩
  · have hbs := hb.size
    refine ⟨?_, ?_, ?_, by have := hK.size; omega, fun q hq => ?_⟩
    · exact hg.os.trans hb.os
    · exact hg.tape.trans hb.tape
    · exact hg.output.trans hb.output
    · exact (key q (by omega) (by omega) (by omega) (fun e => by have := (hlt q e).1; omega)).trans (hb.block q hq)
end
end Go.Proofs.Ytloncplpjdekoaa
