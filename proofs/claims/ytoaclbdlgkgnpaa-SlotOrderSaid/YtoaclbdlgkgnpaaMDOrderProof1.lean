/-
  SlotOrder: in whatever order a body's frames come, the slot is full behind the last new one, and has the body
-/
import Derived.Laws.MakeOwn
import Derived.Laws.OwnMore
import Derived.Test.YtoaclbdlgkgnpaaRows
import Derived.Maps.AppendAt
import Derived.WalkSpells
import Derived.RangeFuncBound
import Derived.RangeFuncCalls
import Derived.RangeFuncLeaves
import Derived.Shelf.Abstract
import Derived.Shelf.RegionOpen
import Derived.OwnWalkIn
import Derived.TacticsInMore
import Derived.LoopNIn
import Derived.LoopIn
import Derived.Below
import Derived.WalkKit
import Derived.ProofKit
import Derived.OpenShut
import Derived.ShutString
import Derived.ChangeOld
import Derived.Test.YtoaclbdlgkgnpaaMD3
namespace Go.Proofs.Ytoaclbdlgkgnpaa
open Go.RowKit
set_option maxRecDepth 100000

theorem nodup_sum (g : Nat → Nat) : ∀ (n : Nat) (l : List Nat), l.Nodup → (∀ x ∈ l, x < n) → (l.map g).sum ≤ ((List.range n).map g).sum
  | 0, l, _, h => by
    cases l with
    | nil => simp
    | cons x r => have := h x (by simp); omega
  | n + 1, l, hn, h => by
    have h1 := nodup_sum g n (l.erase n) (hn.erase n) fun x hx => by
      have h2 := (List.Nodup.mem_erase_iff hn).1 hx
      have := h x h2.2
      have := h2.1
      omega
    rw [List.range_succ, List.map_append, List.sum_append]
    simp only [List.map_cons, List.map_nil, List.sum_cons, List.sum_nil]
    by_cases hm : n ∈ l
    · have h2 := ((List.perm_cons_erase hm).map g).sum_nat
      rw [List.map_cons, List.sum_cons] at h2
      omega
    · rw [List.erase_of_not_mem hm] at h1
      omega
theorem lack_of : ∀ (n : Nat) (l : List Nat), l.length < n → ∃ j, j < n ∧ j ∉ l
  | 0, _, h => by omega
  | n + 1, l, h => by
    by_cases hm : n ∈ l
    · have h1 := List.length_erase_of_mem hm
      have h0 := List.length_pos_of_mem hm
      obtain ⟨j, hj, hx⟩ := lack_of n (l.erase n) (by omega)
      exact ⟨j, by omega, fun hl => hx ((List.mem_erase_of_ne (by omega)).2 hl)⟩
    · exact ⟨n, by omega, hm⟩
/-- the payload of a frame -/
def pz (fs : List Fr) (j : Nat) : List Int := ((fs[j]?).map Fr.zs).getD []
theorem pz_at {fs : List Fr} {j : Nat} {f : Fr} (h : fs[j]? = some f) : pz fs j = f.zs := by simp [pz, h]
theorem pz_flat (fs : List Fr) : ∀ n, n ≤ fs.length → (List.range n).flatMap (pz fs) = Ct.flat (fs.take n)
  | 0, _ => by simp [Ct.flat]
  | n + 1, hn => by
    obtain ⟨f, hf⟩ : ∃ f, fs[n]? = some f := ⟨_, List.getElem?_eq_getElem (by omega)⟩
    rw [List.range_succ, List.flatMap_append, pz_flat fs n (by omega), Ct.flat_take hf]
    simp [pz_at hf]
theorem pz_sum (fs : List Fr) : ∀ n, n ≤ fs.length → ((List.range n).map fun j => (pz fs j).length).sum = (Ct.flat (fs.take n)).length
  | 0, _ => by simp [Ct.flat]
  | n + 1, hn => by
    obtain ⟨f, hf⟩ : ∃ f, fs[n]? = some f := ⟨_, List.getElem?_eq_getElem (by omega)⟩
    rw [List.range_succ, List.map_append, List.sum_append, pz_sum fs n (by omega), Ct.flat_take hf, List.length_append]
    simp [pz_at hf]
/-- what has come, of the frames whose places are told -/
def cts (fs : List Fr) (ks : List Nat) : Sl.Ct := ks.map fun j => (j, pz fs j)
section
variable {fs : List Fr} {ks : List Nat}
theorem cts_keys : (cts fs ks).map Prod.fst = ks := by
  unfold cts
  rw [List.map_map]
  exact List.map_id' ks
theorem cts_has (j : Nat) : Sl.has (cts fs ks) j = true ↔ j ∈ ks := by rw [Sl.has_iff, cts_keys]
theorem cts_tot : Sl.tot (cts fs ks) = (ks.map fun j => (pz fs j).length).sum := by
  unfold Sl.tot cts
  rw [List.map_map]
  rfl
theorem cts_at (hn : ks.Nodup) {j : Nat} (hj : j ∈ ks) : Sl.at' (cts fs ks) j = pz fs j := Sl.at_mem (by unfold Sl.Keys; rw [cts_keys]; exact hn) (List.mem_map.2 ⟨j, hj, rfl⟩)
theorem cts_cat (hn : ks.Nodup) (hl : ∀ j ∈ ks, j < fs.length) (hf : ks.length = fs.length) : Sl.cat (cts fs ks) fs.length = Ct.flat fs := by
  have h := pz_flat fs fs.length (Nat.le_refl _)
  rw [List.take_length] at h
  rw [← h]
  unfold Sl.cat
  rw [List.flatMap_def, List.flatMap_def]
  congr 1
  apply List.map_congr_left
  intro j hj
  exact cts_at hn (nodup_all hn hl hf (List.mem_range.1 hj))
end
/-- what a slot tells of a frame of its body -/
theorem order_err {v k s : Int} {zs : List Int} {r : Nat} {fs : List Fr} (hc : Ct.Cut v k s zs r fs) (hr : 1 ≤ r) (hz : zs.length ≤ 192) {ks : List Nat} (hn : ks.Nodup) (hl : ∀ j ∈ ks, j < fs.length) {j : Nat} {f : Fr} (hf : fs[j]? = some f) :
    sErr v k s (fs.length : Int) f.v f.k f.s f.i f.c (cts fs ks) f.zs = if j ∈ ks then 16 else 0 := by
  obtain ⟨e1, e2, e3, e4, e5, e6⟩ := hc.at' j f hf
  have hj := (List.getElem?_eq_some_iff.1 hf).1
  have hlen := hc.len
  have hpos : 0 < f.zs.length := by
    rw [e6, Ct.part_len]
    have := (Ct.lt_cnt (n := zs.length) (j := j) hr).1 (by omega)
    omega
  unfold sErr
  rw [if_neg (by simp [mateZ, e1, e2, e3, e5, hlen]), if_neg (by omega), if_neg (by omega), show f.i.toNat = j by omega]
  by_cases hm : j ∈ ks
  · rw [if_pos ((cts_has j).2 hm), if_pos hm]
  · rw [if_neg (fun h => hm ((cts_has j).1 h)), if_neg hm, if_neg]
    have h1 := nodup_sum (fun j => (pz fs j).length) fs.length (j :: ks) (List.nodup_cons.2 ⟨hm, hn⟩) (fun x hx => by
      rcases List.mem_cons.1 hx with rfl | hx
      · exact hj
      · exact hl x hx)
    rw [pz_sum fs _ (Nat.le_refl _), List.take_length, hc.flat_eq hr, List.map_cons, List.sum_cons, pz_at hf] at h1
    rw [cts_tot]
    omega

/-- bools that lie in block g, whole -/
def RowB (W : World) (g : Nat) (S : List Bool) : Prop := ∃ cs, W.heap[g]? = some (.cells cs 4 (0, 0)) ∧ ∀ (j : Nat) (c : Bool), S[j]? = some c → cs[j]? = some (.bool c)
section
variable {W W' : World} {g : Nat} {S : List Bool}
theorem RowB.lt (h : RowB W g S) : g < W.heap.size := by
  obtain ⟨cs, hh, _⟩ := h
  exact (Array.getElem?_eq_some_iff.1 hh).1
theorem RowB.cell (h : RowB W g S) {j : Nat} {c : Bool} (hj : S[j]? = some c) : W.cell? ⟨g, j, none⟩ = some (.bool c) := by
  obtain ⟨cs, hh, hc⟩ := h
  simp only [World.cell?, hh]
  exact hc j c hj
theorem RowB.frozen (h : RowB W g S) (j : Nat) : W.frozen? ⟨g, j, none⟩ = false := by
  obtain ⟨cs, hh, hc⟩ := h
  simp [World.frozen?, hh]
theorem RowB.off {T : Nat → Prop} (h : RowB W g S) (ho : Off T W W') (hg : ¬ T g) : RowB W' g S := by
  obtain ⟨cs, hh, hc⟩ := h
  exact ⟨cs, (ho.block g (Array.getElem?_eq_some_iff.1 hh).1 hg).trans hh, hc⟩
theorem RowB.below (h : RowB W g S) (hb : Below W.heap.size W W') : RowB W' g S := h.off (Off.of_below (S := fun _ => False) hb) fun h => h
theorem RowB.set (h : RowB W g S) (j : Nat) (c : Bool) : RowB (W.setCell ⟨g, j, none⟩ (.bool c)) g (S.set j c) := by
  obtain ⟨cs, hh, hc⟩ := h
  refine ⟨_, setCell_at hh, fun i x hi => ?_⟩
  rw [Array.getElem?_setIfInBounds]
  rw [List.getElem?_set] at hi
  by_cases hji : j = i
  · subst hji
    rw [if_pos rfl] at hi ⊢
    split at hi
    · rename_i hlt
      injection hi with hi
      subst hi
      have h2 := hc j S[j] (List.getElem?_eq_getElem hlt)
      rw [if_pos (Array.getElem?_eq_some_iff.1 h2).1]
    · simp at hi
  · rw [if_neg hji] at hi ⊢
    exact hc i x hi
end
theorem boolInfo13 : (Try.prog.info? 4).map (fun i => (i.zero, i.size, i.bytes)) = some (some (.bool false), 1, 1) := by kernel_rfl
theorem make_come (n : Nat) (hn : n ≤ 1000000) : ∀ W, (Instr.makeSlice 54 (.int .i64 (n : Int)) (.int .i64 (n : Int))).run Try.prog W = .ok (.slice (some ⟨W.heap.size, 0, none⟩) n n) (W.alloc (.cells (madeCells #[Value.bool false] n) 4)) := fun W => by
  obtain ⟨i0, hi, hz0, hz1, hz2⟩ := info_parts boolInfo13
  have h := run_make (P := Try.prog) W 54 4 i0 (.bool false) Try.underlying54 hi hz0 .i64 .i64 (n : Int) (n : Int) (by omega) (by omega) (by rw [hz2]; omega) (by omega)
  rw [hz1, show (Value.bool false).cells = #[Value.bool false] from rfl] at h
  simpa using h
theorem come_row (W : World) (n : Nat) : RowB (W.alloc (.cells (madeCells #[Value.bool false] n) 4)) W.heap.size (List.replicate n false) := by
  refine ⟨_, World.alloc_heap_new _ _, fun j c hj => ?_⟩
  rw [← Array.getElem?_toList, toList_madeCells_one]
  rw [List.getElem?_replicate] at hj ⊢
  split at hj
  · rename_i h
    injection hj with hj
    subst hj
    rw [if_pos h]
  · simp at hj

/-- S tells which have come -/
def Come (ks : List Nat) (S : List Bool) : Prop := ∀ j, S[j]? = some true ↔ j ∈ ks
theorem Come.start (n : Nat) : Come [] (List.replicate n false) := fun j => by
  rw [List.getElem?_replicate]
  split <;> simp
theorem Come.at' {ks : List Nat} {S : List Bool} (h : Come ks S) {j : Nat} (hj : j < S.length) : S[j]? = some (decide (j ∈ ks)) := by
  obtain ⟨c, hc⟩ : ∃ c, S[j]? = some c := ⟨_, List.getElem?_eq_getElem hj⟩
  rw [hc]
  have h1 := h j
  rw [hc] at h1
  by_cases hm : j ∈ ks
  · rw [h1.2 hm, decide_eq_true hm]
  · rw [decide_eq_false hm]
    cases c with
    | false => rfl
    | true => exact absurd (h1.1 rfl) hm
theorem Come.push {ks : List Nat} {S : List Bool} (h : Come ks S) {j : Nat} (hj : j < S.length) : Come (ks ++ [j]) (S.set j true) := fun i => by
  rw [List.getElem?_set, List.mem_append, List.mem_singleton]
  by_cases hi : j = i
  · subst hi
    rw [if_pos rfl, if_pos hj]
    simp
  · rw [if_neg hi, h i]
    exact ⟨.inl, fun h => h.elim id fun e => absurd e.symm hi⟩
/-- where the law's loop is: ks: the frames that came, in their order; S: what the row of bools has -/
structure OO (W w1 : World) (b m gc : Nat) (v k s : Int) (fs : List Fr) (ks : List Nat) (S : List Bool) : Prop where
  slot : ∃ E, SlotAt W b m v k s (fs.length : Int) E ∧ E.map Pl.ct = cts fs ks
  nd : ks.Nodup
  lt : ∀ j ∈ ks, j < fs.length
  len : S.length = fs.length
  row : RowB W gc S
  ge : w1.heap.size ≤ b ∧ w1.heap.size ≤ m ∧ w1.heap.size ≤ gc
  below : Below w1.heap.size w1 W
section
variable {W W' w1 : World} {b m gc : Nat} {v k s : Int} {fs : List Fr} {ks : List Nat} {S : List Bool}
theorem OO.later (h : OO W w1 b m gc v k s fs ks S) (hb : Below W.heap.size W W') : OO W' w1 b m gc v k s fs ks S := by
  obtain ⟨E, h1, h2⟩ := h.slot
  exact ⟨⟨E, h1.below hb, h2⟩, h.nd, h.lt, h.len, h.row.below hb, h.ge, h.below.trans (hb.mono h.below.size)⟩
theorem OO.few (h : OO W w1 b m gc v k s fs ks S) : ks.length ≤ fs.length := nodup_few _ _ h.nd h.lt
theorem OO.set (h : OO W w1 b m gc v k s fs ks S) (j : Nat) : OO (W.setCell ⟨gc, j, none⟩ (.bool true)) w1 b m gc v k s fs ks (S.set j true) := by
  obtain ⟨E, h1, h2⟩ := h.slot
  obtain ⟨cs, hh, _⟩ := h.row
  have ho : Off (fun q => q = gc) W (W.setCell ⟨gc, j, none⟩ (.bool true)) := (Off.refl (fun q => q = gc) W).setCell rfl _
  refine ⟨⟨E, h1.off ho (fun e => ?_) (fun e => h1.map.not_cells _ _ _ (by rw [e]; exact hh)) (fun q cs' hq e => ?_), h2⟩, h.nd, h.lt, by rw [List.length_set]; exact h.len, h.row.set j true, h.ge, h.below.trans (ho.below (fun q hq => by subst hq; exact h.ge.2.2) h.below.size)⟩
  · have h3 := h1.row
    rw [e, hh] at h3
    injection h3 with h3
    injection h3 with h3 h4 h5
    exact absurd h4 (by decide)
  · subst e
    rw [hh] at hq
    injection hq with hq
    injection hq with h3 h4 h5
    exact absurd h4 (by decide)
theorem OO.put_any {zs : List Int} {r : Nat} (h : OO W w1 b m gc v k s fs ks S) (hc : Ct.Cut v k s zs r fs) (hr : 1 ≤ r) (hz : zs.length ≤ 192) {j : Nat} {f : Fr} (hf : fs[j]? = some f) (ha : f.At W W.heap.size) :
    Calls Try.prog 14 #[.pointer (some ⟨b, 0, none⟩), frV f.v f.k f.s f.i f.c (.slice f.a f.zs.length f.cp)] W fun e W' => e = .returned (.int .i64 (if j ∈ ks then 16 else 0)) ∧ OO W' w1 b m gc v k s fs (if j ∈ ks then ks else ks ++ [j]) S := by
  obtain ⟨E, h1, h2⟩ := h.slot
  have hj := (List.getElem?_eq_some_iff.1 hf).1
  have K := sput_any h1 f.v f.k f.s f.i f.c f.a f.zs.length f.cp f.zs rfl ha.byte ha.nums
  rw [h2, order_err hc hr hz h.nd h.lt hf] at K
  have hi : f.i.toNat = j := by have := (hc.at' j f hf).2.2.2.1; omega
  refine K.mono fun e W' ⟨he, ho, hor⟩ => ⟨he, ?_⟩
  have hgm : ¬ gc = m := fun e => by
    obtain ⟨cs, hh, _⟩ := h.row
    exact h1.map.not_cells _ _ _ (by rw [← e]; exact hh)
  have hb := h.below.trans (ho.below (fun q hq => by subst hq; exact h.ge.2.1) h.below.size)
  by_cases hm : j ∈ ks
  · rw [if_pos hm] at hor ⊢
    rcases hor with ⟨_, hs⟩ | ⟨h0, _⟩
    · exact ⟨⟨E, hs, h2⟩, h.nd, h.lt, h.len, h.row.off ho hgm, h.ge, hb⟩
    · omega
  · rw [if_neg hm] at hor ⊢
    rcases hor with ⟨h0, _⟩ | ⟨_, p, hp, hpz, hs⟩
    · exact absurd rfl h0
    · refine ⟨⟨_, hs, ?_⟩, ?_, ?_, h.len, h.row.off ho hgm, h.ge, hb⟩
      · rw [List.map_append, h2]
        unfold cts
        rw [List.map_append]
        simp [Pl.ct, hp, hpz, hi, pz_at hf]
      · rw [List.nodup_append]
        exact ⟨h.nd, by simp, fun a ha b hb e => hm (by rw [← List.mem_singleton.1 hb, ← e]; exact ha)⟩
      · intro x hx
        rcases List.mem_append.1 hx with hx | hx
        · exact h.lt x hx
        · rw [List.mem_singleton.1 hx]; exact hj
theorem OO.slot_len {E : List Pl} (h : E.map Pl.ct = cts fs ks) : E.length = ks.length := by
  have := congrArg List.length h
  simpa [cts] using this
theorem OO.full_any (h : OO W w1 b m gc v k s fs ks S) : Calls Try.prog 17 #[.pointer (some ⟨b, 0, none⟩)] W fun e W' => e = .returned (.bool ((ks.length : Int) == (fs.length : Int))) ∧ OO W' w1 b m gc v k s fs ks S := by
  obtain ⟨E, h1, h2⟩ := h.slot
  refine (sfull_any h1).mono fun e W' ⟨he, d, hd⟩ => ⟨?_, ?_⟩
  · rw [he, OO.slot_len h2]
  · rw [hd]
    exact h.later (below_drewN (Below.refl _ _) d)
theorem OO.have_any (h : OO W w1 b m gc v k s fs ks S) : Calls Try.prog 18 #[.pointer (some ⟨b, 0, none⟩)] W fun e W' => e = .returned (.int .i64 (ks.length : Int)) ∧ W' = W := by
  obtain ⟨E, h1, h2⟩ := h.slot
  refine (shave_any h1).mono fun e W' ⟨he, hd⟩ => ⟨?_, hd⟩
  rw [he, OO.slot_len h2]
theorem OO.bytes_any {zs : List Int} {r : Nat} (h : OO W w1 b m gc v k s fs ks S) (hc : Ct.Cut v k s zs r fs) (hr : 1 ≤ r) (hf : ks.length = fs.length) : Calls Try.prog 19 #[.pointer (some ⟨b, 0, none⟩)] W fun e W' => Below W.heap.size W W' ∧ ∃ A cp, e = .returned (.tuple #[.slice A zs.length cp, .bool true]) ∧ zs.length ≤ cp ∧ Nums .u8 W' W'.heap.size A zs := by
  obtain ⟨E, h1, h2⟩ := h.slot
  have hl := OO.slot_len h2
  have e1 : Sl.cat (E.map Pl.ct) E.length = zs := by rw [h2, hl, hf, cts_cat h.nd h.lt hf, hc.flat_eq hr]
  refine (sbytes_any h1).mono fun e W' ⟨hb, hor⟩ => ⟨hb, ?_⟩
  rw [e1] at hor
  rcases hor with ⟨h0, _⟩ | ⟨_, A, cp, he, hcp, hn⟩
  · omega
  · exact ⟨A, cp, he, hcp, hn⟩
end
end Go.Proofs.Ytoaclbdlgkgnpaa

namespace Go.Proofs.Ytoaclbdlgkgnpaa
open Go.RowKit
set_option maxRecDepth 100000
theorem intInfo : (Try.prog.info? 3).map (fun i => (i.zero, i.size, i.bytes)) = some (some (.int .i64 0), 1, 8) := by kernel_rfl
end Go.Proofs.Ytoaclbdlgkgnpaa

namespace Go.Proofs.Ytoaclbdlgkgnpaa
open Go.RowKit Go.Shelf
set_option maxRecDepth 100000

/-- the cells of frames, one behind the other -/
def flatF (fs : List Fr) : List Value := fs.flatMap fun f => f.cs.toList
theorem flatF_len (fs : List Fr) : (flatF fs).length = fs.length * 6 := by
  induction fs with
  | nil => rfl
  | cons f r ih => unfold flatF at *; rw [List.flatMap_cons, List.length_append, ih, List.length_cons]; have : f.cs.toList.length = 6 := rfl; omega
theorem flatF_push (fs : List Fr) (f : Fr) : flatF (fs ++ [f]) = flatF fs ++ f.cs.toList := by unfold flatF; simp
theorem flatF_at : ∀ {fs : List Fr} {j q : Nat} {f : Fr} {u : Value}, fs[j]? = some f → f.cs[q]? = some u → (flatF fs)[j * 6 + q]? = some u
  | [], _, _, _, _, h, _ => by simp at h
  | g :: r, 0, q, f, u, h, hq => by
    simp only [List.getElem?_cons_zero, Option.some.injEq] at h
    subst h
    have hlt : q < 6 := (Array.getElem?_eq_some_iff.1 hq).1
    unfold flatF
    rw [List.flatMap_cons, List.getElem?_append_left (by show 0 * 6 + q < 6; omega), Nat.zero_mul, Nat.zero_add, Array.getElem?_toList]
    exact hq
  | g :: r, j + 1, q, f, u, h, hq => by
    have ih := flatF_at (fs := r) (j := j) (q := q) (f := f) (u := u) (by simpa using h) hq
    unfold flatF at *
    have h6 : g.cs.toList.length = 6 := rfl
    rw [List.flatMap_cons, List.getElem?_append_right (by rw [h6]; omega), h6, show (j + 1) * 6 + q - 6 = j * 6 + q by omega]
    exact ih
/-- two rows of unlike types lie apart -/
theorem own_apart {W : World} {base e e2 size size2 n m : Nat} {v u : Value} {xs ys : List Value} (h : W.ownsRow base e size v n xs) (h2 : W.ownsRow base e2 size2 u m ys) (hne : e ≠ e2) : v.ownBlock = none ∨ v.ownBlock ≠ u.ownBlock := by
  rcases h.2 with ⟨rfl, _⟩ | ⟨g, cap, cur, rfl, _, hh, _⟩
  · exact .inl rfl
  · right
    rcases h2.2 with ⟨rfl, _⟩ | ⟨g2, cap2, cur2, rfl, _, hh2, _⟩
    · simp [Value.ownBlock]
    · intro e3
      simp only [Value.ownBlock, Option.some.injEq] at e3
      subst e3
      rw [hh] at hh2
      injection hh2 with hh2
      injection hh2 with _ ht
      exact hne ht
theorem own_below6 {W W' : World} {base e size n : Nat} {v : Value} {xs : List Value} (h : W.ownsRow base e size v n xs) (hb : Below W.heap.size W W') : W'.ownsRow base e size v n xs := by
  refine ⟨h.1, ?_⟩
  rcases h.2 with h | ⟨g, cap, cur, hv, hg, hh, r⟩
  · exact .inl h
  · exact .inr ⟨g, cap, cur, hv, hg, (hb.block g (Array.getElem?_eq_some_iff.1 hh).1).trans hh, r⟩
/-- frames that lie there, their payloads with them -/
def FrsIn (w : World) (B : Nat) (A : Option Addr) (fs : List Fr) : Prop :=
  ∀ (j : Nat) (f : Fr), fs[j]? = some f → ∃ b, A = some ⟨b, 0, none⟩ ∧ b < B ∧ (∀ (q : Nat) (u : Value), f.cs[q]? = some u → w.cell? ⟨b, j * 6 + q, none⟩ = some u) ∧ f.zs.length ≤ f.cp ∧ Nums .u8 w B f.a f.zs
theorem FrsIn.below {w w' : World} {B : Nat} {A : Option Addr} {fs : List Fr} (h : FrsIn w B A fs) (hb : Below B w w') : FrsIn w' B A fs := fun j f hj => by
  obtain ⟨b, e, hB, hc, hl, hn⟩ := h j f hj
  exact ⟨b, e, hB, fun q u hq => (hb.cell (p := ⟨b, j * 6 + q, none⟩) hB).trans (hc q u hq), hl, hn.below hb⟩
theorem FrsIn.mono {w : World} {B B' : Nat} {A : Option Addr} {fs : List Fr} (h : FrsIn w B A fs) (hB : B ≤ B') : FrsIn w B' A fs := fun j f hj => by
  obtain ⟨b, e, hb, hc, hl, hn⟩ := h j f hj
  exact ⟨b, e, by omega, hc, hl, hn.mono hB⟩

/-- a row of frames, a row of numbers; the payloads in neither -/
structure FL (tf ti : TypeId) (base : Nat) (W : World) (v u : Value) (fs : List Fr) (es : List Int) : Prop where
  out : W.ownsRow base tf 6 v fs.length (flatF fs)
  err : W.ownsRow base ti 1 u es.length (es.map (Value.int .i64))
  pay : ∀ f ∈ fs, f.zs.length ≤ f.cp ∧ NumsS .u8 W (fun b => b < W.heap.size ∧ v.ownBlock ≠ some b ∧ u.ownBlock ≠ some b) f.a f.zs
section
variable {tf ti : TypeId} {base : Nat} {W W3 W4 W6 : World} {v v' u u' : Value} {fs : List Fr} {es : List Int}
theorem FL.start (tf ti : TypeId) (base : Nat) (W : World) : FL tf ti base W (.slice none 0 0) (.slice none 0 0) [] [] := ⟨World.ownsRow_nil _ _ _ _, World.ownsRow_nil _ _ _ _, fun f hf => by cases hf⟩
theorem FL.below {W' : World} (h : FL tf ti base W v u fs es) (hb : Below W.heap.size W W') : FL tf ti base W' v u fs es :=
  ⟨own_below6 h.out hb, own_below6 h.err hb, fun f hf => ⟨(h.pay f hf).1, ((h.pay f hf).2.keeps (KeepS.of_below hb fun _ hk => hk.1)).more fun _ hk => ⟨Nat.lt_of_lt_of_le hk.1 hb.size, hk.2⟩⟩⟩
theorem FL.err4 (h : FL tf ti base W v u fs es) (hne : tf ≠ ti) (hg : W.grownBy W4 v.ownBlock) : W4.ownsRow base ti 1 u es.length (es.map (Value.int .i64)) := h.err.kept hg (own_apart h.err h.out (Ne.symm hne))
/-- a frame and a number more -/
theorem FL.push {f : Fr} {e : Int} {o : Obj} (h : FL tf ti base W v u fs es) (hne : tf ≠ ti) (hb : Below W.heap.size W W3) (hf : f.zs.length ≤ f.cp) (hn : NumsS .u8 W3 (fun b => W.heap.size ≤ b ∧ b < W3.heap.size) f.a f.zs)
    (hown : W4.ownsRow base tf 6 v' (fs.length + 1) (flatF fs ++ f.cs.toList)) (hg : W3.grownBy W4 v.ownBlock) (hat : v'.ownBlock = v.ownBlock ∨ v'.ownBlock = some W3.heap.size)
    (hown2 : W6.ownsRow base ti 1 u' (es.length + 1) (es.map (Value.int .i64) ++ [.int .i64 e])) (hg2 : (W4.alloc o).grownBy W6 u.ownBlock) (hat2 : u'.ownBlock = u.ownBlock ∨ u'.ownBlock = some (W4.alloc o).heap.size) :
    FL tf ti base W6 v' u' (fs ++ [f]) (es ++ [e]) := by
  have hs3 := hb.size
  have hs4 := hg.size
  have hs6 := hg2.size
  rw [World.size_alloc] at hs6 hat2
  have he4 := (h.below hb).err4 hne hg
  -- what lies below W3's end, in neither row
  have key : ∀ a zs, NumsS .u8 W3 (fun b => b < W3.heap.size ∧ v.ownBlock ≠ some b ∧ u.ownBlock ≠ some b) a zs → NumsS .u8 W6 (fun b => b < W6.heap.size ∧ v'.ownBlock ≠ some b ∧ u'.ownBlock ≠ some b) a zs := fun a zs hz => by
    have h4 : KeepS (fun b => b < W3.heap.size ∧ v.ownBlock ≠ some b ∧ u.ownBlock ≠ some b) W3 W6 :=
      ⟨by omega, fun k hk => (hg2.block k (by rw [World.size_alloc]; omega) (fun e => hk.2.2 e.symm)).trans ((Below.heap_alloc W4 o k (by omega)).trans (hg.block k hk.1 (fun e => hk.2.1 e.symm)))⟩
    refine (hz.keeps h4).more fun k hk => ⟨by omega, fun e3 => ?_, fun e3 => ?_⟩
    · rcases hat with h5 | h5
      · exact hk.2.1 (h5.symm.trans e3)
      · rw [h5] at e3; injection e3 with e3; omega
    · rcases hat2 with h5 | h5
      · exact hk.2.2 (h5.symm.trans e3)
      · rw [h5] at e3; injection e3 with e3; omega
  refine ⟨?_, ?_, fun g hg' => ?_⟩
  · rw [flatF_push, List.length_append, List.length_singleton]
    refine (hown.alloc o).kept hg2 ?_
    rcases own_apart hown he4 hne with h5 | h5
    · exact .inl h5
    · exact .inr h5
  · rw [List.length_append, List.length_singleton, List.map_append]
    exact hown2
  · rcases List.mem_append.1 hg' with hg' | hg'
    · have h5 := (h.below hb).pay g hg'
      exact ⟨h5.1, key _ _ h5.2⟩
    · obtain rfl : g = f := by simpa using hg'
      refine ⟨hf, key _ _ (hn.more fun k hk => ⟨hk.2, fun e => ?_, fun e => ?_⟩)⟩
      · have := (h.out.lt k e).2; omega
      · have := (h.err.lt k e).2; omega
theorem FL.lies (h : FL tf ti base W v u fs es) : ∃ A c, v = .slice A fs.length c ∧ fs.length ≤ c ∧ FrsIn W W.heap.size A fs := by
  rcases h.out.2 with ⟨rfl, h0⟩ | ⟨g, cap, cur, rfl, hbg, hh, hle, _⟩
  · rw [List.eq_nil_of_length_eq_zero h0]
    exact ⟨none, 0, rfl, Nat.le_refl _, fun i f hi => by simp at hi⟩
  · refine ⟨_, cap, rfl, hle, fun j f hj => ⟨g, rfl, (Array.getElem?_eq_some_iff.1 hh).1, fun q u hq => ?_, (h.pay f (List.mem_of_getElem? hj)).1, (h.pay f (List.mem_of_getElem? hj)).2.nums fun _ hk => hk.1⟩⟩
    have h1 := h.out.cells (g := g) rfl (j * 6 + q) u (flatF_at hj hq)
    rw [Addr.add_lit, Nat.zero_add] at h1
    exact h1
end
end Go.Proofs.Ytoaclbdlgkgnpaa

namespace Go.Proofs.Ytoaclbdlgkgnpaa
open Go.RowKit Go.Shelf
set_option maxRecDepth 100000

structure TwoF (w2 : World) (bs : Nat) (tf tr tb : TypeId) (g1 g2 : List Fr) (W : World) (u v : Value) : Prop where
  off : Off (fun b => b = bs) w2 W
  box : Boxed W bs tb u
  one : W.ownsRow w2.heap.size tf 6 u g1.length (flatF g1)
  two : W.ownsRow w2.heap.size tr 6 v g2.length (flatF g2)
theorem own_of_block {W W' : World} {base e size n : Nat} {v : Value} {xs : List Value} (h : W.ownsRow base e size v n xs) (hk : ∀ g, base ≤ g → W'.heap[g]? = W.heap[g]?) : W'.ownsRow base e size v n xs :=
  ⟨h.1, h.2.imp id fun ⟨g, cap, cur, hv, hg, hh, r⟩ => ⟨g, cap, cur, hv, hg, (hk g hg).trans hh, r⟩⟩
section
variable {w2 W W' W4 : World} {bs : Nat} {tf tr tb : TypeId} {g1 g2 : List Fr} {u v u' v' : Value} {f : Fr}
theorem TwoF.below (h : TwoF w2 bs tf tr tb g1 g2 W u v) (hb : Below W.heap.size W W') : TwoF w2 bs tf tr tb g1 g2 W' u v :=
  ⟨(h.off.trans (Off.of_below hb : Off (fun b => b = bs) W W') (fun _ _ hS => hS)), (hb.block _ h.box.lt).trans h.box, own_below6 h.one hb, own_below6 h.two hb⟩
theorem TwoF.push1 (h : TwoF w2 bs tf tr tb g1 g2 W u v) (hne : tf ≠ tr) (hbs : bs < w2.heap.size) (hown : W4.ownsRow w2.heap.size tf 6 u' (g1.length + 1) (flatF g1 ++ f.cs.toList)) (hg : W.grownBy W4 u.ownBlock) :
    TwoF w2 bs tf tr tb (g1 ++ [f]) g2 (W4.setCell ⟨bs, 0, none⟩ u') u' v := by
  have hlo : ∀ g, u.ownBlock = some g → w2.heap.size ≤ g := fun g hk => (h.one.lt g hk).1
  have ho : Off (fun b => b = bs) w2 W4 := ⟨hg.os.trans h.off.os, hg.tape.trans h.off.tape, hg.output.trans h.off.output, Nat.le_trans h.off.size hg.size, fun k hk hn => by
    rw [hg.block k (by have := h.off.size; omega) (fun e => by have := hlo k e.symm; omega)]
    exact h.off.block k hk hn⟩
  have hb4 : Boxed W4 bs tb u := h.box.kept hg (fun e => by have := hlo bs e.symm; omega)
  have hset : ∀ g, w2.heap.size ≤ g → (W4.setCell ⟨bs, 0, none⟩ u').heap[g]? = W4.heap[g]? := fun g hg' => Below.heap_setCell W4 ⟨bs, 0, none⟩ _ _ (by simp only; omega)
  refine ⟨ho.setCell (p := ⟨bs, 0, none⟩) rfl _, hb4.set _, ?_, ?_⟩
  · rw [List.length_append, List.length_singleton, flatF_push]
    exact own_of_block hown hset
  · exact own_of_block (h.two.kept hg (own_apart h.two h.one (Ne.symm hne))) hset
theorem TwoF.push2 (h : TwoF w2 bs tf tr tb g1 g2 W u v) (hne : tf ≠ tr) (hbs : bs < w2.heap.size) (hown : W4.ownsRow w2.heap.size tr 6 v' (g2.length + 1) (flatF g2 ++ f.cs.toList)) (hg : W.grownBy W4 v.ownBlock) :
    TwoF w2 bs tf tr tb g1 (g2 ++ [f]) W4 u v' := by
  have hlo : ∀ g, v.ownBlock = some g → w2.heap.size ≤ g := fun g hk => (h.two.lt g hk).1
  refine ⟨⟨hg.os.trans h.off.os, hg.tape.trans h.off.tape, hg.output.trans h.off.output, Nat.le_trans h.off.size hg.size, fun k hk hn => ?_⟩, h.box.kept hg (fun e => by have := hlo bs e.symm; omega), h.one.kept hg (own_apart h.one h.two hne), ?_⟩
  · rw [hg.block k (by have := h.off.size; omega) (fun e => by have := hlo k e.symm; omega)]
    exact h.off.block k hk hn
  · rw [List.length_append, List.length_singleton, flatF_push]
    exact hown
theorem own_frs {base e : Nat} (h : W.ownsRow base e 6 u g1.length (flatF g1)) (hat : ∀ f ∈ g1, f.At W W.heap.size) : ∃ A c, u = .slice A g1.length c ∧ g1.length ≤ c ∧ FrsAt W W.heap.size A g1 := by
  rcases h.2 with ⟨rfl, h0⟩ | ⟨g, cap, cur, rfl, hbg, hh, hle, _⟩
  · rw [List.eq_nil_of_length_eq_zero h0]
    exact ⟨none, 0, rfl, Nat.le_refl _, fun f hf => by simp at hf, fun i f hi => by simp at hi⟩
  · refine ⟨_, cap, rfl, hle, hat, fun j f hj => ⟨g, 0, rfl, (Array.getElem?_eq_some_iff.1 hh).1, fun q x hq => ?_⟩⟩
    have h1 := h.cells (g := g) rfl (j * 6 + q) x (flatF_at hj hq)
    rw [Addr.add_lit] at h1
    rw [Nat.add_assoc]
    exact h1
end
theorem firstBad_push : ∀ (gs : List Fr) (f : Fr), firstBad (gs ++ [f]) = if firstBad gs = 0 then f.chk else firstBad gs
  | [], f => by by_cases h : f.chk = 0 <;> simp [firstBad, h]
  | g :: r, f => by
    rw [List.cons_append, firstBad, firstBad, firstBad_push r f]
    by_cases h : g.chk = 0 <;> simp [h]
/-- a frame, cut -/
def Fr.cut (f : Fr) : Fr := ⟨f.v, f.k, f.s, f.i, f.c, f.a, f.cp, f.zs.take 250⟩
theorem Fr.cut_at {w : World} {B : Nat} {f : Fr} (h : f.At w B) : f.cut.At w B :=
  ⟨h.s0, h.s1, by unfold Fr.cut; simp only [List.length_take]; have := h.room; omega, by unfold Fr.cut; simp only [List.length_take]; have := h.few; omega, h.byte.take 250, h.nums.take 250⟩
end Go.Proofs.Ytoaclbdlgkgnpaa

namespace Go.Proofs.Ytoaclbdlgkgnpaa
open Go.RowKit Go.Shelf
set_option maxRecDepth 100000

/-- what Frames leaves -/
def FramesR (w : World) (v k s : Int) (zs : List Int) (room : Int) (e : Ending) (w' : World) : Prop :=
  Below w.heap.size w w' ∧ ((Ct.fErr v k zs.length room ≠ 0 ∧ e = .returned (.tuple #[.slice none 0 0, .int .i64 (Ct.fErr v k zs.length room)])) ∨
    (Ct.fErr v k zs.length room = 0 ∧ ∃ A c fs, e = .returned (.tuple #[.slice A fs.length c, .int .i64 0]) ∧ fs.length ≤ c ∧ Ct.Cut v k s zs room.toNat fs ∧ FrsAt w' w'.heap.size A fs))
theorem FramesR.bad {w w' : World} {v k s room E : Int} {zs : List Int} {e : Ending} (h : Ct.fErr v k zs.length room = E) (h0 : E ≠ 0) (he : e = .returned (.tuple #[.slice none 0 0, .int .i64 E])) (hb : Below w.heap.size w w') : FramesR w v k s zs room e w' :=
  ⟨hb, .inl ⟨by rw [h]; exact h0, by rw [h]; exact he⟩⟩
/-- the frames that have been made -/
def CutGo (v k s : Int) (zs : List Int) (r m : Nat) (fs : List Fr) : Prop := ∀ (j : Nat) (f : Fr), fs[j]? = some f → f.v = v ∧ f.k = k ∧ f.s = s ∧ f.i = (j : Int) ∧ f.c = (m : Int) ∧ f.zs = Ct.part zs r j
theorem CutGo.push {v k s : Int} {zs : List Int} {r m : Nat} {fs : List Fr} (h : CutGo v k s zs r m fs) (a : Option Addr) (cp : Nat) : CutGo v k s zs r m (fs ++ [⟨v, k, s, (fs.length : Int), (m : Int), a, cp, Ct.part zs r fs.length⟩]) := fun j f hf => by
  rcases Nat.lt_or_ge j fs.length with h1 | h1
  · rw [List.getElem?_append_left h1] at hf
    exact h j f hf
  · rw [List.getElem?_append_right h1] at hf
    have h2 : j - fs.length = 0 := by
      have := (List.getElem?_eq_some_iff.1 hf).1
      simp at this; omega
    rw [h2] at hf
    have h3 : j = fs.length := by omega
    simp only [List.getElem?_cons_zero, Option.some.injEq] at hf
    subst hf h3
    exact ⟨rfl, rfl, rfl, rfl, rfl, rfl⟩
theorem chk_from {v k m : Int} {j : Nat} (h : chk v k 0 m = 0) (hj : (j : Int) < m) : chk v k (j : Int) m = 0 := by
  obtain ⟨h1, h2, h3, h4, h5, h6, h7⟩ := chk_zero h
  unfold chk
  rw [if_neg (by omega), if_neg (by omega), if_neg (by omega)]
theorem FramesR.good {w W : World} {v k s room : Int} {zs : List Int} {base t : TypeId} {u : Value} {fs : List Fr} {m : Nat} (hE : Ct.fErr v k zs.length room = 0) (hm : Ct.cnt zs.length room.toNat = m) (hl : fs.length = m) (hg : CutGo v k s zs room.toNat m fs)
    (hat : ∀ f ∈ fs, f.At W W.heap.size) (hrow : W.ownsRow base t 6 u fs.length (flatF fs)) (hb : Below w.heap.size w W) : FramesR w v k s zs room (.returned (.tuple #[u, .int .i64 0])) W := by
  obtain ⟨A, c, rfl, hc, hf⟩ := own_frs hrow hat
  exact ⟨hb, .inr ⟨hE, A, c, fs, rfl, hc, ⟨by rw [hm]; exact hl, by rw [hm]; exact hg⟩, hf⟩⟩
end Go.Proofs.Ytoaclbdlgkgnpaa

namespace Go.Proofs.Ytoaclbdlgkgnpaa
open Go.RowKit Go.Shelf
set_option maxRecDepth 100000
attribute [local go_sem] Oper.semAt_some

theorem frames_short (v k s i c : Int) (a : Option Addr) (cp : Nat) (room : Int) (w : World) :
    Calls Try.prog 16 #[hdV v k s i c, .slice a 0 cp, .int .i64 room] w (FramesR w v k s [] room) := by
  have HF := Lib.hid (fun e w' => FramesR.bad (w := w) (w' := w') (s := s) (e := e) (show Ct.fErr v k ([] : List Int).length room = 13 from rfl) (by decide))
  generalize FramesR w v k s [] room = G at *
  unfold hdV
  go_enter Try.func16, Try.ntmps16
  go_wp2
  try go_ret2
  exact HF.out _ _ rfl ((Below.refl _ w).alloc (Nat.le_refl _) _)
theorem frames_long (v k s i c : Int) (a : Option Addr) (n cp : Nat) (zs : List Int) (room : Int) (w : World) (hn : zs.length = n) (h1 : 192 < n) :
    Calls Try.prog 16 #[hdV v k s i c, .slice a n cp, .int .i64 room] w (FramesR w v k s zs room) := by
  have HF := Lib.hid (fun e w' => FramesR.bad (w := w) (w' := w') (s := s) (e := e) (show Ct.fErr v k zs.length room = 2 from by unfold Ct.fErr; rw [if_neg (by omega), if_pos (by omega)]) (by decide))
  have h2 : ¬ (n : Int) = 0 := by omega
  have h3 : 192 < (n : Int) := by omega
  clear hn h1
  generalize FramesR w v k s zs room = G at *
  unfold hdV
  go_enter Try.func16, Try.ntmps16
  go_wp2
  try go_ret2
  exact HF.out _ _ rfl ((Below.refl _ w).alloc (Nat.le_refl _) _)
theorem frames_range (v k s i c : Int) (a : Option Addr) (n cp : Nat) (zs : List Int) (room : Int) (w : World) (hn : zs.length = n) (h0 : 1 ≤ n) (h1 : n ≤ 192) (hr : room < 1 ∨ 242 < room) :
    Calls Try.prog 16 #[hdV v k s i c, .slice a n cp, .int .i64 room] w (FramesR w v k s zs room) := by
  have HF := Lib.hid (fun e w' => FramesR.bad (w := w) (w' := w') (s := s) (e := e) (show Ct.fErr v k zs.length room = 5 from by unfold Ct.fErr; rw [if_neg (by omega), if_neg (by omega), if_pos hr]) (by decide))
  have h2 : ¬ (n : Int) = 0 := by omega
  have h3 : ¬ 192 < (n : Int) := by omega
  clear hn h1 h0
  generalize FramesR w v k s zs room = G at *
  unfold hdV
  by_cases h4 : room < 1
  · clear hr
    go_enter Try.func16, Try.ntmps16
    go_wp2
    try go_ret2
    exact HF.out _ _ rfl ((Below.refl _ w).alloc (Nat.le_refl _) _)
  · have h5 : 242 < room := by omega
    clear hr
    go_enter Try.func16, Try.ntmps16
    go_wp2
    try go_ret2
    exact HF.out _ _ rfl ((Below.refl _ w).alloc (Nat.le_refl _) _)
theorem frames_chk (v k s i c : Int) (a : Option Addr) (n cp r : Nat) (zs : List Int) (w : World) (hn : zs.length = n) (h0 : 1 ≤ n) (hn2 : n ≤ 192) (hr1 : 1 ≤ r) (hr2 : r ≤ 242) (hE : chk v k 0 (Ct.cnt n r : Int) ≠ 0) :
    Calls Try.prog 16 #[hdV v k s i c, .slice a n cp, .int .i64 (r : Int)] w (FramesR w v k s zs (r : Int)) := by
  obtain ⟨m, hm⟩ : ∃ m, Ct.cnt n r = m := ⟨_, rfl⟩
  rw [hm] at hE
  have hfe : Ct.fErr v k zs.length (r : Int) = chk v k 0 (m : Int) := by unfold Ct.fErr; rw [if_neg (by omega), if_neg (by omega), if_neg (by omega), Int.toNat_natCast, hn, hm]
  have HF := Lib.hid (fun e w' => FramesR.bad (w := w) (w' := w') (s := s) (e := e) hfe hE)
  have KN : ∀ W, Calls Try.prog 32 #[.int .i64 (n : Int), .int .i64 (r : Int)] W fun e w' => e = .returned (.int .i64 (m : Int)) ∧ w' = W := fun W => by
    have h := ccount_any n (r : Int) (by omega) (by omega) W
    have e1 : cntZ n (r : Int) = (m : Int) := by unfold cntZ; rw [if_neg (by omega), if_neg (by omega), Int.toNat_natCast, hm]
    rwa [e1] at h
  have KC := fun W => check_any v k s 0 (m : Int) W
  unfold hdV at KC
  have h2 : ¬ (n : Int) = 0 := by omega
  have h3 : ¬ 192 < (n : Int) := by omega
  have h4 : ¬ (r : Int) < 1 := by omega
  have h5 : ¬ 242 < (r : Int) := by omega
  have hE2 : (chk v k 0 (m : Int) != 0) = true := by simpa using hE
  clear hn h0 hfe hm hE
  generalize FramesR w v k s zs (r : Int) = G at *
  generalize chk v k 0 (m : Int) = E at *
  unfold hdV
  go_enter Try.func16, Try.ntmps16
  go_wp2_with fail
  refine (KN _).mono ?_
  rintro e w1 ⟨rfl, rfl⟩
  go_wp2_with fail
  refine (KC _).mono ?_
  rintro e w2 ⟨rfl, hb⟩
  have HB := Lib.hid (((Below.refl _ w).alloc (Nat.le_refl _) _).trans (hb.mono (by simp)))
  clear hb
  go_wp2
  try go_ret2
  exact HF.out _ _ rfl HB.out
end Go.Proofs.Ytoaclbdlgkgnpaa

namespace Go.Proofs.Ytoaclbdlgkgnpaa
open Go.RowKit Go.Shelf
set_option maxRecDepth 100000
attribute [local go_sem] Oper.semAt_some

/-- numbers that lie in a row of bytes -/
def InRow (W : World) (A : Option Addr) (zs : List Int) : Prop :=
  zs ≠ [] → ∃ g off cur, A = some ⟨g, off, none⟩ ∧ W.heap[g]? = some (.cells cur 5 (0, 0)) ∧ ∀ (j : Nat) (z : Int), zs[j]? = some z → cur[off + j]? = some (.int .u8 z)
theorem InRow.nums {W : World} {A : Option Addr} {zs : List Int} (h : InRow W A zs) : Nums .u8 W W.heap.size A zs := fun hn => by
  obtain ⟨g, off, cur, e, hh, hc⟩ := h hn
  exact ⟨g, off, e, (Array.getElem?_eq_some_iff.1 hh).1, fun j z hj => by simp only [World.cell?, hh]; exact hc j z hj⟩
/-- rows of bytes, and boxes of numbers, are as they were -/
structure KpT (A B : World) : Prop where
  size : A.heap.size ≤ B.heap.size
  same : ∀ (k : Nat) (cs : Array Value) (t : TypeId), (t = 5 ∨ t = 3 ∨ t = 37) → A.heap[k]? = some (.cells cs t (0, 0)) → B.heap[k]? = some (.cells cs t (0, 0))
theorem KpT.refl (A : World) : KpT A A := ⟨Nat.le_refl _, fun _ _ _ _ h => h⟩
theorem KpT.trans {A B C : World} (h : KpT A B) (k : KpT B C) : KpT A C := ⟨Nat.le_trans h.size k.size, fun i cs t ht hi => k.same i cs t ht (h.same i cs t ht hi)⟩
theorem KpT.of_below {A B : World} (h : Below A.heap.size A B) : KpT A B := ⟨h.size, fun k _ _ _ hk => (h.block k (Array.getElem?_eq_some_iff.1 hk).1).trans hk⟩
theorem KpT.putObj {A : World} {l : Nat} {o o' : Obj} (ho : A.heap[l]? = some o) (hc : o.isCells = false) : KpT A (A.putObj l o') :=
  ⟨by simp [World.putObj], fun k cs t _ hk => (World.putObj_heap_other (fun e => by
    subst e
    rw [ho] at hk
    injection hk with hk
    rw [hk] at hc; cases hc)).trans hk⟩
theorem InRow.keeps {A B : World} {a : Option Addr} {zs : List Int} (h : InRow A a zs) (k : KpT A B) : InRow B a zs := fun hn => by
  obtain ⟨g, off, cur, e, hh, hc⟩ := h hn
  exact ⟨g, off, cur, e, k.same g cur _ (.inl rfl) hh, hc⟩
theorem InRow.made {w w1 : World} {L : List Int} {v : Value} (h : MadeK 5 .u8 w w1 L v) (hn : L ≠ []) : ∃ g cap cur, v = .slice (some ⟨g, 0, none⟩) L.length cap ∧ L.length ≤ cap ∧ w.heap.size ≤ g ∧ w1.heap[g]? = some (.cells cur 5 (0, 0)) ∧ ∀ (j : Nat) (z : Int), L[j]? = some z → cur[j]? = some (.int .u8 z) := by
  obtain ⟨A, c, rfl, hc, hnu⟩ := h.slice
  obtain ⟨b, off, rfl, hb, hcl⟩ := hnu hn
  obtain ⟨hge, cur, hcur⟩ := h.own_ge (g := b) rfl
  have h0 : off = 0 := by
    rcases h.1.2 with ⟨e, _⟩ | ⟨g, cap, cu, hv, _⟩
    · cases e
    · injection hv with hv
      injection hv with hv
      injection hv
  subst h0
  refine ⟨b, c, cur, rfl, hc, hge, hcur, fun j z hj => ?_⟩
  have := hcl j z hj
  rw [Nat.zero_add] at this
  simpa [World.cell?, hcur] using this

/-- what Parts answers: a closure over a copy of the bytes, and the room -/
structure PaSeq (w : World) (zs : List Int) (r Bo Br : Nat) (A1 : Option Addr) (n k1 : Nat) (w' : World) : Prop where
  loO : w.heap.size ≤ Bo
  hiO : Bo < w'.heap.size
  loR : w.heap.size ≤ Br
  boxO : Boxed w' Bo 37 (.slice A1 n k1)
  boxR : Boxed w' Br 3 (.int .i64 (r : Int))
  room : n ≤ k1
  nums : InRow w' A1 zs
  below : Below w.heap.size w w'
theorem cparts_any (a : Option Addr) (n c r : Nat) (zs : List Int) (w : World) (hn : zs.length = n) (hl : n ≤ 1000000) (hr : 1 ≤ r) (h1 : Nums .u8 w w.heap.size a zs) :
    Calls Try.prog 33 #[.slice a n c, .int .i64 (r : Int)] w fun e w' => ∃ Bo Br A1 k1, e = .returned (.func (.func 40) #[] #[.pointer (some ⟨Bo, 0, none⟩), .pointer (some ⟨Br, 0, none⟩)]) ∧ PaSeq w zs r Bo Br A1 n k1 w' := by
  have hb0 := (Below.refl _ w).alloc (Nat.le_refl _) (.cells #[.int .i64 (r : Int)] 3)
  have bR := Boxed.new w 3 (.int .i64 (r : Int))
  have K := clone_any a n c zs (w.alloc (.cells #[.int .i64 (r : Int)] 3)) hn hl ((h1.below hb0).mono hb0.size)
  have hs0 : (w.alloc (.cells #[.int .i64 (r : Int)] 3)).heap.size = w.heap.size + 1 := by simp
  have hr0 : ¬ (r : Int) < 1 := by omega
  have HB0 := Lib.hid hb0
  have HR := Lib.hid bR
  have HS := Lib.hid hs0
  clear h1 hb0 bR hs0
  go_enter Try.func33, Try.ntmps33
  go_wp2_with fail
  refine K.mono ?_
  rintro e w1 ⟨v, rfl, hm⟩
  clear K
  have hnu : ∀ A n c, v = .slice A n c → InRow w1 A zs := fun A n c e h0 => by
    obtain ⟨g, cap, cur, e2, _, _, h1, h2⟩ := InRow.made hm h0
    rw [e2] at e
    injection e with e
    exact ⟨g, 0, cur, e.symm, h1, fun j z hj => by rw [Nat.zero_add]; exact h2 j z hj⟩
  obtain ⟨A1, k1, rfl, hk1, _⟩ := hm.slice
  have hnu := hnu _ _ _ rfl
  rw [hn] at hk1 ⊢
  have hb1 := hm.2
  have hb01 := HB0.out.trans (hb1.mono (by have := HS.out; omega))
  have hs1 : w.heap.size + 1 ≤ w1.heap.size := by have := hb1.size; have := HS.out; omega
  have hb12 : Below w1.heap.size w1 (w1.alloc (.cells #[.slice A1 n k1] 37)) := (Below.refl _ w1).alloc (Nat.le_refl _) _
  have HF := Lib.hid (show PaSeq w zs r w1.heap.size w.heap.size A1 n k1 (w1.alloc (.cells #[.slice A1 n k1] 37)) from
    ⟨by omega, by simp, Nat.le_refl _, Boxed.new w1 _ _, (hb12.block _ (by omega)).trans ((hb1.block _ (by have := HS.out; omega)).trans HR.out), hk1, hnu.keeps (KpT.of_below hb12), hb01.trans (hb12.mono hb01.size)⟩)
  clear hm hnu hb1 hb01 hb12
  go_wp2
  go_ret
  exact ⟨_, _, _, _, rfl, HF.out⟩

set_option maxHeartbeats 4000000 in
theorem cparts_in (n : Nat) (hn1 : 1 ≤ n) (m' l Bo Br m k1 r s0 : Nat) (A1 : Option Addr) (zs : List Int) (hm : zs.length = m) (hm1 : 1 ≤ m) (hl : m ≤ 1000000) (hr1 : 1 ≤ r) (hr2 : r ≤ 1000000)
    (Dn : Nat → World → Prop) (Bk X : World → Prop) (Kp : World → World → Prop)
    (hDb : ∀ A B, Dn 0 A → Below A.heap.size A B → Dn 0 B)
    (hBk : ∀ A B, Bk A → A.heap.size ≤ B.heap.size → (∀ k, s0 ≤ k → k < s0 + 2 → B.heap[k]? = A.heap[k]?) → Bk B) (hBlt : ∀ A, Bk A → s0 + 2 ≤ A.heap.size)
    (hKs : ∀ A B, Kp A B → KpT A B)
    (hY : ∀ j A' W1, Dn j W1 → j < Ct.cnt m r → InRow W1 A' (Ct.part zs r j) → Bk W1 → YieldAt Fence.wide m' Try.prog l #[.int .i64 (j : Int), .slice A' (Ct.part zs r j).length (Ct.part zs r j).length] W1 (YPost s0 l Kp (fun W2 => Dn (j + 1) W2 ∧ Bk W2) X W1))
    (W : World) (hBo : W.cell? ⟨Bo, 0, none⟩ = some (.slice A1 m k1)) (hBr : Boxed W Br 3 (.int .i64 (r : Int))) (hN1 : Nums .u8 W W.heap.size A1 zs) (hD0 : Dn 0 W) (hB0 : Bk W) :
    CallsIn Fence.wide n Try.prog 40 #[.func (.yield l) #[] #[], .pointer (some ⟨Bo, 0, none⟩), .pointer (some ⟨Br, 0, none⟩)] W fun e W' => (∃ v, e = .returned v) ∧ ((Dn (Ct.cnt m r) W' ∧ Bk W') ∨ X W') := by
  have hsW := hBlt W hB0
  have hcl := clone_any A1 m k1 zs W hm hl hN1
  have hz0 : zs ≠ [] := fun e => by rw [e] at hm; simp at hm; omega
  obtain ⟨q, hq⟩ : ∃ q, Ct.cnt m r = q := ⟨_, rfl⟩
  have hq1 : 1 ≤ q := by rw [← hq]; exact Ct.cnt_pos hr1 hm1
  have hqm : q ≤ m := by rw [← hq]; exact Ct.cnt_le hr1
  have HQ : Hid (∀ j, j < q ↔ j * r < m) := fun j => by rw [← hq]; exact Ct.lt_cnt hr1
  have HQE : Hid (m ≤ q * r) := by show m ≤ q * r; rw [← hq]; exact Ct.cnt_end hr1
  rw [hq] at hY ⊢
  have HY := Lib.hid hY
  clear hq hY
  refine callsIn_of_wp Try.func40 rfl trivial ?_ rfl
  simp only [Try.ntmps40, List.size_toArray, List.length_cons, List.length_nil, Nat.reduceAdd, Nat.reduceSub, Array.replicate_succ, Array.replicate_zero, List.push_toArray, List.append_toArray, List.nil_append, List.cons_append]
  gi_wp2_with fail
  refine ⟨trivial, ?_⟩
  refine (callsIn_wide.2 hcl).mono ?_
  rintro e W1 ⟨v, rfl, hmk⟩
  clear hcl
  obtain ⟨g, c', cur, rfl, hc', hge, hcur, hcells⟩ := InRow.made hmk hz0
  rw [hm] at hc' ⊢
  have hb1 := hmk.2
  have hs1 := hb1.size
  have hD1 := hDb _ _ hD0 hb1
  have hBk1 : Bk W1 := hBk _ _ hB0 hs1 (fun k _ h2 => hb1.block k (by omega))
  have HCUR := Lib.hid hcur
  have HCELL := Lib.hid hcells
  have HBR : Hid (Boxed W1 Br 3 (.int .i64 (r : Int))) := (hb1.block Br hBr.lt).trans hBr
  have HM := Lib.hid hm
  clear hmk hcur hcells hb1 hBo hN1 hBr hD0 hB0 hm
  gi_wp2
  gi_loopw [4, 5] (fun v iv wr => ∃ (Al : Option Addr) (j mm cc : Nat), v = .slice Al mm cc ∧ iv = .int .i64 (j : Int) ∧ mm ≤ cc ∧ mm ≤ m ∧ j ≤ q ∧ Hid (0 < mm → Al = some ⟨g, j * r, none⟩) ∧ Hid ((j < q ∧ j * r + mm = m) ∨ (j = q ∧ mm = 0)) ∧ Hid (Dn j wr) ∧ Hid (Bk wr) ∧ Hid (KpT W1 wr))
    (fun _ iv _ => q - (intOf iv).toNat)
  case atStart => exact ⟨some ⟨g, 0, none⟩, 0, m, c', rfl, rfl, hc', Nat.le_refl _, by omega, fun _ => by simp, .inl ⟨by omega, by omega⟩, hD1, hBk1, KpT.refl _⟩
  case round =>
    obtain ⟨Al, j, mm, cc, rfl, rfl, hmc, hml, hjq, HA, HJ, HD, HB, HK⟩ := hrel
    by_cases hm0 : mm = 0
    · have hF : Hid (Dn q wr ∧ Bk wr) := by
        rcases HJ.out with ⟨h1, h2⟩ | ⟨h1, _⟩
        · have := (HQ.out j).1 h1; omega
        · exact ⟨by rw [← h1]; exact HD.out, HB.out⟩
      have hm2 : ¬ (0 : Int) < (mm : Int) := by omega
      gi_wp2
      first | go_end0 | (refine bodyPost_ret (results_none rfl _ _ _) rfl ?_)
      exact ⟨⟨_, rfl⟩, .inl hF.out⟩
    · have hm2 : (0 : Int) < (mm : Int) := by omega
      obtain ⟨hjlt, hjm⟩ : j < q ∧ j * r + mm = m := by
        rcases HJ.out with h | ⟨_, h⟩
        · exact h
        · exact absurd h hm0
      have hAl := HA.out (by omega)
      have hpl : (Ct.part zs r j).length = min r mm := by rw [Ct.part_len, HM.out]; congr 1; omega
      obtain ⟨p, hp⟩ : ∃ p, min r mm = p := ⟨_, rfl⟩
      rw [hp] at hpl
      have hin : InRow wr Al (Ct.part zs r j) := fun _ => ⟨g, j * r, cur, hAl, HK.out.same g cur _ (.inl rfl) HCUR.out, fun i z hi => HCELL.out (j * r + i) z (by
        unfold Ct.part at hi
        rw [List.getElem?_take] at hi
        split at hi
        · rwa [List.getElem?_drop] at hi
        · cases hi)⟩
      have hyl := HY.out j Al wr HD.out hjlt hin HB.out
      rw [hpl] at hyl
      obtain ⟨fn, tmps, assign, body, hy, hR⟩ := yield_any (n - 1) hyl
      have HRn := Lib.hid hR
      have hpi : min (r : Int) (mm : Int) = (p : Int) := by omega
      have hp1 : 1 ≤ p := by omega
      have hpm : p ≤ mm := by omega
      have hpm' : (p : Int) ≤ (mm : Int) := by omega
      have hpc' : (p : Int) ≤ (cc : Int) := by omega
      have hmcc : (mm : Int) ≤ (cc : Int) := by omega
      have hbr : wr.cell? ⟨Br, 0, none⟩ = some (.int .i64 (r : Int)) := (show Boxed wr Br 3 (.int .i64 (r : Int)) from HK.out.same _ _ _ (.inr (.inl rfl)) HBR.out).cell
      have HAl := Lib.hid hAl
      have HJM := Lib.hid hjm
      have HP := Lib.hid hp
      have hsucc : (j + 1) * r = j * r + r := by rw [Nat.add_mul, Nat.one_mul]
      have hnext : (j + 1 < q ∧ p = r ∧ (j + 1) * r + (mm - p) = m) ∨ (j + 1 = q ∧ mm - p = 0) := by
        rcases Nat.lt_or_ge (j + 1) q with h | h
        · left
          have := (HQ.out (j + 1)).1 h
          refine ⟨h, by omega, by omega⟩
        · right
          have h2 : j + 1 = q := by omega
          have := HQE.out
          rw [← h2] at this
          exact ⟨h2, by omega⟩
      have HNX := Lib.hid hnext
      clear hAl hjm hpl hp hin hyl hR hsucc hnext HJ HA
      by_cases hcp : cc = p
      · have hjq1 : j + 1 = q := by
          rcases HNX.out with ⟨h1, _, h3⟩ | ⟨h, _⟩
          · have := (HQ.out (j + 1)).1 h1; omega
          · exact h
        have e1 : mm = p := by omega
        have HJ1 := Lib.hid hjq1
        clear hjq1 HNX HJM HP
        subst e1
        subst hcp
        gi_wp2_with fail
        refine HRn.out.mono ?_
        rintro e V2 (⟨rfl, ⟨hd, hb⟩, hk, _⟩ | ⟨rfl, hx, _⟩)
        · have HD2 := Lib.hid hd
          have HB2 := Lib.hid hb
          have HK2 := Lib.hid (HK.out.trans (hKs _ _ hk))
          clear hd hb hk
          gi_wp2
          go_roundw
          case rel => exact ⟨_, j + 1, _, _, rfl, by go_num, by omega, by omega, by have := HJ1.out; omega, fun h => by omega, .inr ⟨HJ1.out, by omega⟩, HD2, HB2, HK2⟩
          case measure => simp [intOf]; omega
        · have hF := Lib.hid hx
          clear hx
          gi_wp2
          first | go_end0 | (refine bodyPost_ret (results_none rfl _ _ _) rfl ?_)
          exact ⟨⟨_, rfl⟩, .inr hF.out⟩
      · gi_wp2_with fail
        refine HRn.out.mono ?_
        rintro e V2 (⟨rfl, ⟨hd, hb⟩, hk, _⟩ | ⟨rfl, hx, _⟩)
        · have HD2 := Lib.hid hd
          have HB2 := Lib.hid hb
          have HK2 := Lib.hid (HK.out.trans (hKs _ _ hk))
          have HA2 : Hid (0 < mm - p → Al.map (·.add p) = some ⟨g, (j + 1) * r, none⟩) := fun h => by
            rcases HNX.out with ⟨_, h2, _⟩ | ⟨_, h2⟩
            · rw [HAl.out, h2]
              have hr0 : r ≠ 0 := by omega
              simp [Addr.add, Nat.add_mul, hr0]
            · omega
          have HJ2 : Hid ((j + 1 < q ∧ (j + 1) * r + (mm - p) = m) ∨ (j + 1 = q ∧ mm - p = 0)) := HNX.out.imp (fun h => ⟨h.1, h.2.2⟩) id
          clear hd hb hk HNX
          gi_wp2
          go_roundw
          case rel => exact ⟨_, j + 1, mm - p, cc - p, rfl, by go_num, by omega, by omega, by omega, HA2, HJ2, HD2, HB2, HK2⟩
          case measure => simp [intOf]; omega
        · have hF := Lib.hid hx
          clear hx
          gi_wp2
          first | go_end0 | (refine bodyPost_ret (results_none rfl _ _ _) rfl ?_)
          exact ⟨⟨_, rfl⟩, .inr hF.out⟩
end Go.Proofs.Ytoaclbdlgkgnpaa

namespace Go.Proofs.Ytoaclbdlgkgnpaa
namespace Fc
open Cb

theorem scan_feed (x y : List Int) : ∀ (p : Nat) (now : List Int), scan p now (x ++ y) = scan p now x ++ scan (p + x.length) (opn now x) y := by
  induction x with
  | nil => intro p now; simp [scan, opn]
  | cons z x ih =>
    intro p now
    rw [List.cons_append]
    by_cases hz : z = 0
    · subst hz
      rw [scan_zero, scan_zero, ih, List.append_assoc, opn_zero, List.length_cons]
      congr 3; omega
    · rw [scan_ne hz, scan_ne hz, ih, opn_ne hz, List.length_cons]
      congr 2; omega
theorem opn_feed (x y : List Int) : ∀ now : List Int, opn now (x ++ y) = opn (opn now x) y := by
  induction x with
  | nil => intro now; simp [opn]
  | cons z x ih =>
    intro now
    rw [List.cons_append]
    by_cases hz : z = 0
    · subst hz; rw [opn_zero, opn_zero, ih]
    · rw [opn_ne hz, opn_ne hz, ih]
theorem opn_isNZ (x : List Int) : ∀ {now : List Int}, NZ now → NZ (opn now x) := by
  induction x with
  | nil => intro now h; simpa [opn] using h
  | cons z x ih =>
    intro now h
    by_cases hz : z = 0
    · subst hz; rw [opn_zero]; exact ih (fun c hc => by cases hc)
    · rw [opn_ne hz]; exact ih (h.append fun c hc => by simp at hc; subst hc; exact hz)
theorem opn_length (x : List Int) : ∀ now : List Int, (opn now x).length ≤ now.length + x.length := by
  induction x with
  | nil => intro now; simp [opn]
  | cons z x ih =>
    intro now
    by_cases hz : z = 0
    · subst hz; have := ih []; rw [opn_zero]; simp only [List.length_nil, List.length_cons] at this ⊢; omega
    · have := ih (now ++ [z]); rw [opn_ne hz]; simp only [List.length_append, List.length_cons, List.length_nil] at this ⊢; omega
theorem opn_bytes (x : List Int) : ∀ {now : List Int}, Bytes now → Bytes x → Bytes (opn now x) := by
  induction x with
  | nil => intro now h _; simpa [opn] using h
  | cons z x ih =>
    intro now h hx
    have hr : Bytes x := fun c hc => hx c (by simp [hc])
    by_cases hz : z = 0
    · subst hz; rw [opn_zero]; exact ih (fun c hc => by cases hc) hr
    · rw [opn_ne hz]; exact ih (h.append fun c hc => by simp at hc; subst hc; exact hx c (by simp)) hr
/-- up to the first 0 -/
theorem scan_stepn {L : List Int} (h : nz L < L.length) (p : Nat) (now : List Int) :
    scan p now L = (if now ++ L.take (nz L) = [] then [] else [(p + nz L - (now ++ L.take (nz L)).length, now ++ L.take (nz L))]) ++ scan (p + nz L + 1) [] (L.drop (nz L + 1)) := by
  conv => lhs; rw [cut_nz h]
  have hl : (L.take (nz L)).length = nz L := by rw [List.length_take]; omega
  rw [scan_nz (nz_take L), scan_zero, hl]
theorem opn_stepn {L : List Int} (h : nz L < L.length) (now : List Int) : opn now L = opn [] (L.drop (nz L + 1)) := by
  conv => lhs; rw [cut_nz h]
  rw [opn_app]
theorem last_isNZ {L : List Int} (h : L.length ≤ nz L) : NZ L := by
  have := nz_take L
  rwa [List.take_of_length_le h] at this
theorem scan_lastn {L : List Int} (h : L.length ≤ nz L) (p : Nat) (now : List Int) : scan p now L = [] := scan_end (last_isNZ h) p now
theorem opn_lastn {L : List Int} (h : L.length ≤ nz L) (now : List Int) : opn now L = now ++ L := opn_end (last_isNZ h) now
/-- a segment's end lies within what was fed -/
theorem scan_place (L : List Int) : ∀ (p : Nat) (now : List Int), now.length ≤ p → ∀ x ∈ scan p now L, p - now.length ≤ x.1 ∧ x.1 + x.2.length + 1 ≤ p + L.length := by
  induction L with
  | nil => intro p now _ x hx; simp [scan] at hx
  | cons z r ih =>
    intro p now hn x hx
    by_cases hz : z = 0
    · subst hz
      rw [scan_zero] at hx
      rcases List.mem_append.1 hx with hx | hx
      · split at hx
        · simp at hx
        · simp at hx; subst hx
          exact ⟨Nat.le_refl _, by simp only [List.length_cons]; omega⟩
      · have h1 := ih (p + 1) [] (by simp) x hx
        simp only [List.length_nil, List.length_cons] at h1 ⊢
        omega
    · rw [scan_ne hz] at hx
      have h1 := ih (p + 1) (now ++ [z]) (by simp; omega) x hx
      simp only [List.length_append, List.length_cons, List.length_nil] at h1 ⊢
      omega
theorem scan_isBytes (L : List Int) : ∀ (p : Nat) (now : List Int), Bytes now → Bytes L → ∀ x ∈ scan p now L, Bytes x.2 := by
  induction L with
  | nil => intro p now _ _ x hx; simp [scan] at hx
  | cons z r ih =>
    intro p now h hx x hm
    have hr : Bytes r := fun c hc => hx c (by simp [hc])
    by_cases hz : z = 0
    · subst hz
      rw [scan_zero] at hm
      rcases List.mem_append.1 hm with hm | hm
      · split at hm
        · simp at hm
        · simp at hm; subst hm; exact h
      · exact ih _ [] (fun c hc => by cases hc) hr x hm
    · rw [scan_ne hz] at hm
      exact ih _ _ (h.append fun c hc => by simp at hc; subst hc; exact hx c (by simp)) hr x hm
end Fc

/-- what is held of bytes that are open: none, if they are too many -/
def held (b : List Int) : List Int := if 255 < b.length then [] else b
theorem held_long {b : List Int} (h : 255 < b.length) : held b = [] := if_pos h
theorem held_short {b : List Int} (h : b.length ≤ 255) : held b = b := if_neg (by omega)
theorem held_len (b : List Int) : (held b).length ≤ 255 := by
  unfold held; split
  · simp
  · omega
theorem held_le (b : List Int) : (held b).length ≤ b.length := by
  unfold held; split
  · simp
  · exact Nat.le_refl _
theorem held_bytes {b : List Int} (h : Bytes b) : Bytes (held b) := by
  unfold held; split
  · intro c hc; cases hc
  · exact h
theorem held_nil : held [] = [] := rfl

/-- a segment that was told: its bytes' place and room; where it was, and its bytes -/
structure Sg where
  a : Option Addr
  cp : Nat
  p : Nat
  b : List Int
def Sg.cs (x : Sg) : Array Value := #[.slice x.a (held x.b).length x.cp, .bool (decide (255 < x.b.length)), .int .i64 x.b.length, .int .u64 x.p]
def Sg.pb (x : Sg) : Nat × List Int := (x.p, x.b)
/-- the cells of segments, one behind the other -/
def flatS (xs : List Sg) : List Value := xs.flatMap fun x => x.cs.toList
theorem flatS_len (xs : List Sg) : (flatS xs).length = xs.length * 4 := by
  induction xs with
  | nil => rfl
  | cons f r ih => unfold flatS at *; rw [List.flatMap_cons, List.length_append, ih, List.length_cons]; have : f.cs.toList.length = 4 := rfl; omega
theorem flatS_push (xs : List Sg) (x : Sg) : flatS (xs ++ [x]) = flatS xs ++ x.cs.toList := by unfold flatS; simp
theorem flatS_append (xs ys : List Sg) : flatS (xs ++ ys) = flatS xs ++ flatS ys := by unfold flatS; simp
theorem flatS_at : ∀ {xs : List Sg} {j q : Nat} {x : Sg} {u : Value}, xs[j]? = some x → x.cs[q]? = some u → (flatS xs)[j * 4 + q]? = some u
  | [], _, _, _, _, h, _ => by simp at h
  | g :: r, 0, q, x, u, h, hq => by
    simp only [List.getElem?_cons_zero, Option.some.injEq] at h
    subst h
    have hlt : q < 4 := (Array.getElem?_eq_some_iff.1 hq).1
    unfold flatS
    rw [List.flatMap_cons, List.getElem?_append_left (by show 0 * 4 + q < 4; omega), Nat.zero_mul, Nat.zero_add, Array.getElem?_toList]
    exact hq
  | g :: r, j + 1, q, x, u, h, hq => by
    have ih := flatS_at (xs := r) (j := j) (q := q) (x := x) (u := u) (by simpa using h) hq
    unfold flatS at *
    have h6 : g.cs.toList.length = 4 := rfl
    rw [List.flatMap_cons, List.getElem?_append_right (by rw [h6]; omega), h6, show (j + 1) * 4 + q - 4 = j * 4 + q by omega]
    exact ih
theorem flatS_of {xs : List Sg} {i : Nat} {u : Value} (h : (flatS xs)[i]? = some u) : ∃ x, xs[i / 4]? = some x ∧ x.cs[i % 4]? = some u := by
  have hlt := (List.getElem?_eq_some_iff.1 h).1
  rw [flatS_len] at hlt
  have hx : i / 4 < xs.length := by omega
  obtain ⟨x, hx⟩ : ∃ x, xs[i / 4]? = some x := ⟨_, List.getElem?_eq_getElem hx⟩
  have h4 : i % 4 < x.cs.size := by show i % 4 < 4; omega
  obtain ⟨v, hv⟩ : ∃ v, x.cs[i % 4]? = some v := ⟨_, Array.getElem?_eq_getElem h4⟩
  have := flatS_at hx hv
  rw [show i / 4 * 4 + i % 4 = i by omega, h] at this
  injection this with this
  subst this
  exact ⟨x, hx, hv⟩
theorem flatS_one {xs : List Sg} : ∀ u ∈ flatS xs, u.oneCell' = true := fun u hu => by
  obtain ⟨x, _, hx⟩ := List.mem_flatMap.1 hu
  simp [Sg.cs] at hx
  rcases hx with rfl | rfl | rfl | rfl <;> rfl
end Go.Proofs.Ytoaclbdlgkgnpaa

namespace Go.Proofs.Ytoaclbdlgkgnpaa
open Go.RowKit

theorem run_append_any_at {P : Program} {w : World} (t ty : TypeId) (base : Nat) (e : TypeId) (i : TypeInfo) (z : Value) (bytes : Nat) (ht : P.underlying t = some (.slice e)) (hi : P.info? e = some i) (hz : i.zero = some z) (hsize : i.size = 1) (hby : i.bytes = bytes) (hzs : z.cells.size = 1)
    (k : IntKind) (n : Nat) (xs : List Value) (zs : List Int) (v : Value) (hown : w.ownsRow base e 1 v n xs) (A : Option Addr) (m c B : Nat) (hm : zs.length = m) (hn : Nums k w B A zs)
    (h63 : n + m ≤ maxLen) (hbytes : (n + m) * bytes ≤ 140737488355328) (hbase : base ≤ w.heap.size) :
    ∃ v' w', (Builtin.append_ #[t, t] ty #[v, .slice A m c]).run P w = .ok v' w' ∧ w'.ownsRow base e 1 v' (n + m) (xs ++ zs.map (Value.int k)) ∧ w.grownBy w' v.ownBlock ∧ (v'.ownBlock = v.ownBlock ∨ v'.ownBlock = some w.heap.size) := by
  subst hm
  by_cases hz0 : zs = []
  · subst hz0
    have hv : ∃ b n cap, v = .slice b n cap ∧ n ≤ cap := by
      rcases hown.2 with ⟨rfl, _⟩ | ⟨g, cap, cur, rfl, _, _, hle, _⟩
      · exact ⟨_, _, _, rfl, Nat.le_refl _⟩
      · exact ⟨_, _, _, rfl, hle⟩
    obtain ⟨b, q, cap, rfl, hle⟩ := hv
    refine ⟨_, _, run_append_nothing w t t ty e i ht hi b q cap hle _ ?_, by simpa using hown, ⟨rfl, rfl, rfl, Nat.le_refl _, fun _ _ _ => rfl⟩, .inl rfl⟩
    cases A with
    | none => exact ⟨.inl ⟨e, ht⟩, fun _ => rfl, run_firstCells_none w i.size 0 0 c, run_firstCells_none w.drew i.size 0 0 c, by simp, fun _ h => by cases h⟩
    | some ad => exact Src.ofSlice w ht ad 0 c [] (by simp) (by simp) (fun _ h => by cases h)
  · obtain ⟨b1, o1, rfl, hb1, hc⟩ := hn hz0
    obtain ⟨v', w', h1, h2, h3, _, h5⟩ := run_append_own_at (P := P) (w := w) base t ty e i z 1 bytes ht hi hz hsize hby hzs (by decide) v n xs hown ⟨b1, o1, none⟩ zs.length c (zs.map (Value.int k)) (by simp) (fun j u hj => by
      rw [List.getElem?_map] at hj
      obtain ⟨y, hy, rfl⟩ := Option.map_eq_some_iff.1 hj
      rw [Addr.add_lit]
      exact hc j y hy) (fun u hu => by obtain ⟨y, _, rfl⟩ := List.mem_map.1 hu; rfl) h63 hbytes hbase
    exact ⟨v', w', h1, h2, h3, h5⟩

theorem wpListIn_append_any_at {F : Fence} {nF : Nat} {P : Program} {w : World} {ops : Array Oper} {rest : List Oper} {o : Oper} {a : Act} {Q : Exit → Act → World → Prop} (hg : o.guard = none) (s x : Operand) (t : TypeId)
    (hop : o.op = Op.call { callee := Callee.builtin Builtin.append, args := #[s, x], argTypes := #[t, t] })
    (base : Nat) (e : TypeId) (i : TypeInfo) (z : Value) (bytes : Nat) (ht : P.underlying t = some (.slice e)) (hi : P.info? e = some i) (hz : i.zero = some z) (hsize : i.size = 1) (hby : i.bytes = bytes) (hzs : z.cells.size = 1)
    (k : IntKind) (n : Nat) (xs : List Value) (zs : List Int) (v : Value) (hs : a.eval s = v) (hown : w.ownsRow base e 1 v n xs) (A : Option Addr) (m c B : Nat) (hx : a.eval x = .slice A m c) (hm : zs.length = m) (hn : Nums k w B A zs)
    (h63 : n + m ≤ maxLen) (hbytes : (n + m) * bytes ≤ 140737488355328) (hbase : base ≤ w.heap.size)
    (hK : ∀ v' w', w'.ownsRow base e 1 v' (n + m) (xs ++ zs.map (Value.int k)) → w.grownBy w' v.ownBlock → (v'.ownBlock = v.ownBlock ∨ v'.ownBlock = some w.heap.size) → wpListIn F nF P ops Q rest (a.put o.dst v') w') :
    wpListIn F nF P ops Q (o :: rest) a w := by
  refine wpListIn_plain hg fun K hK' => ?_
  obtain ⟨v', w', hrun, r1, r2, r3⟩ := run_append_any_at (P := P) (w := w) t o.type base e i z bytes ht hi hz hsize hby hzs k n xs zs v hown A m c B hm hn h63 hbytes hbase
  unfold Oper.wpIn
  refine ⟨?_, ?_⟩
  · simp [Oper.about, hop, resolve, Target.leads, Sem.run_pure]
  · rw [Oper.semAt_plain F _ _ (by rw [hop]; intro c hc'; cases hc')]
    simp [execOp, hop, resolve, invoke, builtin, hs, hx, hrun, Result.andThen]
    exact hK' _ _ (hK v' w' r1 r2 r3)

/-- the block of the row that the box holds -/
def ownA (b : Nat) (W : World) : Option Nat := (W.cell? ⟨b, 0, none⟩).bind Value.ownBlock
/-- whatever is cells, but the two boxes and the one's row, is as it was -/
structure KpA (bI bA : Nat) (W W' : World) : Prop where
  size : W.heap.size ≤ W'.heap.size
  same : ∀ (k : Nat) (o : Obj), k ≠ bI → k ≠ bA → ownA bA W ≠ some k → W.heap[k]? = some o → o.isCells = true → W'.heap[k]? = some o
  own : ownA bA W' = ownA bA W ∨ ∃ g, ownA bA W' = some g ∧ W.heap.size ≤ g
section
variable {bI bA : Nat} {A B C : World}
theorem KpA.refl (bI bA : Nat) (A : World) : KpA bI bA A A := ⟨Nat.le_refl _, fun _ _ _ _ _ h _ => h, .inl rfl⟩
theorem KpA.trans (h : KpA bI bA A B) (k : KpA bI bA B C) : KpA bI bA A C := by
  refine ⟨Nat.le_trans h.size k.size, fun i o hi ha hown ho hc => ?_, ?_⟩
  · refine k.same i o hi ha (fun e => ?_) (h.same i o hi ha hown ho hc) hc
    rcases h.own with h1 | ⟨g, h1, h2⟩
    · rw [h1] at e; exact hown e
    · rw [h1] at e; injection e with e
      have := (Array.getElem?_eq_some_iff.1 ho).1
      omega
  · rcases k.own with h1 | ⟨g, h1, h2⟩
    · rcases h.own with h3 | ⟨g, h3, h4⟩
      · exact .inl (h1.trans h3)
      · exact .inr ⟨g, h1.trans h3, h4⟩
    · exact .inr ⟨g, h1, Nat.le_trans h.size h2⟩
theorem KpA.putObj {l : Nat} {W : World} {o o' : Obj} (hbl : bA < l) (ho : W.heap[l]? = some o) (hc : o.isCells = false) : KpA bI bA W (W.putObj l o') := by
  refine ⟨by simp [World.putObj], fun k p _ _ _ hp hpc => (World.putObj_heap_other (fun e => ?_)).trans hp, .inl ?_⟩
  · subst e
    rw [hp] at ho
    injection ho with ho
    subst ho
    rw [hpc] at hc; cases hc
  · unfold ownA
    rw [World.cell?_of_block (World.putObj_heap_other (by simp only; omega))]
theorem KpA.of_below {b : Nat} (h : Below b A B) (hs : A.heap.size ≤ b) (hb : bA < A.heap.size) : KpA bI bA A B := ⟨h.size, fun k _ _ _ _ ho _ => (h.block k (by have := (Array.getElem?_eq_some_iff.1 ho).1; omega)).trans ho, .inl (by unfold ownA; rw [h.cell (p := ⟨bA, 0, none⟩) (by simp only; omega)])⟩
end

/-- the boxes behind j rounds: the count, and the row, whose numbers are zs -/
structure TwoB (w : World) (bI bA : Nat) (tI tA e : TypeId) (k : IntKind) (j : Nat) (zs : List Int) (V : World) : Prop where
  cnt : Boxed V bI tI (.int .i64 ((j : Nat) : Int))
  row : ∃ v, Boxed V bA tA v ∧ V.ownsRow w.heap.size e 1 v zs.length (zs.map (Value.int k)) ∧ (j = 0 → v = .slice none 0 0)
  off : Off (fun q => q = bI ∨ q = bA) w V
section
variable {w V V1 V2 : World} {bI bA : Nat} {tI tA e : TypeId} {k : IntKind} {j : Nat} {zs : List Int}
theorem TwoB.putObj {l : Nat} {o o' : Obj} (h : TwoB w bI bA tI tA e k j zs V) (hI : bI < w.heap.size) (hA : bA < w.heap.size) (hl : w.heap.size ≤ l) (ho : V.heap[l]? = some o) (hc : o.isCells = false) : TwoB w bI bA tI tA e k j zs (V.putObj l o') := by
  obtain ⟨v, h1, h2, h3⟩ := h.row
  exact ⟨(World.putObj_heap_other (by omega)).trans h.cnt, ⟨v, (World.putObj_heap_other (by omega)).trans h1, ownsRow_putObj h2 _ ho hc, h3⟩, off_below h.off (below_put V o' hl)⟩
theorem TwoB.start (h : TwoB w bI bA tI tA e k 0 [] V) (hI : bI < w.heap.size) (hA : bA < w.heap.size) (hb : Below w.heap.size V V1) : TwoB w bI bA tI tA e k 0 [] V1 := by
  obtain ⟨v, h1, h2, h3⟩ := h.row
  refine ⟨(hb.block bI hI).trans h.cnt, ⟨v, (hb.block bA hA).trans h1, ?_, h3⟩, off_below h.off hb⟩
  rw [h3 rfl]
  exact World.ownsRow_nil _ _ _ _
theorem TwoB.own0 (h : TwoB w bI bA tI tA e k 0 zs V) : ownA bA V = none := by
  obtain ⟨v, h1, _, h3⟩ := h.row
  unfold ownA
  rw [h1.cell, h3 rfl]; rfl
/-- a round: the row grows, the count goes up -/
theorem TwoB.next {v v' : Value} {ys : List Int} {m : Nat} (h : TwoB w bI bA tI tA e k j zs V) (hv : Boxed V bA tA v) (hrow : V.ownsRow w.heap.size e 1 v zs.length (zs.map (Value.int k))) (hne : bI ≠ bA) (hI : bI < w.heap.size) (hA : bA < w.heap.size)
    (h1 : Below V.heap.size V V1) (hm : (zs ++ ys).length = m) (hown' : V2.ownsRow w.heap.size e 1 v' m (zs.map (Value.int k) ++ ys.map (Value.int k))) (hg : V1.grownBy V2 v.ownBlock) (hat : v'.ownBlock = v.ownBlock ∨ v'.ownBlock = some V1.heap.size) :
    Boxed V2 bA tA v ∧ Boxed V2 bI tI (.int .i64 (j : Int)) ∧ Boxed (V2.setCell ⟨bA, 0, none⟩ v') bI tI (.int .i64 (j : Int)) ∧
    TwoB w bI bA tI tA e k (j + 1) (zs ++ ys) ((V2.setCell ⟨bA, 0, none⟩ v').setCell ⟨bI, 0, none⟩ (.int .i64 ((j : Int) + 1))) ∧
    KeepsFrom w.heap.size V ((V2.setCell ⟨bA, 0, none⟩ v').setCell ⟨bI, 0, none⟩ (.int .i64 ((j : Int) + 1))) ∧ KpA bI bA V ((V2.setCell ⟨bA, 0, none⟩ v').setCell ⟨bI, 0, none⟩ (.int .i64 ((j : Int) + 1))) := by
  have hsV := h.off.size
  have hs1 := h1.size
  have hs2 := hg.size
  have hlt := hrow.lt
  have hlt' := hown'.lt
  have hnr : ∀ b, b < w.heap.size → some b ≠ v.ownBlock := fun b hb e2 => by have := (hlt b e2.symm).1; omega
  have hA2 : Boxed V2 bA tA v := (hg.block bA (by omega) (hnr bA hA)).trans ((h1.block bA (by omega)).trans hv)
  have hI2 : Boxed V2 bI tI (.int .i64 (j : Int)) := (hg.block bI (by omega) (hnr bI hI)).trans ((h1.block bI (by omega)).trans h.cnt)
  have hI3 : Boxed (V2.setCell ⟨bA, 0, none⟩ v') bI tI (.int .i64 (j : Int)) := hI2.other hne v'
  have hA3 : Boxed (V2.setCell ⟨bA, 0, none⟩ v') bA tA v' := hA2.set v'
  have hnr' : ∀ b, b < w.heap.size → v'.ownBlock = none ∨ v'.ownBlock ≠ some b := fun b hb => .inr fun e2 => by have := (hlt' b e2).1; omega
  have hr3 := hown'.kept (grownBy_setCell' V2 bA v') (hnr' bA hA)
  have hr4 := hr3.kept (grownBy_setCell' _ bI (.int .i64 ((j : Int) + 1))) (hnr' bI hI)
  have hblk : ∀ q, q < V.heap.size → q ≠ bI → q ≠ bA → some q ≠ v.ownBlock → ((V2.setCell ⟨bA, 0, none⟩ v').setCell ⟨bI, 0, none⟩ (.int .i64 ((j : Int) + 1))).heap[q]? = V.heap[q]? := fun q hq h3 h4 h5 =>
    (Below.heap_setCell _ ⟨bI, 0, none⟩ _ q h3).trans ((Below.heap_setCell _ ⟨bA, 0, none⟩ _ q h4).trans ((hg.block q (by omega) h5).trans (h1.block q hq)))
  have hsz : V.heap.size ≤ ((V2.setCell ⟨bA, 0, none⟩ v').setCell ⟨bI, 0, none⟩ (.int .i64 ((j : Int) + 1))).heap.size := by simp only [World.setCell, Array.size_modify]; omega
  have hAf : Boxed ((V2.setCell ⟨bA, 0, none⟩ v').setCell ⟨bI, 0, none⟩ (.int .i64 ((j : Int) + 1))) bA tA v' := hA3.other (Ne.symm hne) _
  have hcellV : ∀ q o, v.ownBlock = some q → V.heap[q]? = some o → o.isCells = true := fun q o ej hj => by
    rcases hrow.2 with ⟨rfl, _⟩ | ⟨g, cap, cur, rfl, _, hgb, _⟩
    · simp [Value.ownBlock] at ej
    · obtain rfl : g = q := by simpa [Value.ownBlock] using ej
      rw [hgb] at hj; cases hj; rfl
  refine ⟨hA2, hI2, hI3, ⟨?_, ⟨v', hAf, ?_, fun h0 => by omega⟩, ?_⟩, ?_, ?_⟩
  · rw [Int.natCast_succ]; exact hI3.set _
  · rw [hm, List.map_append]; exact hr4
  · refine ⟨hg.os.trans (h1.os.trans h.off.os), hg.tape.trans (h1.tape.trans h.off.tape), hg.output.trans (h1.output.trans h.off.output), Nat.le_trans hsV hsz, fun q hq hn => ?_⟩
    exact (hblk q (by omega) (fun e2 => hn (.inl e2)) (fun e2 => hn (.inr e2)) (hnr q hq)).trans (h.off.block q hq hn)
  · refine ⟨hsz, fun q o hq ho hc => ?_⟩
    have hql := (Array.getElem?_eq_some_iff.1 ho).1
    refine (hblk q hql (by omega) (by omega) (fun e2 => ?_)).trans ho
    have := hcellV q o e2.symm ho
    rw [hc] at this; cases this
  · have hoV : ownA bA V = v.ownBlock := by unfold ownA; rw [hv.cell]; rfl
    have hoF : ownA bA ((V2.setCell ⟨bA, 0, none⟩ v').setCell ⟨bI, 0, none⟩ (.int .i64 ((j : Int) + 1))) = v'.ownBlock := by unfold ownA; rw [hAf.cell]; rfl
    refine ⟨hsz, fun q o h3 h4 h5 ho hc => ?_, ?_⟩
    · have hql := (Array.getElem?_eq_some_iff.1 ho).1
      exact (hblk q hql h3 h4 (fun e2 => h5 (by rw [hoV, e2]))).trans ho
    · rw [hoF, hoV]
      rcases hat with h6 | h6
      · exact .inl h6
      · exact .inr ⟨_, h6, hs1⟩
end
end Go.Proofs.Ytoaclbdlgkgnpaa

namespace Go.Proofs.Ytoaclbdlgkgnpaa
open Go.RowKit Go.Shelf
set_option maxRecDepth 100000
attribute [local go_sem] Oper.semAt_some

section
variable {te tl : TypeId} {k : IntKind} {base : Nat} {W w1 : World} {v v' u u' x : Value} {xs : List Value} {O : List (List Int)} {N b : List Int} {o : Obj}
/-- a row of a third type has grown -/
theorem Ls.far {e3 : TypeId} {n : Nat} {v3 : Value} {ys : List Value} (h : Ls te tl k base W v u xs O N) (h3 : W.ownsRow base e3 1 v3 n ys) (hne : te ≠ e3) (hne2 : tl ≠ e3) (hg : (W.alloc o).grownBy w1 v3.ownBlock) : Ls te tl k base w1 v u xs O N := by
  refine ⟨(h.out.alloc o).kept hg (own_far h.out h3 hne2), fun i b hb => ?_, (h.now.alloc o).kept hg (own_far h.now h3 hne)⟩
  obtain ⟨x, hx, A, c, rfl, hc, hcell⟩ := h.els i b hb
  refine ⟨_, hx, A, c, rfl, hc, fun hn => ?_⟩
  obtain ⟨g, cur, rfl, hbg, hh, hu, hz⟩ := hcell hn
  have hlt := (Array.getElem?_eq_some_iff.1 hh).1
  refine ⟨g, cur, rfl, hbg, ?_, hu, hz⟩
  rw [hg.block g (by rw [World.size_alloc]; omega) (fun e => ?_)]
  · exact (Below.heap_alloc W o g hlt).trans hh
  · rcases h3.2 with ⟨rfl, _⟩ | ⟨g2, cap2, cur2, rfl, _, hh2, _⟩
    · simp [Value.ownBlock] at e
    · simp only [Value.ownBlock, Option.some.injEq] at e
      subst e
      rw [hh] at hh2
      injection hh2 with hh2
      injection hh2 with _ ht
      exact hne ht
theorem Ls.renil (h : Ls te tl k base W v u xs O []) : Ls te tl k base W v (.slice none 0 0) xs O [] := by
  refine ⟨h.out, fun i b hb => ?_, World.ownsRow_nil _ _ _ _⟩
  obtain ⟨x, hx, A, c, rfl, hc, hcell⟩ := h.els i b hb
  refine ⟨_, hx, A, c, rfl, hc, fun hn => ?_⟩
  obtain ⟨g, cur, rfl, hbg, hh, _, hz⟩ := hcell hn
  exact ⟨g, cur, rfl, hbg, hh, by simp [Value.ownBlock], hz⟩
end

theorem own_slice_le {w : World} {base : Nat} {e : TypeId} {size n : Nat} {v : Value} {xs : List Value} (h : w.ownsRow base e size v n xs) : ∃ A c, v = .slice A n c ∧ n ≤ c := by
  rcases h.2 with ⟨rfl, h0⟩ | ⟨g, cap, cur, rfl, _, _, hle, _⟩
  · subst h0; exact ⟨none, 0, rfl, Nat.le_refl _⟩
  · exact ⟨_, cap, rfl, hle⟩

/-- the places, as the program's numbers -/
def plc (l : List (Nat × List Int)) : List Int := l.map fun x => (x.1 : Int)
theorem plc_append (a b : List (Nat × List Int)) : plc (a ++ b) = plc a ++ plc b := by simp [plc]
/-- what the document's Split leaves -/
def RSplit (w : World) (zs : List Int) (e : Ending) (w' : World) : Prop :=
  ∃ A1 c1 A2 c2 A3 c3, e = .returned (.tuple #[.slice A1 (Fc.segs zs).length c1, .slice A2 (Fc.segs zs).length c2, .slice A3 (Fc.opn [] zs).length c3]) ∧ (Fc.segs zs).length ≤ c1 ∧ (Fc.segs zs).length ≤ c2 ∧ (Fc.opn [] zs).length ≤ c3 ∧
    ListAt .u8 w' w'.heap.size A1 (Fc.segs zs) ∧ Nums .i64 w' w'.heap.size A2 (plc (Fc.scan 0 [] zs)) ∧ Nums .u8 w' w'.heap.size A3 (Fc.opn [] zs) ∧ Below w.heap.size w w'

/-- the elements' bytes lie in blocks of base.. -/
def ListNew (base : Nat) (w : World) (A : Option Addr) (bl : List (List Int)) : Prop :=
  ∀ (i : Nat) (b : List Int), bl[i]? = some b → ∃ (g : Nat) (Ai : Option Addr) (ci : Nat), A = some ⟨g, 0, none⟩ ∧ w.cell? ⟨g, i, none⟩ = some (.slice Ai b.length ci) ∧ NumsS .u8 w (fun k => base ≤ k ∧ k < w.heap.size) Ai b
theorem Ls.new {te tl : TypeId} {base : Nat} {W : World} {v u : Value} {xs : List Value} {O : List (List Int)} {N : List Int} (h : Ls te tl .u8 base W v u xs O N) (A : Option Addr) (c : Nat) (hv : v = .slice A O.length c) : ListNew base W A O := fun i b hi => by
  rcases h.out.2 with ⟨_, h0⟩ | ⟨g, cap, cur, e, hbg, hh, hle, _⟩
  · rw [List.eq_nil_of_length_eq_zero h0] at hi
    simp at hi
  · rw [hv] at e
    injection e with e1 e2 e3
    subst e1 e3
    obtain ⟨x, hx, A, c, rfl, hc, hcell⟩ := h.els i b hi
    have h1 := h.out.cells (g := g) (by rw [hv]; rfl) i _ hx
    rw [Addr.add_lit, Nat.zero_add] at h1
    refine ⟨g, A, c, rfl, h1, fun hn => ?_⟩
    obtain ⟨g2, cur2, rfl, hb2, hh2, _, hz⟩ := hcell hn
    refine ⟨g2, 0, rfl, ⟨hb2, (Array.getElem?_eq_some_iff.1 hh2).1⟩, fun j z hj => ?_⟩
    rw [Nat.zero_add]
    simp [World.cell?, hh2, hz j z hj]
def RSplit2 (w : World) (zs : List Int) (e : Ending) (w' : World) : Prop :=
  ∃ A1 c1 A2 c2 A3 c3, e = .returned (.tuple #[.slice A1 (Fc.segs zs).length c1, .slice A2 (Fc.segs zs).length c2, .slice A3 (Fc.opn [] zs).length c3]) ∧ (Fc.segs zs).length ≤ c1 ∧ (Fc.segs zs).length ≤ c2 ∧ (Fc.opn [] zs).length ≤ c3 ∧
    ListAt .u8 w' w'.heap.size A1 (Fc.segs zs) ∧ Nums .i64 w' w'.heap.size A2 (plc (Fc.scan 0 [] zs)) ∧ Nums .u8 w' w'.heap.size A3 (Fc.opn [] zs) ∧ Below w.heap.size w w' ∧ ListNew w.heap.size w' A1 (Fc.segs zs)
end Go.Proofs.Ytoaclbdlgkgnpaa

namespace Go.Proofs.Ytoaclbdlgkgnpaa
open Go.RowKit Go.Shelf
set_option maxRecDepth 100000

section
variable {w w' : World} {b lo : Nat} {v : Value} {p : Nat} {now : List Int}
end
/-- what a turn of the scanner changes: it, and the row that it holds -/
def ScB (b : Nat) (own : Option Nat) (k : Nat) : Prop := k = b ∨ own = some k
/-- a store into the scanner's own block -/
theorem scan_store {w : World} {b j : Nat} {cs : Array Value} {t : TypeId} {u : Value} (own : Option Nat) (_h : w.heap[b]? = some (.cells cs t (0, 0))) : Off (ScB b own) w (w.setCell ⟨b, j, none⟩ u) :=
  (Off.refl (ScB b own) w).setCell (p := ⟨b, j, none⟩) (.inl rfl) u
theorem own_setCell {w : World} {b j lo n : Nat} {e : TypeId} {v u : Value} {xs : List Value} (h : w.ownsRow lo e 1 v n xs) (hb : v.ownBlock ≠ some b) : (w.setCell ⟨b, j, none⟩ u).ownsRow lo e 1 v n xs := by
  refine ⟨h.1, ?_⟩
  rcases h.2 with h3 | ⟨g, cap, cur, rfl, hg, hh, r⟩
  · exact .inl h3
  · exact .inr ⟨g, cap, cur, rfl, hg, (Below.heap_setCell _ ⟨b, j, none⟩ _ g (fun e => hb (by rw [e]; rfl))).trans hh, r⟩
end Go.Proofs.Ytoaclbdlgkgnpaa

namespace Go.Proofs.Ytoaclbdlgkgnpaa
open Go.RowKit Go.Shelf
set_option maxRecDepth 100000

section
variable {w : World} {b lo p : Nat} {v : Value} {now : List Int}
end
end Go.Proofs.Ytoaclbdlgkgnpaa

namespace Go.Proofs.Ytoaclbdlgkgnpaa
open Go.RowKit Go.Shelf
set_option maxRecDepth 100000

/-- a segment's cells -/
def sgC (v : Value) (l : Bool) (n p : Int) : Array Value := #[v, .bool l, .int .i64 n, .int .u64 p]
theorem sg_block {W : World} {b : Nat} {v : Value} {l : Bool} {n p : Int} {t : TypeId} (h : W.heap[b]? = some (.cells (sgC v l n p) t (0, 0))) :
    W.cell? ⟨b, 0, none⟩ = some v ∧ W.cell? ⟨b, 1, none⟩ = some (.bool l) ∧ W.cell? ⟨b, 2, none⟩ = some (.int .i64 n) ∧ W.cell? ⟨b, 3, none⟩ = some (.int .u64 p) := by
  simp [World.cell?, h, sgC]
theorem sg_one (A : Option Addr) (n c : Nat) (l : Bool) (m p : Int) : (sgC (.slice A n c) l m p).all (·.oneCell') = true := by simp [sgC, Value.oneCell']
end Go.Proofs.Ytoaclbdlgkgnpaa

namespace Go.Proofs.Ytoaclbdlgkgnpaa
open Go.RowKit Go.Shelf
set_option maxRecDepth 100000
attribute [local go_sem] Oper.semAt_some

/-- the block of the row that the scanner holds now -/
def ownS (b : Nat) (W : World) : Option Nat := (W.cell? ⟨b, 2, none⟩).bind Value.ownBlock
section
variable {b lo p j : Nat} {own0 : Option Nat} {W W1 W2 : World} {v v1 : Value} {now : List Int}
end
end Go.Proofs.Ytoaclbdlgkgnpaa

namespace Go.Proofs.Ytoaclbdlgkgnpaa
open Go.RowKit Go.Shelf
set_option maxRecDepth 100000

theorem own_off {S : Nat → Prop} {w w' : World} {lo e size n : Nat} {v : Value} {xs : List Value} (h : w.ownsRow lo e size v n xs) (hf : Off S w w') (hn : ∀ g, v.ownBlock = some g → ¬ S g) : w'.ownsRow lo e size v n xs :=
  ⟨h.1, h.2.imp id fun ⟨g, cap, cur, hv, hg, hh, r⟩ => ⟨g, cap, cur, hv, hg, (hf.block g (Array.getElem?_eq_some_iff.1 hh).1 (hn g (by rw [hv]; rfl))).trans hh, r⟩⟩
theorem own_same {w w' : World} {lo e size n : Nat} {v : Value} {xs : List Value} (h : w.ownsRow lo e size v n xs) (hk : ∀ (k : Nat) (o : Obj), w.heap[k]? = some o → o.isCells = true → w'.heap[k]? = some o) : w'.ownsRow lo e size v n xs :=
  ⟨h.1, h.2.imp id fun ⟨g, cap, cur, hv, hg, hh, r⟩ => ⟨g, cap, cur, hv, hg, hk g _ hh rfl, r⟩⟩
/-- a segment's bytes lie in a block of Q that the scanner doesn't hold -/
def SgP (b : Nat) (Q : Nat → Prop) (W : World) (x : Sg) : Prop :=
  (held x.b).length ≤ x.cp ∧ (held x.b ≠ [] → ∃ g cur, x.a = some ⟨g, 0, none⟩ ∧ Q g ∧ W.heap[g]? = some (.cells cur 5 (0, 0)) ∧ ownS b W ≠ some g ∧ ∀ (j : Nat) (z : Int), (held x.b)[j]? = some z → cur[j]? = some (.int .u8 z))
theorem ownS_of_block {b : Nat} {V V' : World} (h : V'.heap[b]? = V.heap[b]?) : ownS b V' = ownS b V := by
  unfold ownS; rw [World.cell?_of_block (a := ⟨b, 2, none⟩) h]
section
variable {w1 V V' : World} {b Bo j : Nat} {Q : Nat → Prop} {own0 : Option Nat} {full : List (Nat × List Int)}
end
/-- append of structs onto a row of the call's own, inside a fence -/
theorem wpListIn_append_own_at {F : Fence} {nF : Nat} {P : Program} {w : World} {ops : Array Oper} {rest : List Oper} {o : Oper} {a : Act} {Q : Exit → Act → World → Prop} (hg : o.guard = none) (s x : Operand) (t : TypeId)
    (hop : o.op = Op.call { callee := Callee.builtin Builtin.append, args := #[s, x], argTypes := #[t, t] })
    (base : Nat) (e : TypeId) (i : TypeInfo) (z : Value) (size bytes : Nat) (ht : P.underlying t = some (.slice e)) (hi : P.info? e = some i) (hz : i.zero = some z) (hsize : i.size = size) (hby : i.bytes = bytes) (hzs : z.cells.size = size) (hsz : 0 < size)
    (v : Value) (n : Nat) (xs : List Value) (hs : a.eval s = v) (hown : w.ownsRow base e size v n xs) (ad : Addr) (m c : Nat) (news : List Value) (hx : a.eval x = .slice (some ad) m c) (hl : news.length = m * size) (hnews : ∀ j u, news[j]? = some u → w.cell? (ad.add j) = some u) (h1 : ∀ u ∈ news, u.oneCell' = true)
    (h63 : n + m ≤ maxLen) (hbytes : (n + m) * bytes ≤ 140737488355328) (hbase : base ≤ w.heap.size)
    (hK : ∀ v' w', w'.ownsRow base e size v' (n + m) (xs ++ news) → w.grownBy w' v.ownBlock → (v'.ownBlock = v.ownBlock ∨ v'.ownBlock = some w.heap.size) → wpListIn F nF P ops Q rest (a.put o.dst v') w') :
    wpListIn F nF P ops Q (o :: rest) a w := by
  refine wpListIn_plain hg fun K hK' => ?_
  obtain ⟨v', w', hrun, r1, r2, _, r4⟩ := run_append_own_at (P := P) (w := w) base t o.type e i z size bytes ht hi hz hsize hby hzs hsz v n xs hown ad m c news hl hnews h1 h63 hbytes hbase
  unfold Oper.wpIn
  refine ⟨?_, ?_⟩
  · simp [Oper.about, hop, resolve, Target.leads, Sem.run_pure]
  · rw [Oper.semAt_plain F _ _ (by rw [hop]; intro c hc'; cases hc')]
    simp [execOp, hop, resolve, invoke, builtin, hs, hx, hrun, Result.andThen]
    exact hK' _ _ (hK v' w' r1 r2 r4)
end Go.Proofs.Ytoaclbdlgkgnpaa

namespace Go.Proofs.Ytoaclbdlgkgnpaa
open Go.RowKit Go.Shelf
set_option maxRecDepth 100000

/-- the payloads lie in rows of bytes -/
def PayIn (W : World) (fs : List Fr) : Prop := ∀ f ∈ fs, f.zs.length ≤ f.cp ∧ InRow W f.a f.zs
theorem PayIn.keeps {A B : World} {fs : List Fr} (h : PayIn A fs) (k : KpT A B) : PayIn B fs := fun f hf => ⟨(h f hf).1, (h f hf).2.keeps k⟩
/-- behind j rounds: the list in the box Bl, the head in the box Bh; what was there at the loop's start (w4) lies as it lay -/
structure Fq (Bh Bl base : Nat) (v k s : Int) (zs : List Int) (r m : Nat) (w w4 : World) (j : Nat) (V : World) : Prop where
  list : ∃ u fs, Boxed V Bl 25 u ∧ V.ownsRow base 39 6 u fs.length (flatF fs) ∧ fs.length = j ∧ CutGo v k s zs r m fs ∧ PayIn V fs
  head : ∃ i, V.heap[Bh]? = some (.cells #[.int .i64 v, .int .i64 k, .int .u32 s, .int .i64 i, .int .i64 (m : Int)] 24 (0, 0))
  keep : KpT w4 V
  below : Below w.heap.size w V
section
variable {Bh Bl base r m j : Nat} {v k s : Int} {zs : List Int} {w w4 V V' : World}
theorem Fq.putObj {l : Nat} {o o' : Obj} (h : Fq Bh Bl base v k s zs r m w w4 j V) (hw : w.heap.size ≤ l) (ho : V.heap[l]? = some o) (hc : o.isCells = false) : Fq Bh Bl base v k s zs r m w w4 j (V.putObj l o') := by
  obtain ⟨u, fs, h1, h2, h3, h4, h5⟩ := h.list
  obtain ⟨i, hi⟩ := h.head
  have hne : ∀ (q : Nat) (cs : Array Value) (t : TypeId), V.heap[q]? = some (.cells cs t (0, 0)) → (V.putObj l o').heap[q]? = some (.cells cs t (0, 0)) := fun q cs t hq => (World.putObj_heap_other (fun e => by
    subst e
    rw [ho] at hq
    injection hq with hq
    rw [hq] at hc; cases hc)).trans hq
  exact ⟨⟨u, fs, hne _ _ _ h1, ownsRow_putObj h2 _ ho hc, h3, h4, h5.keeps (KpT.putObj ho hc)⟩, ⟨i, hne _ _ _ hi⟩, h.keep.trans (KpT.putObj ho hc), h.below.trans (below_put V o' hw)⟩
theorem Fq.later (h : Fq Bh Bl base v k s zs r m w w4 j V) (hB : Below V.heap.size V V') : Fq Bh Bl base v k s zs r m w w4 j V' := by
  obtain ⟨u, fs, h1, h2, h3, h4, h5⟩ := h.list
  obtain ⟨i, hi⟩ := h.head
  exact ⟨⟨u, fs, (hB.block _ h1.lt).trans h1, own_below6 h2 hB, h3, h4, h5.keeps (KpT.of_below hB)⟩, ⟨i, (hB.block _ (Array.getElem?_eq_some_iff.1 hi).1).trans hi⟩, h.keep.trans (KpT.of_below hB), h.below.trans (hB.mono h.below.size)⟩
/-- a round: the head's index is set, the list grows -/
theorem Fq.push {V4 : World} {u u' : Value} {fs : List Fr} {i j' : Int} {a : Option Addr} {cp : Nat} {P : List Int} {s0 : Nat} (hbase : w.heap.size ≤ base) (hBh : w.heap.size ≤ Bh) (hBl : w.heap.size ≤ Bl) (hj : j' = (j : Int))
    (hne : Bh ≠ Bl) (h1 : Boxed V Bl 25 u) (h2 : V.ownsRow base 39 6 u fs.length (flatF fs)) (h3 : fs.length = j) (h4 : CutGo v k s zs r m fs) (h5 : PayIn V fs)
    (hh : V.heap[Bh]? = some (.cells #[.int .i64 v, .int .i64 k, .int .u32 s, .int .i64 i, .int .i64 (m : Int)] 24 (0, 0))) (hk : KpT w4 V) (hb : Below w.heap.size w V) (hP : P = Ct.part zs r j) (hcp : P.length ≤ cp) (hin : InRow V a P)
    (hown : V4.ownsRow base 39 6 u' (fs.length + 1) (flatF fs ++ [.int .i64 v, .int .i64 k, .int .u32 s, .int .i64 j', .int .i64 (m : Int), .slice a P.length cp]))
    (hg : ((V.setCell ⟨Bh, 3, none⟩ (.int .i64 j')).alloc (.cells #[.int .i64 v, .int .i64 k, .int .u32 s, .int .i64 j', .int .i64 (m : Int), .slice a P.length cp] 39)).grownBy V4 u.ownBlock) :
    Boxed V4 Bl 25 u ∧ Fq Bh Bl base v k s zs r m w w4 (j + 1) (V4.setCell ⟨Bl, 0, none⟩ u') ∧ KeepsFrom s0 V (V4.setCell ⟨Bl, 0, none⟩ u') ∧ KpT V (V4.setCell ⟨Bl, 0, none⟩ u') := by
  subst hj hP
  have hlt := h2.lt
  have hBlt := h1.lt
  have hBht := (Array.getElem?_eq_some_iff.1 hh).1
  have hsz1 : (V.setCell ⟨Bh, 3, none⟩ (.int .i64 (j : Int))).heap.size = V.heap.size := by simp [World.setCell]
  have hsz := hg.size
  rw [World.size_alloc, hsz1] at hsz
  have hrowty : ∀ q, u.ownBlock = some q → ∃ cur, V.heap[q]? = some (.cells cur 39 (0, 0)) := fun q e => by
    rcases h2.2 with ⟨rfl, _⟩ | ⟨g, cap, cu, rfl, _, hh, _⟩
    · simp [Value.ownBlock] at e
    · simp only [Value.ownBlock, Option.some.injEq] at e
      subst e
      exact ⟨cu, hh⟩
  have hgq : ∀ q, q < V.heap.size → u.ownBlock ≠ some q → V4.heap[q]? = (V.setCell ⟨Bh, 3, none⟩ (.int .i64 (j : Int))).heap[q]? := fun q h6 h7 =>
    (hg.block q (by rw [World.size_alloc, hsz1]; omega) (fun e => h7 e.symm)).trans (Below.heap_alloc _ _ q (by rw [hsz1]; exact h6))
  have key : ∀ q, q < V.heap.size → q ≠ Bh → q ≠ Bl → u.ownBlock ≠ some q → (V4.setCell ⟨Bl, 0, none⟩ u').heap[q]? = V.heap[q]? := fun q h6 h7 h8 h9 =>
    (Below.heap_setCell V4 ⟨Bl, 0, none⟩ u' q h8).trans ((hgq q h6 h9).trans (Below.heap_setCell V ⟨Bh, 3, none⟩ _ q h7))
  have hnB : u.ownBlock ≠ some Bl := fun e => by
    obtain ⟨cur, hc⟩ := hrowty _ e
    rw [show V.heap[Bl]? = _ from h1] at hc
    injection hc with hc
    injection hc with _ ht
    exact absurd ht (by decide)
  have hnH : u.ownBlock ≠ some Bh := fun e => by
    obtain ⟨cur, hc⟩ := hrowty _ e
    rw [hh] at hc
    injection hc with hc
    injection hc with _ ht
    exact absurd ht (by decide)
  have b4 : Boxed V4 Bl 25 u := (hgq Bl hBlt hnB).trans ((Below.heap_setCell V ⟨Bh, 3, none⟩ _ Bl (fun e => hne e.symm)).trans h1)
  have hh4 : (V4.setCell ⟨Bl, 0, none⟩ u').heap[Bh]? = some (.cells #[.int .i64 v, .int .i64 k, .int .u32 s, .int .i64 (j : Int), .int .i64 (m : Int)] 24 (0, 0)) := by
    rw [Below.heap_setCell V4 ⟨Bl, 0, none⟩ u' Bh hne, hgq Bh hBht hnH, setCell_at hh]
    rfl
  have hK : KpT V (V4.setCell ⟨Bl, 0, none⟩ u') := ⟨by simp only [World.setCell, Array.size_modify]; omega, fun q cs t ht hq => (key q (Array.getElem?_eq_some_iff.1 hq).1 (fun e => by
      subst e
      rw [hh] at hq
      injection hq with hq
      injection hq with _ h6
      subst h6
      exact absurd ht (by decide)) (fun e => by
      subst e
      rw [show V.heap[q]? = _ from h1] at hq
      injection hq with hq
      injection hq with _ h6
      subst h6
      exact absurd ht (by decide)) (fun e => by
      obtain ⟨cur, hc⟩ := hrowty _ e
      rw [hc] at hq
      injection hq with hq
      injection hq with _ h6
      subst h6
      exact absurd ht (by decide))).trans hq⟩
  refine ⟨b4, ⟨⟨u', fs ++ [⟨v, k, s, (j : Int), (m : Int), a, cp, Ct.part zs r j⟩], b4.set u', ?_, by rw [List.length_append, h3]; rfl, ?_, fun f hf => ?_⟩, ⟨_, hh4⟩, hk.trans hK, ?_⟩, ⟨hK.size, fun q o _ ho hc => (key q (Array.getElem?_eq_some_iff.1 ho).1 (fun e => by
      subst e
      rw [hh] at ho
      injection ho with ho
      subst ho
      cases hc) (fun e => by
      subst e
      rw [show V.heap[q]? = _ from h1] at ho
      injection ho with ho
      subst ho
      cases hc) (fun e => by
      obtain ⟨cur, h6⟩ := hrowty _ e
      rw [h6] at ho
      injection ho with ho
      subst ho
      cases hc)).trans ho⟩, hK⟩
  · rw [List.length_append, List.length_singleton, flatF_push]
    have h6 : (V4.setCell ⟨Bl, 0, none⟩ u').ownsRow base 39 6 u' (fs.length + 1) (flatF fs ++ [.int .i64 v, .int .i64 k, .int .u32 s, .int .i64 (j : Int), .int .i64 (m : Int), .slice a (Ct.part zs r j).length cp]) :=
      ⟨hown.1, hown.2.imp id fun ⟨g, cap, cur, hv, hge, hh', r'⟩ => ⟨g, cap, cur, hv, hge, (Below.heap_setCell V4 ⟨Bl, 0, none⟩ u' g (fun e => by
        subst e
        rw [show V4.heap[g]? = _ from b4] at hh'
        injection hh' with hh'
        injection hh' with _ ht
        exact absurd ht (by decide))).trans hh', r'⟩⟩
    exact h6
  · have := h4.push a cp
    rw [h3] at this
    exact this
  · rcases List.mem_append.1 hf with hf | hf
    · exact ⟨(h5 f hf).1, (h5 f hf).2.keeps hK⟩
    · obtain rfl : f = ⟨v, k, s, (j : Int), (m : Int), a, cp, Ct.part zs r j⟩ := by simpa using hf
      exact ⟨hcp, hin.keeps hK⟩
  · have hbs := hb.size
    refine ⟨?_, ?_, ?_, by have := hK.size; omega, fun q hq => ?_⟩
    · exact hg.os.trans hb.os
    · exact hg.tape.trans hb.tape
    · exact hg.output.trans hb.output
    · exact (key q (by omega) (by omega) (by omega) (fun e => by have := (hlt q e).1; omega)).trans (hb.block q hq)
end
end Go.Proofs.Ytoaclbdlgkgnpaa

namespace Go.Proofs.Ytoaclbdlgkgnpaa
open Go.RowKit Go.Shelf
set_option maxRecDepth 100000
attribute [local go_sem] Oper.semAt_some

theorem fzInfo : (Try.prog.info? 39).map (fun i => (i.zero, i.size, i.bytes)) = some (some (.agg #[.int .i64 0, .int .i64 0, .int .u32 0, .int .i64 0, .int .i64 0, .slice none 0 0]), 6, 64) := by kernel_rfl
theorem own_slC {W : World} {base e size n : Nat} {v : Value} {xs : List Value} (h : W.ownsRow base e size v n xs) : ∃ A c, v = .slice A n c ∧ n ≤ c := by
  rcases h.2 with ⟨rfl, rfl⟩ | ⟨g, cap, cur, rfl, _, _, hle, _⟩
  · exact ⟨none, 0, rfl, Nat.le_refl _⟩
  · exact ⟨_, cap, rfl, hle⟩
theorem cells_newC {W : World} {cs : List Value} (t : TypeId) (j : Nat) (u : Value) (h : cs[j]? = some u) : (W.alloc (.cells cs.toArray t)).cell? ((⟨W.heap.size, 0, none⟩ : Addr).add j) = some u := by
  rw [Addr.add_lit, Nat.zero_add, World.cell?_alloc_at _ _ _ _ rfl]
  simpa using h
theorem make_frames (n : Nat) (hn : n ≤ 1000000) : ∃ cs : Array Value, cs.size = n * 6 ∧ ∀ W, (Instr.makeSlice 25 (.int .i64 0) (.int .i64 (n : Int))).run Try.prog W = .ok (.slice (some ⟨W.heap.size, 0, none⟩) 0 n) (W.alloc (.cells cs 39)) := by
  obtain ⟨j0, hj, hj0, hj1, hj2⟩ := info_parts fzInfo
  refine ⟨madeCells (Value.agg #[.int .i64 0, .int .i64 0, .int .u32 0, .int .i64 0, .int .i64 0, .slice none 0 0]).cells (n * j0.size), by rw [size_madeCells, hj1], fun W => ?_⟩
  have h := run_make (P := Try.prog) W 25 39 j0 _ Try.underlying25 hj hj0 .i64 .i64 0 (n : Int) (by omega) (by omega) (by rw [hj2]; omega) (by omega)
  simpa using h

set_option maxHeartbeats 8000000 in
theorem frames_cut (v k s i c : Int) (hs : 0 ≤ s ∧ s ≤ 4294967295) (a : Option Addr) (n cp r : Nat) (zs : List Int) (w : World) (hn : zs.length = n) (h0 : 1 ≤ n) (hn2 : n ≤ 192) (hr1 : 1 ≤ r) (hr2 : r ≤ 242) (hz : Bytes zs) (h1 : Nums .u8 w w.heap.size a zs) (hE : chk v k 0 (Ct.cnt n r : Int) = 0) :
    Calls Try.prog 16 #[hdV v k s i c, .slice a n cp, .int .i64 (r : Int)] w (FramesR w v k s zs (r : Int)) := by
  obtain ⟨z0, hf, hz0, hz1, hz2⟩ := info_parts fzInfo
  obtain ⟨m, hm⟩ : ∃ m, Ct.cnt n r = m := ⟨_, rfl⟩
  rw [hm] at hE
  have hm1 : 1 ≤ m := by rw [← hm]; exact Ct.cnt_pos hr1 h0
  have hmn : m ≤ n := by rw [← hm]; exact Ct.cnt_le hr1
  have hfe : Ct.fErr v k zs.length (r : Int) = 0 := by unfold Ct.fErr; rw [if_neg (by omega), if_neg (by omega), if_neg (by omega), Int.toNat_natCast, hn, hm]; exact hE
  have HGood := Lib.hid (fun (W : World) (base t : Nat) (u : Value) (fs : List Fr) => FramesR.good (w := w) (W := W) (v := v) (k := k) (s := s) (room := (r : Int)) (zs := zs) (base := base) (t := t) (u := u) (fs := fs) (m := m) hfe (by rw [Int.toNat_natCast, hn, hm]))
  rw [Int.toNat_natCast] at HGood
  have KN : ∀ W, Calls Try.prog 32 #[.int .i64 (n : Int), .int .i64 (r : Int)] W fun e w' => e = .returned (.int .i64 (m : Int)) ∧ w' = W := fun W => by
    have h := ccount_any n (r : Int) (by omega) (by omega) W
    have e1 : cntZ n (r : Int) = (m : Int) := by unfold cntZ; rw [if_neg (by omega), if_neg (by omega), Int.toNat_natCast, hm]
    rwa [e1] at h
  have KC := fun W => check_any v k s 0 (m : Int) W
  rw [hE] at KC
  unfold hdV at KC
  obtain ⟨cs0, hcs, hmk⟩ := make_frames m (by omega)
  have h2 : ¬ (n : Int) = 0 := by omega
  have h3 : ¬ 192 < (n : Int) := by omega
  have h4 : ¬ (r : Int) < 1 := by omega
  have h5 : ¬ 242 < (r : Int) := by omega
  have HM := Lib.hid hm
  have HN := Lib.hid hn
  have HZ := Lib.hid hz
  have H1 := Lib.hid h1
  have HCS := Lib.hid hcs
  clear hfe hm hE hz h1 hcs
  generalize FramesR w v k s zs (r : Int) = G at *
  unfold hdV
  refine (callsIn_wide (n := 3)).1 ?_
  refine callsIn_of_wp_marks Try.func16 rfl trivial ?_ rfl
  simp only [Try.ntmps16, List.size_toArray, List.length_cons, List.length_nil, Nat.reduceAdd, Nat.reduceSub, Array.replicate_succ, Array.replicate_zero, List.push_toArray, List.append_toArray, List.nil_append, List.cons_append]
  gi_wp2_with fail
  refine ⟨trivial, ?_⟩
  refine (callsIn_wide.2 (KN _)).mono ?_
  rintro e w1 ⟨rfl, rfl⟩
  gi_wp2_with fail
  refine ⟨trivial, ?_⟩
  refine (callsIn_wide.2 (KC _)).mono ?_
  rintro e w2 ⟨rfl, hb⟩
  obtain ⟨d0, d1, d2, d3, d4⟩ := hd_cells hb
  have hh2 : w2.heap[w.heap.size]? = some (.cells #[.int .i64 v, .int .i64 k, .int .u32 s, .int .i64 0, .int .i64 (m : Int)] 24 (0, 0)) := (hb.block _ (by simp)).trans (World.alloc_heap_new _ _)
  rw [World.size_alloc] at hb
  have hb2 : Below w.heap.size w w2 := ((Below.refl _ w).alloc (Nat.le_refl _) _).trans (hb.mono (by omega))
  have hs2 : w.heap.size + 1 ≤ w2.heap.size := by have := hb.size; rwa [World.size_alloc] at this
  have HH2 := Lib.hid hh2
  have HB2 := Lib.hid hb2
  clear hb hh2 hb2
  gi_wp2_with fail
  refine ⟨trivial, ?_⟩
  obtain ⟨w3, hw3⟩ : ∃ w3, (w2.alloc (.cells cs0 39)).alloc (.cells #[.slice (some ⟨w2.heap.size, 0, none⟩) 0 m] 25) = w3 := ⟨_, rfl⟩
  have hs3 : w3.heap.size = w2.heap.size + 2 := by rw [← hw3]; simp
  have hb23 : Below w2.heap.size w2 w3 := by rw [← hw3]; exact ((Below.refl _ w2).alloc (Nat.le_refl _) _).alloc (by simp) _
  have hbl3 : Boxed w3 (w2.heap.size + 1) 25 (.slice (some ⟨w2.heap.size, 0, none⟩) 0 m) := by
    rw [← hw3]
    have := Boxed.new (w2.alloc (.cells cs0 39)) 25 (.slice (some ⟨w2.heap.size, 0, none⟩) 0 m)
    rwa [World.size_alloc] at this
  have hrow3 : w3.ownsRow w2.heap.size 39 6 (.slice (some ⟨w2.heap.size, 0, none⟩) 0 m) 0 [] := by
    rw [← hw3]
    exact (World.ownsRow_made w2 cs0 m (Nat.le_refl _) (by unfold maxLen; omega) HCS.out).alloc _
  have hh3 := (hb23.block _ (by omega)).trans HH2.out
  have hb3 := HB2.out.trans (hb23.mono HB2.out.size)
  have KP := cparts_any a n cp r zs w3 HN.out (by omega) hr1 ((H1.out.below hb3).mono hb3.size)
  rw [hw3]
  refine (callsIn_wide.2 KP).mono ?_
  rintro e w4 ⟨Bo, Br, A1, k1, rfl, HP⟩
  have hb34 := HP.below
  have hs4 := hb34.size
  have hF0 : Fq w.heap.size (w2.heap.size + 1) w2.heap.size v k s zs r m w w4 0 w4 := ⟨⟨_, [], (hb34.block _ (by omega)).trans hbl3, own_below6 hrow3 hb34, rfl, fun j f hf => by simp at hf, fun f hf => by simp at hf⟩, ⟨0, (hb34.block _ (by omega)).trans hh3⟩, KpT.refl _, hb3.trans (hb34.mono hb3.size)⟩
  have HF0 := Lib.hid hF0
  have hws : w.heap.size ≤ w4.heap.size := by omega
  clear KP KN KC hw3 hbl3 hrow3 hh3 hb3 hb23 hmk d0 d1 d2 d3 d4 hb34 hF0 HH2
  gi_wp2_with fail
  refine range_stops rfl (by omega) (gf := 40) (lb := #[.pointer (some ⟨Bo, 0, none⟩), .pointer (some ⟨Br, 0, none⟩)]) rfl trivial (enters_of Try.func40 (by kernel_rfl) rfl)
    (fun x : Nat × Option Addr × List Int => #[Value.int .i64 (x.1 : Int), Value.slice x.2.1 x.2.2.length x.2.2.length]) (fun _ => rfl)
    (fun j x V => Fq w.heap.size (w2.heap.size + 1) w2.heap.size v k s zs r m w w4 j V ∧ x.1 = j ∧ x.2.2 = Ct.part zs r j ∧ InRow V x.2.1 x.2.2)
    (fun j V => Fq w.heap.size (w2.heap.size + 1) w2.heap.size v k s zs r m w w4 j V) (fun _ _ => False) KpT m
    (fun j x V l o o' h hl ho hc' => ⟨h.1.putObj (by omega) ho hc', h.2.1, h.2.2.1, h.2.2.2.keeps (KpT.putObj ho hc')⟩)
    (fun j V l o o' h hl ho hc' => h.putObj (by omega) ho hc')
    (fun _ _ _ _ _ h _ _ _ => h)
    (fun _ _ _ h k => h.trans k) (fun V l o o' hl ho hc' => KpT.putObj ho hc')
    (fun o => HF0.out.later (((Below.refl w4.heap.size w4).alloc (Nat.le_refl _) _).alloc (by simp) _))
    ?a1 ?assign ?body ?iter ?done ?stop
  case assign =>
    intro l x V K hK
    gi_wp2
    exact hK
  case body =>
    rintro l j ⟨xi, xa, xz⟩ V hl ⟨hFq, hxi, hxz, hin⟩ hj
    simp only at hxi hxz hin
    subst hxi
    obtain ⟨u, fs, h1, h2, h3, h4, h5⟩ := hFq.list
    obtain ⟨i0, hh⟩ := hFq.head
    obtain ⟨e0, e1, e2, e3, e4⟩ := hd_block hh
    have HPU : Hid (∀ (V4 : World) (u' : Value), V4.ownsRow w2.heap.size 39 6 u' (fs.length + 1) (flatF fs ++ [.int .i64 v, .int .i64 k, .int .u32 s, .int .i64 (xi : Int), .int .i64 (m : Int), .slice xa xz.length xz.length]) →
        ((V.setCell ⟨w.heap.size, 3, none⟩ (.int .i64 (xi : Int))).alloc (.cells #[.int .i64 v, .int .i64 k, .int .u32 s, .int .i64 (xi : Int), .int .i64 (m : Int), .slice xa xz.length xz.length] 39)).grownBy V4 u.ownBlock → _) := fun V4 u' hown hg =>
      Fq.push (s0 := w4.heap.size) (w := w) (w4 := w4) (by omega) (Nat.le_refl _) (by omega) rfl (by omega) h1 h2 h3 h4 h5 hh hFq.keep hFq.below hxz (Nat.le_refl _) hin hown hg
    have hh1 := setCell_at (j := 3) (u := .int .i64 (xi : Int)) hh
    simp only [List.setIfInBounds_toArray, List.set_cons_succ, List.set_cons_zero] at hh1
    obtain ⟨p0, p1, p2, p3, p4⟩ := hd_block hh1
    have fH : V.frozen? ⟨w.heap.size, 3, none⟩ = false := by simp [World.frozen?, hh]
    obtain ⟨Av, cv, rfl, hcv⟩ := own_slC h2
    have hL1 : Boxed (V.setCell ⟨w.heap.size, 3, none⟩ (.int .i64 (xi : Int))) (w2.heap.size + 1) 25 (.slice Av fs.length cv) := (Below.heap_setCell V ⟨w.heap.size, 3, none⟩ _ _ (by simp only; omega)).trans h1
    have kL1 := hL1.cell
    have hrow1 : (V.setCell ⟨w.heap.size, 3, none⟩ (.int .i64 (xi : Int))).ownsRow w2.heap.size 39 6 (.slice Av fs.length cv) fs.length (flatF fs) := ⟨h2.1, h2.2.imp id fun ⟨g, cap, cur, hv, hge, hh', r'⟩ => ⟨g, cap, cur, hv, hge, (Below.heap_setCell V ⟨w.heap.size, 3, none⟩ _ g (by simp only; omega)).trans hh', r'⟩⟩
    have hsz1 : (V.setCell ⟨w.heap.size, 3, none⟩ (.int .i64 (xi : Int))).heap.size = V.heap.size := by simp [World.setCell]
    have HROW := Lib.hid (hrow1.alloc (.cells #[.int .i64 v, .int .i64 k, .int .u32 s, .int .i64 (xi : Int), .int .i64 (m : Int), .slice xa xz.length xz.length] 39))
    have hVl := h1.lt
    have hX1 : fs.length + 1 ≤ maxLen := by unfold maxLen; omega
    have hX2 : (fs.length + 1) * 64 ≤ 140737488355328 := by omega
    have HX1 := Lib.hid hX1
    have HX2 := Lib.hid hX2
    have HX3 : Hid (w2.heap.size ≤ ((V.setCell ⟨w.heap.size, 3, none⟩ (.int .i64 (xi : Int))).alloc (.cells #[.int .i64 v, .int .i64 k, .int .u32 s, .int .i64 (xi : Int), .int .i64 (m : Int), .slice xa xz.length xz.length] 39)).heap.size) := by show _ ≤ _; rw [World.size_alloc, hsz1]; omega
    have HNW : Hid (∀ (q : Nat) (x : Value), [Value.int .i64 v, .int .i64 k, .int .u32 s, .int .i64 (xi : Int), .int .i64 (m : Int), .slice xa xz.length xz.length][q]? = some x → ((V.setCell ⟨w.heap.size, 3, none⟩ (.int .i64 (xi : Int))).alloc (.cells #[.int .i64 v, .int .i64 k, .int .u32 s, .int .i64 (xi : Int), .int .i64 (m : Int), .slice xa xz.length xz.length] 39)).cell? ((⟨V.heap.size, 0, none⟩ : Addr).add q) = some x) := fun q x hq => by
      have := cells_newC (W := V.setCell ⟨w.heap.size, 3, none⟩ (.int .i64 (xi : Int))) 39 q x hq
      rwa [hsz1] at this
    have HS1 := Lib.hid hsz1
    have HL3 := Lib.hid h3
    clear hFq hin h1 h2 h3 h4 h5 hh hh1 hL1 hrow1 hsz1 hcv hX1 hX2 hxz
    gi_wp2_with (gi_at_builtin; refine wpListIn_append_own_at rfl (.tmp 46) (.tmp 50) 25 rfl w2.heap.size 39 z0 _ 6 64 Try.underlying25 hf hz0 hz1 hz2 rfl (by decide) _ fs.length (flatF fs) rfl HROW.out ⟨V.heap.size, 0, none⟩ 1 1 [Value.int .i64 v, .int .i64 k, .int .u32 s, .int .i64 (xi : Int), .int .i64 (m : Int), .slice xa xz.length xz.length] rfl rfl HNW.out (by simp [Value.oneCell']) HX1.out HX2.out HX3.out ?_)
    intro u' V4 hown hg _
    obtain ⟨b4, f1, f2, f3⟩ := HPU.out V4 u' hown hg
    obtain ⟨A4, c4, rfl, hc4⟩ := own_slC hown
    have kB4 := b4.cell
    have fB4 := b4.frozen
    have hL3 := HL3.out
    have HF := Lib.hid (And.intro f2 (And.intro f1 f3))
    clear HPU f1 f2 f3 b4 hown hg hL3
    gi_wp2_with fail
    exact HF.out
  case iter =>
    intro Bk X l V hBk hBlt hX hl2 hD hB hY
    have hbo := hD.keep.same _ _ _ (.inr (.inr rfl)) HP.boxO
    have hbr : Boxed V Br 3 (.int .i64 (r : Int)) := hD.keep.same _ _ _ (.inr (.inl rfl)) HP.boxR
    have hbo' : Boxed V Bo 37 (.slice A1 n k1) := hbo
    refine (cparts_in 2 (by omega) 1 l Bo Br n k1 r w4.heap.size A1 zs HN.out h0 (by omega) hr1 (by omega) (fun j V => Fq w.heap.size (w2.heap.size + 1) w2.heap.size v k s zs r m w w4 j V) Bk X KpT
      (fun A B hA hAB => ?_) hBk hBlt (fun A B h => h) (fun j A' W1 hj hjm hin hb => ?_) V hbo'.cell hbr ((HP.nums.keeps hD.keep).nums) hD hB).mono ?_
    · exact hA.later hAB
    · rw [HM.out] at hjm
      exact hY j (j, A', Ct.part zs r j) W1 ⟨hj, rfl, rfl, hin⟩ hb hjm
    · rintro e V2 ⟨hv, h⟩
      rw [HM.out] at h
      exact ⟨hv, h⟩
  case done =>
    rintro D V hD hFq hK
    obtain ⟨u, fs, h1, h2, h3, h4, h5⟩ := hFq.list
    have kL := h1.cell
    have hFq2 := hFq.putObj (o' := .deferred none) (by omega : w.heap.size ≤ D) hK rfl
    have HFin : Hid (G (Ending.returned (.tuple #[u, .int .i64 0])) (V.putObj D (.deferred none))) := HGood.out _ w2.heap.size 39 u fs h3 h4 (fun f hf => by
      obtain ⟨q1, q2⟩ := h5 f hf
      obtain ⟨j, hj⟩ := List.mem_iff_getElem?.1 hf
      obtain ⟨_, _, e3, _, _, e6⟩ := h4 j f hj
      have hle := Ct.part_len zs r j
      rw [← e6] at hle
      exact ⟨by rw [e3]; exact hs.1, by rw [e3]; exact hs.2, q1, by omega, fun z hz => by
        rw [e6] at hz
        exact HZ.out z (Ct.part_mem hz), (q2.keeps (KpT.putObj hK rfl)).nums⟩) (ownsRow_putObj h2 _ hK rfl) hFq2.below
    clear hFq hFq2 h1 h2 h3 h4 h5
    gi_wp2
    refine ⟨by simp, .inl ⟨_, _, rfl, run_takeDeferred hK, ?_⟩⟩
    refine ⟨_, results_tmp2 rfl _ _ _, ?_⟩
    exact HFin.out
  case stop =>
    rintro D cd W' _ h _
    exact h.elim

/-- Frames, of any head, body and room -/
theorem frames_any12 (v k s i c : Int) (hs : 0 ≤ s ∧ s ≤ 4294967295) (a : Option Addr) (n cp : Nat) (room : Int) (zs : List Int) (w : World) (hn : zs.length = n) (hz : Bytes zs) (h1 : Nums .u8 w w.heap.size a zs) :
    Calls Try.prog 16 #[hdV v k s i c, .slice a n cp, .int .i64 room] w (FramesR w v k s zs room) := by
  by_cases h0 : n = 0
  · subst h0
    obtain rfl : zs = [] := List.eq_nil_of_length_eq_zero hn
    exact frames_short v k s i c a cp room w
  · by_cases h2 : 192 < n
    · exact frames_long v k s i c a n cp zs room w hn h2
    · by_cases h3 : room < 1 ∨ 242 < room
      · exact frames_range v k s i c a n cp zs room w hn (by omega) (by omega) h3
      · obtain ⟨r, rfl⟩ := Int.eq_ofNat_of_zero_le (a := room) (by omega)
        by_cases h4 : chk v k 0 (Ct.cnt n r : Int) = 0
        · exact frames_cut v k s i c hs a n cp r zs w hn (by omega) (by omega) (by omega) (by omega) hz h1 h4
        · exact frames_chk v k s i c a n cp r zs w hn (by omega) (by omega) (by omega) (by omega) h4
end Go.Proofs.Ytoaclbdlgkgnpaa

namespace Go.Proofs.Ytoaclbdlgkgnpaa
open Go.RowKit Go.Shelf
set_option maxRecDepth 100000
attribute [local go_sem] Oper.semAt_some

theorem room_of13 (x : Int) : ∃ r : Nat, wrap64 (1 + wrap64 ((IntKind.u64.wrap x).tmod 242)) = (r : Int) ∧ 1 ≤ r ∧ r ≤ 242 := by
  have h0 : 0 ≤ IntKind.u64.wrap x := by rw [IntKind.wrap_u64]; omega
  have h1 := Int.tmod_nonneg 242 h0
  have h2 := Int.tmod_lt_of_pos (IntKind.u64.wrap x) (show (0 : Int) < 242 by omega)
  refine ⟨(1 + (IntKind.u64.wrap x).tmod 242).toNat, ?_, by omega, by omega⟩
  unfold wrap64; omega
theorem box_load13 {w W : World} {v k s i c : Int} {t : TypeId} (hb : Below (w.alloc (.cells #[.int .i64 v, .int .i64 k, .int .u32 s, .int .i64 i, .int .i64 c] t)).heap.size (w.alloc (.cells #[.int .i64 v, .int .i64 k, .int .u32 s, .int .i64 i, .int .i64 c] t)) W) :
    W.cell? ⟨w.heap.size, 0, none⟩ = some (.int .i64 v) ∧ W.cell? ⟨w.heap.size, 1, none⟩ = some (.int .i64 k) ∧ W.cell? ⟨w.heap.size, 2, none⟩ = some (.int .u32 s) ∧ W.cell? ⟨w.heap.size, 3, none⟩ = some (.int .i64 i) ∧ W.cell? ⟨w.heap.size, 4, none⟩ = some (.int .i64 c) := by
  have h : W.heap[w.heap.size]? = some (.cells #[.int .i64 v, .int .i64 k, .int .u32 s, .int .i64 i, .int .i64 c] t (0, 0)) := (hb.block _ (by simp)).trans (World.alloc_heap_new _ _)
  refine ⟨?_, ?_, ?_, ?_, ?_⟩ <;> simp [World.cell?, h]
/-- what may be wrong with a cut by a room that may be -/
theorem fErr_roomy {v k : Int} {n r : Nat} (hn : n ≤ 192) (hr : 1 ≤ r ∧ r ≤ 242) (h : Ct.fErr v k n (r : Int) ≠ 0) : n = 0 ∨ Ct.fErr v k n (r : Int) = 10 ∨ Ct.fErr v k n (r : Int) = 9 := by
  by_cases h0 : n = 0
  · exact .inl h0
  · right
    have h1 := Ct.cnt_pos hr.1 (by omega : 1 ≤ n)
    have h3 := Ct.cnt_le (n := n) hr.1
    unfold Ct.fErr at h ⊢
    rw [if_neg h0, if_neg (by omega), if_neg (by omega), Int.toNat_natCast] at h ⊢
    unfold chk at h ⊢
    rw [if_neg (by omega : ¬ ((Ct.cnt n r : Int) < 1 ∨ 255 < (Ct.cnt n r : Int) ∨ (0 : Int) < 0 ∨ (Ct.cnt n r : Int) ≤ 0))] at h ⊢
    split
    · simp
    · rename_i h5
      rw [if_neg h5] at h
      split
      · simp
      · rename_i h6
        rw [if_neg h6] at h
        exact absurd rfl h

set_option maxHeartbeats 8000000 in
theorem sorder_go (v k s i c : Int) (hs : 0 ≤ s ∧ s ≤ 4294967295) (a : Option Addr) (n m cp : Nat) (es : List Int) (x : Int) (ao : Option Addr) (no co : Nat) (os : List Int) (w : World) (hn : es.length = n) (hc : n ≤ cp) (hz : Bytes es) (h1 : Nums .u8 w w.heap.size a es)
    (hm : min (n : Int) 192 = (m : Int)) (hmn : m ≤ n) (hm2 : m ≤ 192) (hno : os.length = no) (hoc : no ≤ co) (h2 : Nums .i64 w w.heap.size ao os) :
    Calls Try.prog 4 #[hdV v k s i c, .slice a n cp, .int .i64 x, .slice ao no co] w fun e w' => e = .returned (.bool true) ∧ Below w.heap.size w w' := by
  have hmc : (m : Int) ≤ (cp : Int) := by omega
  have hocz : (no : Int) ≤ (co : Int) := by omega
  have hlen : (es.take m).length = m := by rw [List.length_take]; omega
  have hzb := hz.take m
  have hnum := h1.take m
  generalize es.take m = bs at *
  clear hz h1 hn
  obtain ⟨w0, hw0⟩ : ∃ w0, w.alloc (.cells #[.int .i64 v, .int .i64 k, .int .u32 s, .int .i64 i, .int .i64 c] 24) = w0 := ⟨_, rfl⟩
  have hb0 : Below w.heap.size w w0 := by rw [← hw0]; exact (Below.refl _ w).alloc (Nat.le_refl _) _
  have hbox : ∀ W, Below w0.heap.size w0 W → W.cell? ⟨w.heap.size, 0, none⟩ = some (.int .i64 v) ∧ W.cell? ⟨w.heap.size, 1, none⟩ = some (.int .i64 k) ∧ W.cell? ⟨w.heap.size, 2, none⟩ = some (.int .u32 s) ∧ W.cell? ⟨w.heap.size, 3, none⟩ = some (.int .i64 i) ∧ W.cell? ⟨w.heap.size, 4, none⟩ = some (.int .i64 c) := by
    intro W hW
    rw [← hw0] at hW
    exact box_load13 hW
  have HKN := Lib.hid (fun W => sknown_any W)
  have HW0 := Lib.hid hw0
  have HB0 := Lib.hid hb0
  have HBOX := Lib.hid hbox
  have HZ := Lib.hid hzb
  have HL := Lib.hid hlen
  have HNM := Lib.hid hnum
  have HS := Lib.hid hs
  have HOS := Lib.hid h2
  have HNO := Lib.hid hno
  clear hw0 hb0 hbox hzb hlen hnum hs h2 hno
  unfold hdV
  obtain ⟨X, hX, hX1, hX2⟩ := room_of13 x
  have HX := Lib.hid hX
  have HFE := Lib.hid (fErr_roomy (v := v) (k := k) hm2 ⟨hX1, hX2⟩)
  have KF := frames_any12 v k s i c HS.out a m cp (X : Int) bs w0 HL.out HZ.out ((HNM.out.below HB0.out).mono HB0.out.size)
  unfold hdV at KF
  clear hX
  go_enter Try.func4, Try.ntmps4
  go_wp2_with fail
  rw [HW0.out]
  obtain ⟨d0, d1, d2, d3, d4⟩ := HBOX.out w0 (Below.refl _ _)
  go_wp2_with fail
  rw [HX.out]
  refine KF.mono ?_
  rintro e w1 ⟨hb1, ⟨hE, rfl⟩ | ⟨hE, A, c1, fs, rfl, hc1, hcut, hat⟩⟩
  · have HB1 := Lib.hid (HB0.out.trans (hb1.mono HB0.out.size))
    rw [HL.out] at hE ⊢
    have hfe := HFE.out hE
    generalize Ct.fErr v k m (X : Int) = E at *
    have hne0 : (E != 0) = true := by simpa using hE
    clear KF hb1 d0 d1 d2 d3 d4
    by_cases hm0 : m = 0
    · have e0 : ((m : Int) == 0) = true := by rw [hm0]; rfl
      clear hm0 hfe
      go_wp2_with fail
      refine (HKN.out w1).mono ?_
      rintro e w4 ⟨rfl, hb4⟩
      have HB4 := Lib.hid (HB1.out.trans (hb4.mono HB1.out.size))
      clear hb4
      go_wp2
      go_ret
      exact ⟨rfl, HB4.out⟩
    · have e0 : ((m : Int) == 0) = false := by simpa using hm0
      rcases hfe with h | h | h
      · exact absurd h hm0
      · subst h
        clear hm0
        go_wp2_with fail
        refine (HKN.out w1).mono ?_
        rintro e w4 ⟨rfl, hb4⟩
        have HB4 := Lib.hid (HB1.out.trans (hb4.mono HB1.out.size))
        clear hb4
        go_wp2
        go_ret
        exact ⟨rfl, HB4.out⟩
      · subst h
        clear hm0
        go_wp2_with fail
        refine (HKN.out w1).mono ?_
        rintro e w4 ⟨rfl, hb4⟩
        have HB4 := Lib.hid (HB1.out.trans (hb4.mono HB1.out.size))
        clear hb4
        go_wp2
        go_ret
        exact ⟨rfl, HB4.out⟩
  · have HB1 := Lib.hid (HB0.out.trans (hb1.mono HB0.out.size))
    rw [HL.out] at hE
    obtain ⟨hE0, _, _, _, hck⟩ := Ct.fErr_zero hE
    rw [Int.toNat_natCast] at hck hcut
    have hfl := hcut.len
    rw [HL.out] at hfl
    have hcm := Ct.cnt_le (n := m) (r := X) hX1
    have hcp := Ct.cnt_pos (n := m) (r := X) hX1 hE0
    rw [← hfl] at hck hcm hcp
    obtain ⟨f0, hf0⟩ : ∃ f, fs[0]? = some f := ⟨_, List.getElem?_eq_getElem (by omega)⟩
    obtain ⟨g, off, rfl, hg, a0, a1, a2, a3, a4, a5⟩ := hat.six hf0
    obtain ⟨z1, z2, z3, z4, z5, _⟩ := hcut.at' 0 f0 hf0
    rw [HL.out, ← hfl] at z5
    rw [z1] at a0
    rw [z2] at a1
    rw [z3] at a2
    rw [z4] at a3
    rw [z5] at a4
    simp only [Nat.zero_mul, Nat.add_zero, Int.ofNat_zero] at a0 a1 a2 a3 a4 a5
    have KNW := snew_any13 v k s 0 (fs.length : Int) HS.out w1
    obtain ⟨q, hq⟩ : ∃ q, fs.length = q := ⟨_, rfl⟩
    have hq0 : ((q : Int) == 0) = false := by simp; omega
    have hqp : 0 < q := by omega
    rw [hq] at hc1 hck hcm hcp a4 KNW ⊢
    have hqc : (q : Int) ≤ (c1 : Int) := by omega
    have HQ := Lib.hid hq
    have HCUT := Lib.hid hcut
    have HAT := Lib.hid hat
    have HCK := Lib.hid hck
    clear KF hE hcut hat hq hfl hck hf0 z1 z2 z3 z4 z5 a5 hb1 d0 d1 d2 d3 d4
    unfold hdV at KNW
    go_wp2_with fail
    refine KNW.mono ?_
    rintro e w2 (⟨h0, _⟩ | ⟨h0, b, mm, rfl, hsl, hb2, hbl, hml, hbm⟩)
    · exact absurd HCK.out h0
    · have hmk := make_come q (by omega)
      obtain ⟨w3, hw3⟩ : ∃ w3, w2.alloc (.cells (madeCells #[Value.bool false] q) 4) = w3 := ⟨_, rfl⟩
      have hb23 : Below w2.heap.size w2 w3 := by rw [← hw3]; exact (Below.refl _ w2).alloc (Nat.le_refl _) _
      obtain ⟨gc, hgc⟩ : ∃ gc, w2.heap.size = gc := ⟨_, rfl⟩
      have hrow : RowB w3 gc (List.replicate q false) := by rw [← hw3, ← hgc]; exact come_row w2 q
      have hb3 := hb2.trans (hb23.mono hb2.size)
      have hs12 := hb2.size
      have HO0 : Hid (OO w3 w1 b mm gc v k s fs [] (List.replicate q false)) := Lib.hid ⟨⟨[], by rw [HQ.out]; exact hsl.below hb23, rfl⟩, by simp, by simp, by simp [HQ.out], hrow, ⟨hbl, hml, by omega⟩, hb3⟩
      have HC0 : Hid (Come [] (List.replicate q false)) := Lib.hid (Come.start q)
      have HW3 := Lib.hid hw3
      have hq255 : q ≤ 192 := by omega
      clear hsl hb2 hb23 hrow hb3 hs12 hw3 KNW h0 a0 a1 a2 a3 a4
      go_wp2_with fail
      rw [HW3.out]
      go_loopw [14, 15] (fun nv iv wr => ∃ (j : Nat) (ks : List Nat) (S : List Bool), iv = .int .i64 (j : Int) ∧ nv = .int .i64 (ks.length : Int) ∧ j ≤ 300 + ks.length ∧ Hid (OO wr w1 b mm gc v k s fs ks S) ∧ Hid (Come ks S)) (fun nv iv _ => (min no 300 - (intOf iv).toNat) + (q - (intOf nv).toNat))
      case atStart => exact ⟨0, [], _, rfl, rfl, by omega, HO0, HC0⟩
      case round =>
        obtain ⟨j, ks, S, rfl, rfl, hj, HO, HC⟩ := hrel
        have hkq := HO.out.few
        rw [HQ.out] at hkq
        have hbw := HB1.out.trans (HO.out.below.mono HB1.out.size)
        by_cases hA : j < no ∧ j < 300
        · have hj1 : (j : Int) < (no : Int) := by omega
          have hj2 : (j : Int) < 300 := by omega
          obtain ⟨z, hz⟩ : ∃ z, os[j]? = some z := ⟨_, List.getElem?_eq_getElem (by rw [HNO.out]; omega)⟩
          obtain ⟨bo, oo, rfl, hbo, hoc'⟩ := (HOS.out.below hbw).open hz
          have hkk0 := Int.tmod_nonneg (q : Int) (show 0 ≤ IntKind.u64.wrap z by rw [IntKind.wrap_u64]; omega)
          have hkk1 := Int.tmod_lt_of_pos (IntKind.u64.wrap z) (show (0 : Int) < (q : Int) by omega)
          obtain ⟨kk, hkk, hk⟩ : ∃ kk : Nat, wrap64 ((IntKind.u64.wrap z).tmod (q : Int)) = (kk : Int) ∧ kk < q := ⟨((IntKind.u64.wrap z).tmod (q : Int)).toNat, by unfold wrap64; omega, by omega⟩
          clear hbw hz hkk0 hkk1
          obtain ⟨f, hf⟩ : ∃ f, fs[kk]? = some f := ⟨_, List.getElem?_eq_getElem (by rw [HQ.out]; exact hk)⟩
          have hfs := HAT.out.below HO.out.below
          obtain ⟨g', off', eg, hg', a0, a1, a2, a3, a4, a5⟩ := hfs.six hf
          obtain ⟨rfl, rfl⟩ : g = g' ∧ off = off' := by
            injection eg with eg
            injection eg with e1 e2 e3
            exact ⟨e1, e2⟩
          have hfa := (hfs.1 f (List.mem_of_getElem? hf)).mono HO.out.below.size
          have KP := HO.out.put_any HCUT.out hX1 (by rw [HL.out]; omega) hf hfa
          have hkn : (kk : Int) < (q : Int) := by omega
          obtain ⟨fv, fk, fq, fi, fc, fa, fcp, fz⟩ := f
          simp only at a0 a1 a2 a3 a4 a5 KP
          clear hfs hf hfa hg' eg
          unfold frV frC at KP
          by_cases hin : kk ∈ ks
          · rw [if_pos hin, if_pos hin] at KP
            have HC1 := Lib.hid (show S[kk]? = some true from by rw [HC.out.at' (by rw [HO.out.len, HQ.out]; exact hk)]; simp [hin])
            go_wp2_with fail
            refine KP.mono ?_
            rintro e W2 ⟨rfl, ho2⟩
            have c2 := ho2.row.cell HC1.out
            clear KP a0 a1 a2 a3 a4 a5
            have KFU := ho2.full_any
            rw [HQ.out] at KFU
            have HO2 := Lib.hid ho2
            clear ho2
            go_wp2_with fail
            refine KFU.mono ?_
            rintro e W3 ⟨rfl, ho3⟩
            have KHA := ho3.have_any
            have HO3 := Lib.hid ho3
            clear ho3 KFU c2
            go_wp2_with fail
            refine KHA.mono ?_
            rintro e W4 ⟨rfl, rfl⟩
            clear KHA
            go_wp2_with fail
            refine ⟨⟨j + 1, ks, S, by simp, rfl, by omega, HO3, HC⟩, ?_⟩
            simp only [intOf]
            omega
          · rw [if_neg hin, if_neg hin] at KP
            have HC1 := Lib.hid (show S[kk]? = some false from by rw [HC.out.at' (by rw [HO.out.len, HQ.out]; exact hk)]; simp [hin])
            go_wp2_with fail
            refine KP.mono ?_
            rintro e W2 ⟨rfl, ho2⟩
            have c2 := ho2.row.cell HC1.out
            clear KP a0 a1 a2 a3 a4 a5
            have fz2 := ho2.row.frozen kk
            have HO2 := Lib.hid (ho2.set kk)
            have hsl : kk < S.length := by rw [HO.out.len, HQ.out]; exact hk
            have HC2 := Lib.hid (HC.out.push hsl)
            have KFU := HO2.out.full_any
            have hkl : ((ks ++ [kk]).length : Int) = (ks.length : Int) + 1 := by simp
            rw [HQ.out, hkl] at KFU
            clear ho2
            go_wp2_with fail
            refine KFU.mono ?_
            rintro e W3 ⟨rfl, ho3⟩
            have KHA := ho3.have_any
            rw [hkl] at KHA
            have HO3 := Lib.hid ho3
            clear ho3 KFU c2 fz2
            go_wp2_with fail
            refine KHA.mono ?_
            rintro e W4 ⟨rfl, rfl⟩
            clear KHA
            go_wp2_with fail
            refine ⟨⟨j + 1, ks ++ [kk], S.set kk true, by simp, by rw [hkl], by simp; omega, HO3, HC2⟩, ?_⟩
            simp only [intOf]
            omega
        · by_cases hB : ks.length < q
          · have hB' : (ks.length : Int) < (q : Int) := by omega
            by_cases hj1 : j < no
            · have hj1' : (j : Int) < (no : Int) := by omega
              have hj2' : ¬ (j : Int) < 300 := by omega
              clear hbw
              go_wp2_with fail
              go_loopw [16] (fun kv wq => ∃ kk : Nat, kv = .int .i64 (kk : Int) ∧ kk < q ∧ wq = wr ∧ ∀ y, y < kk → y ∈ ks) (fun kv _ => q - (intOf kv).toNat)
              case atStart => exact ⟨0, rfl, by omega, rfl, fun y hy => by omega⟩
              case round =>
                obtain ⟨kk, rfl, hk, rfl, hall⟩ := hrel
                have hkn0 : (kk : Int) < (q : Int) := by omega
                by_cases hin : kk ∈ ks
                · have c1 := HO.out.row.cell (show S[kk]? = some true from by rw [HC.out.at' (by rw [HO.out.len, HQ.out]; exact hk)]; simp [hin])
                  have hall2 : ∀ y, y < kk + 1 → y ∈ ks := fun y hy => by
                    rcases Nat.lt_or_ge y kk with h | h
                    · exact hall y h
                    · obtain rfl : y = kk := by omega
                      exact hin
                  have hk2 : kk + 1 < q := by
                    obtain ⟨y, hy, hyn⟩ := lack_of q ks hB
                    rcases Nat.lt_or_ge (kk + 1) q with h | h
                    · exact h
                    · exact absurd (hall2 y (by omega)) hyn
                  clear hall
                  go_wp2_with fail
                  refine ⟨⟨kk + 1, by simp, hk2, trivial, hall2⟩, ?_⟩
                  simp only [intOf]
                  omega
                · have c1 := HO.out.row.cell (show S[kk]? = some false from by rw [HC.out.at' (by rw [HO.out.len, HQ.out]; exact hk)]; simp [hin])
                  clear hall
                  obtain ⟨f, hf⟩ : ∃ f, fs[kk]? = some f := ⟨_, List.getElem?_eq_getElem (by rw [HQ.out]; exact hk)⟩
                  have hfs := HAT.out.below HO.out.below
                  obtain ⟨g', off', eg, hg', a0, a1, a2, a3, a4, a5⟩ := hfs.six hf
                  obtain ⟨rfl, rfl⟩ : g = g' ∧ off = off' := by
                    injection eg with eg
                    injection eg with e1 e2 e3
                    exact ⟨e1, e2⟩
                  have hfa := (hfs.1 f (List.mem_of_getElem? hf)).mono HO.out.below.size
                  have KP := HO.out.put_any HCUT.out hX1 (by rw [HL.out]; omega) hf hfa
                  have hkn : (kk : Int) < (q : Int) := by omega
                  obtain ⟨fv, fk, fq, fi, fc, fa, fcp, fz⟩ := f
                  simp only at a0 a1 a2 a3 a4 a5 KP
                  clear hfs hf hfa hg' eg
                  unfold frV frC at KP
                  · rw [if_neg hin, if_neg hin] at KP
                    have HC1 := Lib.hid (show S[kk]? = some false from by rw [HC.out.at' (by rw [HO.out.len, HQ.out]; exact hk)]; simp [hin])
                    go_wp2_with fail
                    refine KP.mono ?_
                    rintro e W2 ⟨rfl, ho2⟩
                    have c2 := ho2.row.cell HC1.out
                    clear KP a0 a1 a2 a3 a4 a5
                    have fz2 := ho2.row.frozen kk
                    have HO2 := Lib.hid (ho2.set kk)
                    have hsl : kk < S.length := by rw [HO.out.len, HQ.out]; exact hk
                    have HC2 := Lib.hid (HC.out.push hsl)
                    have KFU := HO2.out.full_any
                    have hkl : ((ks ++ [kk]).length : Int) = (ks.length : Int) + 1 := by simp
                    rw [HQ.out, hkl] at KFU
                    clear ho2
                    go_wp2_with fail
                    refine KFU.mono ?_
                    rintro e W3 ⟨rfl, ho3⟩
                    have KHA := ho3.have_any
                    rw [hkl] at KHA
                    have HO3 := Lib.hid ho3
                    clear ho3 KFU c2 fz2
                    go_wp2_with fail
                    refine KHA.mono ?_
                    rintro e W4 ⟨rfl, rfl⟩
                    clear KHA
                    go_wp2_with fail
                    refine ⟨⟨j + 1, ks ++ [kk], S.set kk true, by simp, by rw [hkl], by simp; omega, HO3, HC2⟩, ?_⟩
                    simp only [intOf]
                    omega
            · have hj1' : ¬ (j : Int) < (no : Int) := by omega
              clear hbw
              go_wp2_with fail
              go_loopw [16] (fun kv wq => ∃ kk : Nat, kv = .int .i64 (kk : Int) ∧ kk < q ∧ wq = wr ∧ ∀ y, y < kk → y ∈ ks) (fun kv _ => q - (intOf kv).toNat)
              case atStart => exact ⟨0, rfl, by omega, rfl, fun y hy => by omega⟩
              case round =>
                obtain ⟨kk, rfl, hk, rfl, hall⟩ := hrel
                have hkn0 : (kk : Int) < (q : Int) := by omega
                by_cases hin : kk ∈ ks
                · have c1 := HO.out.row.cell (show S[kk]? = some true from by rw [HC.out.at' (by rw [HO.out.len, HQ.out]; exact hk)]; simp [hin])
                  have hall2 : ∀ y, y < kk + 1 → y ∈ ks := fun y hy => by
                    rcases Nat.lt_or_ge y kk with h | h
                    · exact hall y h
                    · obtain rfl : y = kk := by omega
                      exact hin
                  have hk2 : kk + 1 < q := by
                    obtain ⟨y, hy, hyn⟩ := lack_of q ks hB
                    rcases Nat.lt_or_ge (kk + 1) q with h | h
                    · exact h
                    · exact absurd (hall2 y (by omega)) hyn
                  clear hall
                  go_wp2_with fail
                  refine ⟨⟨kk + 1, by simp, hk2, trivial, hall2⟩, ?_⟩
                  simp only [intOf]
                  omega
                · have c1 := HO.out.row.cell (show S[kk]? = some false from by rw [HC.out.at' (by rw [HO.out.len, HQ.out]; exact hk)]; simp [hin])
                  clear hall
                  obtain ⟨f, hf⟩ : ∃ f, fs[kk]? = some f := ⟨_, List.getElem?_eq_getElem (by rw [HQ.out]; exact hk)⟩
                  have hfs := HAT.out.below HO.out.below
                  obtain ⟨g', off', eg, hg', a0, a1, a2, a3, a4, a5⟩ := hfs.six hf
                  obtain ⟨rfl, rfl⟩ : g = g' ∧ off = off' := by
                    injection eg with eg
                    injection eg with e1 e2 e3
                    exact ⟨e1, e2⟩
                  have hfa := (hfs.1 f (List.mem_of_getElem? hf)).mono HO.out.below.size
                  have KP := HO.out.put_any HCUT.out hX1 (by rw [HL.out]; omega) hf hfa
                  have hkn : (kk : Int) < (q : Int) := by omega
                  obtain ⟨fv, fk, fq, fi, fc, fa, fcp, fz⟩ := f
                  simp only at a0 a1 a2 a3 a4 a5 KP
                  clear hfs hf hfa hg' eg
                  unfold frV frC at KP
                  · rw [if_neg hin, if_neg hin] at KP
                    have HC1 := Lib.hid (show S[kk]? = some false from by rw [HC.out.at' (by rw [HO.out.len, HQ.out]; exact hk)]; simp [hin])
                    go_wp2_with fail
                    refine KP.mono ?_
                    rintro e W2 ⟨rfl, ho2⟩
                    have c2 := ho2.row.cell HC1.out
                    clear KP a0 a1 a2 a3 a4 a5
                    have fz2 := ho2.row.frozen kk
                    have HO2 := Lib.hid (ho2.set kk)
                    have hsl : kk < S.length := by rw [HO.out.len, HQ.out]; exact hk
                    have HC2 := Lib.hid (HC.out.push hsl)
                    have KFU := HO2.out.full_any
                    have hkl : ((ks ++ [kk]).length : Int) = (ks.length : Int) + 1 := by simp
                    rw [HQ.out, hkl] at KFU
                    clear ho2
                    go_wp2_with fail
                    refine KFU.mono ?_
                    rintro e W3 ⟨rfl, ho3⟩
                    have KHA := ho3.have_any
                    rw [hkl] at KHA
                    have HO3 := Lib.hid ho3
                    clear ho3 KFU c2 fz2
                    go_wp2_with fail
                    refine KHA.mono ?_
                    rintro e W4 ⟨rfl, rfl⟩
                    clear KHA
                    go_wp2_with fail
                    refine ⟨⟨j + 1, ks ++ [kk], S.set kk true, by simp, by rw [hkl], by simp; omega, HO3, HC2⟩, ?_⟩
                    simp only [intOf]
                    omega
          · have hB' : ¬ (ks.length : Int) < (q : Int) := by omega
            have hkq' : ks.length = q := by omega
            by_cases hj1 : j < no
            · have hj1' : (j : Int) < (no : Int) := by omega
              have hj2' : ¬ (j : Int) < 300 := by omega
              have KBY := HO.out.bytes_any HCUT.out hX1 (by rw [HQ.out]; exact hkq')
              rw [HL.out] at KBY
              have HBW := Lib.hid hbw
              clear hbw
              go_wp2_with fail
              refine KBY.mono ?_
              rintro e W2 ⟨hb2, A2, cp2, rfl, hcp2, hn2⟩
              have HB2 := Lib.hid (HBW.out.trans (hb2.mono HBW.out.size))
              have HN2 := Lib.hid hn2
              clear hb2 hn2 KBY
              go_wp2_with fail
              refine (HKN.out W2).mono ?_
              rintro e W3 ⟨rfl, hb3⟩
              have KS := same_any W3.heap.size A2 a m m cp2 cp bs bs W3 HL.out HL.out (by omega) ((HN2.out.below hb3).mono hb3.size) ((HNM.out.below (HB2.out.trans (hb3.mono HB2.out.size))).mono (HB2.out.trans (hb3.mono HB2.out.size)).size)
              rw [decide_eq_true rfl] at KS
              have HB3 := Lib.hid (HB2.out.trans (hb3.mono HB2.out.size))
              clear hb3
              go_wp2_with fail
              refine KS.mono ?_
              rintro e W4 ⟨rfl, d, rfl⟩
              have HB4 := Lib.hid (below_drewN HB3.out d)
              clear KS
              go_wp2
              go_ret
              exact ⟨rfl, HB4.out⟩
            · have hj1' : ¬ (j : Int) < (no : Int) := by omega
              have KBY := HO.out.bytes_any HCUT.out hX1 (by rw [HQ.out]; exact hkq')
              rw [HL.out] at KBY
              have HBW := Lib.hid hbw
              clear hbw
              go_wp2_with fail
              refine KBY.mono ?_
              rintro e W2 ⟨hb2, A2, cp2, rfl, hcp2, hn2⟩
              have HB2 := Lib.hid (HBW.out.trans (hb2.mono HBW.out.size))
              have HN2 := Lib.hid hn2
              clear hb2 hn2 KBY
              go_wp2_with fail
              refine (HKN.out W2).mono ?_
              rintro e W3 ⟨rfl, hb3⟩
              have KS := same_any W3.heap.size A2 a m m cp2 cp bs bs W3 HL.out HL.out (by omega) ((HN2.out.below hb3).mono hb3.size) ((HNM.out.below (HB2.out.trans (hb3.mono HB2.out.size))).mono (HB2.out.trans (hb3.mono HB2.out.size)).size)
              rw [decide_eq_true rfl] at KS
              have HB3 := Lib.hid (HB2.out.trans (hb3.mono HB2.out.size))
              clear hb3
              go_wp2_with fail
              refine KS.mono ?_
              rintro e W4 ⟨rfl, d, rfl⟩
              have HB4 := Lib.hid (below_drewN HB3.out d)
              clear KS
              go_wp2
              go_ret
              exact ⟨rfl, HB4.out⟩
end Go.Proofs.Ytoaclbdlgkgnpaa

namespace Go.Proofs.Ytoaclbdlgkgnpaa.slotOrder
open Go.ChangeShapes Go.WideShapes Go.ChangeAt Go.RowKit
open Go.ChangeMaps (open_string shut_string)
set_option linter.unusedVariables false

theorem own : ownKnob Try.prog.godebug = none := by kernel_rfl
theorem laidOut : laidOutB Try.prog = true := by kernel_rfl

set_option maxRecDepth 100000 in
theorem lifted (os : Os) (started : os.Started) (H : Type) (enc : TypeId × Value → H) :
    ReturnsInHanded {} Try.checked os 4 .any (Rows.slotOrderSpec.pre6 enc Try.prog Try.f4 Rows.slotOrderRow.domain false) (Rows.slotOrderSpec.post enc Try.prog Try.f4 false true false false) := by
  refine returnsInHanded_of_change (C := Try.checked) own started (by kernel_rfl) Try.func4
    (ChangeSpec.witness6 (enc := enc) (C := Try.checked) false ⟨#[], #[.agg #[.int .i64 0, .int .i64 0, .int .u32 0, .int .i64 0, .int .i64 0], .slice none 0 0, .int .i64 0, .slice none 0 0], []⟩ 8 (by kernel_rfl) (by kernel_rfl) (by kernel_rfl) (by kernel_rfl)) ?_
  intro W base args ds gs before hval0 hW hcnd _
  have hval : ∀ (j : Nat) t v, Try.f4.params[j]? = some t → args[j]? = some v → Value.okWide Try.prog W .any base t v := hval0
  have hW' := hW
  obtain ⟨p, q, hA0, hV, rfl, hfz, hnd⟩ := hW
  have hA : DataW.TrodAll enc Try.prog W 0 (fun _ => true) true Try.f4.params.toList args.toList ds p := hA0
  rw [Try.params4] at hA hval
  obtain ⟨v0, vs0, d0, ds0, p0, q0, hargs, rfl, rfl, h0, r0⟩ := trodAll_cons hA
  obtain ⟨v1, vs1, d1, ds1, p1, q1, rfl, rfl, rfl, h1, r1⟩ := trodAll_cons r0
  obtain ⟨v2, vs2, d2, ds2, p2, q2, rfl, rfl, rfl, h2, r2⟩ := trodAll_cons r1
  obtain ⟨v3, vs3, d3, ds3, p3, q3, rfl, rfl, rfl, h3, r3⟩ := trodAll_cons r2
  obtain ⟨rfl, rfl, rfl⟩ := trodAll_nil r3
  obtain rfl : args = #[v0, v1, v2, v3] := by cases args; simp_all
  obtain ⟨rfl, rfl⟩ := trodVars_none hV
  have k0 := h0
  have lt0 : ∀ x ∈ p0, x.block < W.heap.size := by obtain ⟨m, hm⟩ := k0; exact DataW.trod_lt m _ _ _ hm
  obtain ⟨x0_1, x0_2, x0_3, x0_4, x0_5, rfl, y0_1, y0_2, y0_3, y0_4, y0_5⟩ := open_head (hval 0 24 v0 rfl rfl) h0
  obtain ⟨a1, len1, cap1, rfl⟩ := okWide_slice Try.underlying37 (hval 1 37 v1 rfl rfl)
  have k1 := h1
  have lt1 : ∀ x ∈ p1, x.block < W.heap.size := by obtain ⟨m, hm⟩ := k1; exact DataW.trod_lt m _ _ _ hm
  obtain ⟨e1, hd1, hm1, w1⟩ : ∃ es : List Int, es.length = len1 ∧ len1 ≤ cap1 ∧ Nums .u8 W W.heap.size a1 es ∧ ∀ z ∈ es, (Lit.int .u8 z).wf = true := by
    obtain ⟨fuel, hf⟩ := h1
    obtain ⟨_, _, _, es, he, q⟩ := row_of Try.underlying37 Try.underlying5 (by kernel_rfl) hf
    injection he with e1 e2 e3
    subst e1 e2 e3
    exact ⟨es, q⟩
  obtain ⟨a2, rfl, rfl, rfl, w2⟩ := open_int Try.underlying3 (hval 2 3 v2 rfl rfl) h2
  obtain ⟨a3, len3, cap3, rfl⟩ := okWide_slice Try.underlying50 (hval 3 50 v3 rfl rfl)
  have k3 := h3
  have lt3 : ∀ x ∈ p3, x.block < W.heap.size := by obtain ⟨m, hm⟩ := k3; exact DataW.trod_lt m _ _ _ hm
  obtain ⟨e3, hd3, hm3, w3⟩ : ∃ es : List Int, es.length = len3 ∧ len3 ≤ cap3 ∧ Nums .i64 W W.heap.size a3 es ∧ ∀ z ∈ es, (Lit.int .i64 z).wf = true := by
    obtain ⟨fuel, hf⟩ := h3
    obtain ⟨_, _, _, es, he, q⟩ := row_of Try.underlying50 Try.underlying3 (by kernel_rfl) hf
    injection he with e1 e2 e3
    subst e1 e2 e3
    exact ⟨es, q⟩
  clear hA0 hval0
  refine (sorder_go x0_1 x0_2 x0_3 x0_4 x0_5 (bounds_u32 y0_3) a1 len1 (min len1 192) cap1 e1 a2 a3 len3 cap3 e3 W hd1 hm1 (bytes_of w1.2) w1.1 (by omega) (by omega) (by omega) hd3 hm3 w3.1).mono fun e W' ⟨he, bel⟩ => ?_
  subst he
  exact ⟨_, rfl, _, _, _, [], _, [], hW', trodAll_mk1 (shut_bool Try.underlying4 _), (trodAll_cons_mk (Below.trod laidOut (by kernel_rfl) (of_decide_eq_true (by kernel_rfl)) k0 bel lt0) (trodAll_cons_mk (Below.trod laidOut (by kernel_rfl) (of_decide_eq_true (by kernel_rfl)) k1 bel lt1) (trodAll_cons_mk (shut_int Try.underlying3 w2) (trodAll_cons_mk (Below.trod laidOut (by kernel_rfl) (of_decide_eq_true (by kernel_rfl)) k3 bel lt3) trodAll_mk0)))), rfl, bel.frame _, fun h => by cases h⟩

theorem over : Rows.slotOrderRow.holds Try.pinned (OpenSpec.ofChange Rows.slotOrderSpec) :=
  OpenClaim.holds_of_wide 4 Try.f4 rfl rfl rfl rfl rfl rfl rfl ⟨rfl, rfl, rfl, rfl, rfl⟩ rfl rfl rfl rfl rfl (by kernel_rfl) Try.func4 (by kernel_rfl)
    (of_decide_eq_true (by kernel_rfl)) (by unfold Func.isWrapper; first | (rw [if_pos (by decide +kernel)]; kernel_rfl) | (rw [if_neg (by decide +kernel)]; exact ⟨rfl, rfl⟩))
    (fun os started H enc _ => lifted os started H enc)

theorem proved : Rows.SlotOrderSaid := over
#print axioms proved
end Go.Proofs.Ytoaclbdlgkgnpaa.slotOrder
