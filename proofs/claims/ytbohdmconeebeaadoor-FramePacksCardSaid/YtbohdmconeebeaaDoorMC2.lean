/-
  A part of the texts of one proof, put together: App, ApN, CobE, Lists, RbB, In, RbE, Cat, HdB, CrcO, Q2, Q5, Q6, FrG, FenN, FenC, FenK, LBox, Clone, FenS, Ls1, FenW, FrF, FrP.
-/
import Derived.Deep.Upon
import Derived.Lib.AppendZeros
import Derived.OwnWalkIn
import Derived.RangeFuncBox
import Derived.RangeFuncWrites
import Derived.RangeFuncNested
import Derived.Laws.MakeOwn
import Derived.Maps.AppendAt
import Derived.Deep.QuietTactic
import Derived.Deep.Quiet
import Derived.BigQuiet
import Derived.Below
import Derived.WalkSpells
import Derived.RangeFuncBound
import Derived.RangeFuncCalls
import Derived.RangeFuncLeaves
import Derived.Shelf.Abstract
import Derived.Shelf.RegionOpen
import Derived.TacticsInMore
import Derived.LoopNIn
import Derived.LoopIn
import Derived.OpenShut
import Derived.WalkLawsBesides
import Derived.Deep.LoopGhost
import Derived.Lib.SliceRun
import Derived.Lib.Hide
import Derived.WalkMore
import Derived.Test.YtbohdmconeebeaaDoorMC1
namespace Go.Proofs.YtbohdmconeebeaaDoor
open Go.RowKit

theorem wpList_append_any {P : Program} {w : World} {ops : Array Oper} {rest : List Oper} {o : Oper} {a : Act} {Q : Exit → Act → World → Prop} (hwt : Region.wanted o (yielded ops a.tmps) = true) (s x : Operand) (t : TypeId)
    (ho : o.op = .call { callee := .builtin .append, args := #[s, x], argTypes := #[t, t] })
    (base : Nat) (e : TypeId) (i : TypeInfo) (z : Value) (bytes : Nat) (ht : P.underlying t = some (.slice e)) (hi : P.info? e = some i) (hz : i.zero = some z) (hsize : i.size = 1) (hby : i.bytes = bytes) (hzs : z.cells.size = 1)
    (k : IntKind) (L zs : List Int) (v : Value) (hs : a.eval s = v) (hown : w.ownsRow base e 1 v L.length (L.map (Value.int k))) (A : Option Addr) (m c B : Nat) (hx : a.eval x = .slice A m c) (hm : zs.length = m) (hn : Nums k w B A zs)
    (h63 : L.length + m ≤ maxLen) (hbytes : (L.length + m) * bytes ≤ 140737488355328) (hbase : base ≤ w.heap.size)
    (h : ∀ v' w', w'.ownsRow base e 1 v' (L.length + zs.length) (L.map (Value.int k) ++ zs.map (Value.int k)) → w.grownBy w' v.ownBlock → wpList P ops Q rest (a.put o.dst v') w') : wpList P ops Q (o :: rest) a w := by
  subst hm
  simp only [wpList, hwt, if_true]
  left
  by_cases hz0 : zs = []
  · subst hz0
    have hv : ∃ b n cap, v = .slice b n cap ∧ n ≤ cap := by
      rcases hown.2 with ⟨rfl, _⟩ | ⟨g, cap, cur, rfl, _, _, hle, _⟩
      · exact ⟨_, _, _, rfl, Nat.le_refl _⟩
      · exact ⟨_, _, _, rfl, hle⟩
    obtain ⟨b, n, cap, rfl, hle⟩ := hv
    refine Lib.wp_append_run w s x t t ho _ _ hs hx _ w (run_append_nothing w t t o.type e i ht hi b n cap hle _ ?_) (h _ _ (by simpa using hown) ⟨rfl, rfl, rfl, Nat.le_refl _, fun _ _ _ => rfl⟩)
    cases A with
    | none => exact ⟨.inl ⟨e, ht⟩, fun _ => rfl, run_firstCells_none w i.size 0 0 c, run_firstCells_none w.drew i.size 0 0 c, by simp, fun _ h => by cases h⟩
    | some ad => exact Src.ofSlice w ht ad 0 c [] (by simp) (by simp) (fun _ h => by cases h)
  · obtain ⟨b1, o1, rfl, hb1, hc⟩ := hn hz0
    refine wp_append_own w s x t ho base e i z 1 bytes ht hi hz hsize hby hzs (by decide) v L.length _ hs hown ⟨b1, o1, none⟩ zs.length c (zs.map (Value.int k)) hx (by simp) (fun j u hj => ?_) (fun u hu => by obtain ⟨y, _, rfl⟩ := List.mem_map.1 hu; rfl) h63 hbytes hbase fun v' w' h1 h2 _ => h v' w' h1 h2
    rw [List.getElem?_map] at hj
    obtain ⟨y, hy, rfl⟩ := Option.map_eq_some_iff.1 hj
    rw [Addr.add_lit]
    exact hc j y hy

section
variable {e : TypeId} {k : IntKind} {w w1 w2 : World} {L zs : List Int} {v v' : Value}
theorem MadeK.more (h : MadeK e k w w1 L v) (hown : w2.ownsRow w.heap.size e 1 v' (L.length + zs.length) (L.map (Value.int k) ++ zs.map (Value.int k))) (hg : w1.grownBy w2 v.ownBlock) : MadeK e k w w2 (L ++ zs) v' :=
  ⟨by simpa using hown, h.2.grown hg (by have := h.2.size; omega) (fun g hk => (h.own_ge hk).1)⟩
/-- an empty literal -/
theorem MadeK.lit (e : TypeId) (k : IntKind) (h : Below w.heap.size w w1) : MadeK e k w (w1.alloc (.cells #[] e)) [] (.slice (some ⟨w1.heap.size, 0, none⟩) 0 0) :=
  ⟨World.ownsRow_made w1 #[] 0 h.size (Nat.zero_le _) rfl, h.alloc h.size _⟩
theorem MadeK.lit' {s : Nat} (e : TypeId) (k : IntKind) (hs : w1.heap.size = s) (h : Below w.heap.size w w1) : MadeK e k w (w1.alloc (.cells #[] e)) [] (.slice (some ⟨s, 0, none⟩) 0 0) := by
  subst hs; exact MadeK.lit e k h
/-- a store elsewhere, above -/
theorem MadeK.store {q : Addr} (h : MadeK e k w w1 L v) (hq : ∀ g, v.ownBlock = some g → g ≠ q.block) (hw : w.heap.size ≤ q.block) (u : Value) : MadeK e k w (w1.setCell q u) L v := by
  refine ⟨h.1.kept (row := some q.block) ⟨rfl, rfl, rfl, by simp [World.setCell], fun j _ hj => Below.heap_setCell _ _ _ _ (fun e => hj (by rw [e]))⟩ ?_, h.2.setCell hw u⟩
  right
  intro he
  exact hq _ he rfl
theorem MadeK.since {w0 : World} (h : MadeK e k w w1 L v) (hb : Below w0.heap.size w0 w) : MadeK e k w0 w1 L v := by
  have hs := hb.size
  refine ⟨⟨h.1.1, ?_⟩, hb.trans (h.2.mono hs)⟩
  rcases h.1.2 with h | ⟨g, cap, cur, hv, hg, rest⟩
  · exact .inl h
  · exact .inr ⟨g, cap, cur, hv, by omega, rest⟩
/-- the block of what was made -/
theorem MadeK.ge {A : Option Addr} {n c : Nat} (h : MadeK e k w w1 L (.slice A n c)) {q : Nat} (hq : blockOf A q) : w.heap.size ≤ q := by
  obtain ⟨o, s, rfl⟩ := hq
  exact (h.own_ge (g := q) rfl).1
end
end Go.Proofs.YtbohdmconeebeaaDoor

namespace Go.Proofs.YtbohdmconeebeaaDoor
open Go.RowKit

theorem run_append_any {P : Program} {w : World} (t ty : TypeId) (base : Nat) (e : TypeId) (i : TypeInfo) (z : Value) (bytes : Nat) (ht : P.underlying t = some (.slice e)) (hi : P.info? e = some i) (hz : i.zero = some z) (hsize : i.size = 1) (hby : i.bytes = bytes) (hzs : z.cells.size = 1)
    (k : IntKind) (n : Nat) (xs : List Value) (zs : List Int) (v : Value) (hown : w.ownsRow base e 1 v n xs) (A : Option Addr) (m c B : Nat) (hm : zs.length = m) (hn : Nums k w B A zs)
    (h63 : n + m ≤ maxLen) (hbytes : (n + m) * bytes ≤ 140737488355328) (hbase : base ≤ w.heap.size) :
    ∃ v' w', (Builtin.append_ #[t, t] ty #[v, .slice A m c]).run P w = .ok v' w' ∧ w'.ownsRow base e 1 v' (n + m) (xs ++ zs.map (Value.int k)) ∧ w.grownBy w' v.ownBlock := by
  subst hm
  by_cases hz0 : zs = []
  · subst hz0
    have hv : ∃ b n cap, v = .slice b n cap ∧ n ≤ cap := by
      rcases hown.2 with ⟨rfl, _⟩ | ⟨g, cap, cur, rfl, _, _, hle, _⟩
      · exact ⟨_, _, _, rfl, Nat.le_refl _⟩
      · exact ⟨_, _, _, rfl, hle⟩
    obtain ⟨b, q, cap, rfl, hle⟩ := hv
    refine ⟨_, _, run_append_nothing w t t ty e i ht hi b q cap hle _ ?_, by simpa using hown, ⟨rfl, rfl, rfl, Nat.le_refl _, fun _ _ _ => rfl⟩⟩
    cases A with
    | none => exact ⟨.inl ⟨e, ht⟩, fun _ => rfl, run_firstCells_none w i.size 0 0 c, run_firstCells_none w.drew i.size 0 0 c, by simp, fun _ h => by cases h⟩
    | some ad => exact Src.ofSlice w ht ad 0 c [] (by simp) (by simp) (fun _ h => by cases h)
  · obtain ⟨b1, o1, rfl, hb1, hc⟩ := hn hz0
    obtain ⟨v', w', h1, h2, h3, _⟩ := run_append_own (P := P) w base t ty e i z 1 bytes ht hi hz hsize hby hzs (by decide) v n xs hown ⟨b1, o1, none⟩ zs.length c (zs.map (Value.int k)) (by simp) (fun j u hj => by
      rw [List.getElem?_map] at hj
      obtain ⟨y, hy, rfl⟩ := Option.map_eq_some_iff.1 hj
      rw [Addr.add_lit]
      exact hc j y hy) (fun u hu => by obtain ⟨y, _, rfl⟩ := List.mem_map.1 hu; rfl) h63 hbytes hbase
    exact ⟨v', w', h1, h2, h3⟩

theorem wpListIn_append_any {F : Fence} {nF : Nat} {P : Program} {w : World} {ops : Array Oper} {rest : List Oper} {o : Oper} {a : Act} {Q : Exit → Act → World → Prop} (hg : o.guard = none) (s x : Operand) (t : TypeId)
    (hop : o.op = Op.call { callee := Callee.builtin Builtin.append, args := #[s, x], argTypes := #[t, t] })
    (base : Nat) (e : TypeId) (i : TypeInfo) (z : Value) (bytes : Nat) (ht : P.underlying t = some (.slice e)) (hi : P.info? e = some i) (hz : i.zero = some z) (hsize : i.size = 1) (hby : i.bytes = bytes) (hzs : z.cells.size = 1)
    (k : IntKind) (n : Nat) (xs : List Value) (zs : List Int) (v : Value) (hs : a.eval s = v) (hown : w.ownsRow base e 1 v n xs) (A : Option Addr) (m c B : Nat) (hx : a.eval x = .slice A m c) (hm : zs.length = m) (hn : Nums k w B A zs)
    (h63 : n + m ≤ maxLen) (hbytes : (n + m) * bytes ≤ 140737488355328) (hbase : base ≤ w.heap.size)
    (hK : ∀ v' w', w'.ownsRow base e 1 v' (n + m) (xs ++ zs.map (Value.int k)) → w.grownBy w' v.ownBlock → wpListIn F nF P ops Q rest (a.put o.dst v') w') :
    wpListIn F nF P ops Q (o :: rest) a w := by
  refine wpListIn_plain hg fun K hK' => ?_
  obtain ⟨v', w', hrun, r1, r2⟩ := run_append_any (P := P) (w := w) t o.type base e i z bytes ht hi hz hsize hby hzs k n xs zs v hown A m c B hm hn h63 hbytes hbase
  unfold Oper.wpIn
  refine ⟨?_, ?_⟩
  · simp [Oper.about, hop, resolve, Target.leads, Sem.run_pure]
  · rw [Oper.semAt_plain F _ _ (by rw [hop]; intro c hc'; cases hc')]
    simp [execOp, hop, resolve, invoke, builtin, hs, hx, hrun, Result.andThen]
    exact hK' _ _ (hK v' w' r1 r2)

/-- what has grown behind a new block has grown -/
theorem grown_of_alloc {W w1 : World} {o : Obj} {row : Option Nat} (h : (W.alloc o).grownBy w1 row) : W.grownBy w1 row :=
  ⟨h.os, h.tape, h.output, by have := h.size; rw [World.size_alloc] at this; omega, fun k hk hne => (h.block k (by rw [World.size_alloc]; omega) hne).trans (Below.heap_alloc W o k hk)⟩

/-- what a box that is appended to leaves -/
structure BoxApp (S : Nat → Prop) (base : Nat) (t e : TypeId) (Bo Bs : Nat) (v' u : Value) (m : Nat) (ys : List Value) (W W2 : World) : Prop where
  out : Boxed W2 Bo t v'
  src : Boxed W2 Bs t u
  row : W2.ownsRow base e 1 v' m ys
  others : KeepsOthers W W2
  below : Below base W W2
  keep : KeepS S W W2
theorem box_appended {W w1 : World} {base Bo Bs : Nat} {t e : TypeId} {v v' u : Value} {n m : Nat} {xs ys : List Value} {S : Nat → Prop} (hv : Boxed W Bo t v) (hs : Boxed W Bs t u) (hne : Bs ≠ Bo) (hte : t ≠ e) (hrow : W.ownsRow base e 1 v n xs) (hbase : base ≤ W.heap.size) (hBo : base ≤ Bo)
    (hS : ∀ k, S k → k < base ∨ k = Bs) (hown' : w1.ownsRow base e 1 v' m ys) (hg : W.grownBy w1 v.ownBlock) :
    Boxed w1 Bo t v ∧ BoxApp S base t e Bo Bs v' u m ys W (w1.setCell ⟨Bo, 0, none⟩ v') := by
  have hv1 : Boxed w1 Bo t v := hv.kept hg (hv.not_row hte hrow)
  have hs1 : Boxed w1 Bs t u := hs.kept hg (hs.not_row hte hrow)
  have hlt := hrow.lt
  have hSlt := hs.lt
  refine ⟨hv1, hv1.set v', hs1.other hne v', hown'.kept (grownBy_setCell' w1 Bo v') (.inr (hv1.not_row hte hown').symm), ?_, ?_, ?_⟩
  · refine (KeepsOthers.of_grownBy hg fun j o ej hj => ?_).trans (KeepsOthers.setCell _ _ _)
    rcases hrow.2 with ⟨rfl, _⟩ | ⟨g, cap, cur, rfl, _, hgb, _⟩
    · simp [Value.ownBlock] at ej
    · obtain rfl : g = j := by simpa [Value.ownBlock] using ej
      rw [hgb] at hj; cases hj; rfl
  · exact ((Below.refl base W).grown hg hbase (fun j ej => (hlt j ej).1)).setCell (p := ⟨Bo, 0, none⟩) hBo v'
  · refine KeepS.set (KeepS.grown (KeepS.refl S W) hg (fun k hk => ?_) (fun k hk hSk => ?_)) (fun h => ?_) v'
    · rcases hS k hk with h | h <;> omega
    · have h1 := (hlt k hk).1
      rcases hS k hSk with h | h
      · omega
      · subst h; exact hs.not_row hte hrow hk.symm
    · rcases hS Bo h with h | h <;> omega
end Go.Proofs.YtbohdmconeebeaaDoor

namespace Go.Proofs.YtbohdmconeebeaaDoor
open Go.RowKit Go.Shelf
set_option maxRecDepth 100000
attribute [local go_sem] Oper.semAt_some

theorem ownFrom_keepS {β : Type} {B : Nat} {w0 : World} {S : Nat → Prop} (hS : ∀ k, S k → k < B) (hB : B ≤ w0.heap.size) : OwnFrom B (fun (_ : β) W => KeepS S w0 W) := by
  intro _ W W' r hs hg hr
  refine ⟨Nat.le_trans hs.1 hg.size, fun k hk => (hg.block k (by have := hS k hk; have := hs.1; omega) (fun e => ?_)).trans (hs.2 k hk)⟩
  have h1 := (hr k e.symm).1
  have := hS k hk
  omega

/-- the set of blocks that the iterator reads -/
def Src2 (base Bs : Nat) (k : Nat) : Prop := k < base ∨ k = Bs

set_option maxHeartbeats 2000000 in
theorem encode_any (a : Option Addr) (n c : Nat) (zs : List Int) (w : World) (hn : zs.length = n) (hc : n ≤ c) (hl : n ≤ 1000000) (hz : Bytes zs) (h1 : Nums .u8 w w.heap.size a zs) :
    Calls Tryd.prog 42 #[.slice a n c] w fun e w' => ∃ v, e = .returned v ∧ MadeK 5 .u8 w w' (Cb.enc zs) v := by
  obtain ⟨i0, hi, hz0, hz1, hz2⟩ := info_parts byteInfo
  have hE := (Cb.enc_len zs).2.1
  have hmk : ∀ W, (Instr.makeSlice 29 (.int .i64 0) (.int .i64 ((Cb.enc zs).length : Nat))).run Tryd.prog W = .ok (.slice (some ⟨W.heap.size, 0, none⟩) 0 (Cb.enc zs).length) (W.alloc (.cells (madeCells #[.int .u8 0] (Cb.enc zs).length) 5)) := fun W => by
    have h := run_make (P := Tryd.prog) W 29 5 i0 (.int .u8 0) Tryd.underlying29 hi hz0 .i64 .i64 0 ((Cb.enc zs).length : Nat) (by omega) (by omega) (by rw [hz2]; omega) (by omega)
    have hzc : (Value.int .u8 0).cells = #[.int .u8 0] := rfl
    rw [hzc] at h
    simpa [hz1] using h
  have hS := size_any a n c zs w hn hc hl hz h1
  have hN := blocks_many zs
  refine (callsIn_wide (n := 3)).1 ?_
  refine callsIn_of_wp_marks Tryd.func42 rfl trivial ?_ rfl
  simp only [Tryd.ntmps42, List.size_toArray, List.length_cons, List.length_nil, Nat.reduceAdd, Nat.reduceSub, Array.replicate_succ, Array.replicate_zero, List.push_toArray, List.append_toArray, List.nil_append, List.cons_append]
  gi_wp2_with fail
  refine ⟨trivial, ?_⟩
  refine (callsIn_wide.2 hS).mono ?_
  rintro e w1 ⟨rfl, hb1⟩
  clear hS
  have hs1 := hb1.size
  have hlitB : Below w.heap.size w (w1.alloc (.cells (madeCells #[.int .u8 0] (Cb.enc zs).length) 5)) := hb1.alloc hs1 _
  have hown0 : (w1.alloc (.cells (madeCells #[.int .u8 0] (Cb.enc zs).length) 5)).ownsRow w.heap.size 5 1 (.slice (some ⟨w1.heap.size, 0, none⟩) 0 (Cb.enc zs).length) 0 [] :=
    World.ownsRow_made w1 _ _ hs1 (by unfold maxLen; omega) (by rw [size_madeCells]; simp)
  have hP := parts_any a n c ((w1.alloc (.cells (madeCells #[.int .u8 0] (Cb.enc zs).length) 5)).alloc (.cells #[.slice (some ⟨w1.heap.size, 0, none⟩) 0 (Cb.enc zs).length] 29))
  gi_wp2_with fail
  refine ⟨trivial, ?_⟩
  refine (callsIn_wide.2 hP).mono ?_
  rintro e w3 ⟨rfl, hw3⟩
  rw [World.size_alloc, World.size_alloc]
  have hsz3 : w3.heap.size = w1.heap.size + 3 := by rw [hw3]; simp
  have bO : Boxed w3 (w1.heap.size + 1) 29 (.slice (some ⟨w1.heap.size, 0, none⟩) 0 (Cb.enc zs).length) := by
    rw [hw3]
    have := (Boxed.new (w1.alloc (.cells (madeCells #[.int .u8 0] (Cb.enc zs).length) 5)) 29 (.slice (some ⟨w1.heap.size, 0, none⟩) 0 (Cb.enc zs).length)).alloc (.cells #[.slice a n c] 29)
    rwa [World.size_alloc] at this
  have bB : Boxed w3 (w1.heap.size + 2) 29 (.slice a n c) := by
    rw [hw3]
    have := Boxed.new ((w1.alloc (.cells (madeCells #[.int .u8 0] (Cb.enc zs).length) 5)).alloc (.cells #[.slice (some ⟨w1.heap.size, 0, none⟩) 0 (Cb.enc zs).length] 29)) 29 (.slice a n c)
    rwa [World.size_alloc, World.size_alloc] at this
  have hrow3 : w3.ownsRow w.heap.size 5 1 (.slice (some ⟨w1.heap.size, 0, none⟩) 0 (Cb.enc zs).length) 0 [] := by rw [hw3]; exact (hown0.alloc _).alloc _
  have hb3 : Below w.heap.size w w3 := by rw [hw3]; exact (hlitB.alloc (by simp; omega) _).alloc (by simp; omega) _
  have hSS : ∀ k, Src2 w.heap.size (w1.heap.size + 2) k → k < w3.heap.size := fun k hk => by unfold Src2 at hk; omega
  have hst := parts_stops 2 (by omega) (w1.heap.size + 2) n c (Src2 w.heap.size (w1.heap.size + 2)) w3 a zs hn hl hz (.inr rfl) hSS hc bB.cell ((h1.below hb3).numsS (fun k hk => .inl hk))
  clear hw3 hP h1 hz hmk hlitB hown0
  gi_wp2_with fail
  refine wpIn_rangeFunc_ownG rfl (by omega) (gf := 76) (lb := #[.pointer (some ⟨w1.heap.size + 2, 0, none⟩)]) rfl trivial (enters_of Tryd.func76 (by kernel_rfl) rfl)
    hst keepS_t (keepS_b hSS) (Below.refl _ _) (fun _ => rfl)
    (fun pre W' => (∃ v, Boxed W' (w1.heap.size + 1) 29 v ∧ W'.ownsRow w.heap.size 5 1 v (Cb.join (bbare pre)).length ((Cb.join (bbare pre)).map (Value.int .u8)) ∧ True) ∧ Boxed W' (w1.heap.size + 2) 29 (.slice a n c) ∧ Below w.heap.size w W' ∧ KeepS (Src2 w.heap.size (w1.heap.size + 2)) w3 W')
    (fun _ _ _ => False)
    (OwnFrom.and (Own.from (holdsRow_own _ _ _ _ _ _ _ (fun _ _ => True)) _) (OwnFrom.and (Own.from (boxed_own _ _ _) _) (OwnFrom.and (ownFrom_below (Nat.le_refl _) (by omega)) (ownFrom_keepS hSS (Nat.le_refl _)))))
    (fun _ _ _ _ _ h _ _ => h)
    ⟨⟨_, bO, hrow3, trivial⟩, bB, hb3, KeepS.refl _ _⟩
    ?a1 ?assign ?body ?done ?stop
  case assign =>
    intro l x W' K hK
    gi_wp2
    exact hK
  case body =>
    rintro l pre x W' ⟨⟨v, hO, hR, _⟩, hB, hbe, hKe⟩ hcnt
    have kO := hO.cell
    have fO := hO.frozen
    have hx := x.2.2.2
    have hm := join_most pre
    have hlt : (Cb.join (bbare pre)).length ≤ 1000000000 := by omega
    have hsW := hbe.size
    have hnx := x.2.1
    have hj := join_size (bbare pre) x.1.2
    have hjs : Cb.join (bbare (pre ++ [x])) = (Cb.join (bbare pre) ++ [(x.1.2.length : Int) + 1]) ++ x.1.2 := by
      rw [bbare_append, Cb.join_append, show bbare [x] = [x.1.2] from rfl]
      simp [Cb.join, Cb.one]
    have HJ := Lib.hid hjs
    have HN1 := Lib.hid (Nums.new .u8 W' 5 [(x.1.2.length : Int) + 1] #[.int .u8 ((x.1.2.length : Int) + 1)] rfl)
    have hSB : ∀ k, Src2 w.heap.size (w1.heap.size + 2) k → k < w.heap.size ∨ k = w1.heap.size + 2 := fun k hk => hk
    have HA := Lib.hid (fun v1 w4 hown hg => box_appended (t := 29) (e := 5) (v' := v1) (w1 := w4) (m := (Cb.join (bbare pre)).length + 1) (ys := (Cb.join (bbare pre)).map (Value.int .u8) ++ [(x.1.2.length : Int) + 1].map (Value.int .u8)) hO hB (by omega) (by decide) hR hsW (by omega) hSB hown hg)
    have HKe := Lib.hid hKe
    have HB := Lib.hid hbe
    have HR := Lib.hid hR
    clear hst bO bB hrow3 hb3 hm hjs hKe hbe hR
    gi_wp2_with (gi_at_builtin; refine wpListIn_append_any rfl (.tmp 11) (.tmp 16) 29 rfl w.heap.size 5 i0 (.int .u8 0) 1 Tryd.underlying29 hi hz0 hz1 hz2 rfl .u8 _ _ [(x.1.2.length : Int) + 1] v rfl (HR.out.alloc _) (some ⟨W'.heap.size, 0, none⟩) 1 1 _ rfl rfl HN1.out ?c1 ?c2 ?c3 ?_)
    case c1 => unfold maxLen; omega
    case c2 => omega
    case c3 => rw [World.size_alloc]; omega
    intro v1 w4 hown1 hg1
    obtain ⟨g1, cap1, rfl⟩ := ownsRow_succ hown1
    obtain ⟨hO4, hA4⟩ := HA.out _ _ hown1 (grown_of_alloc hg1)
    have kO4 := hO4.cell
    have fO4 := hO4.frozen
    have kO5 := hA4.out.cell
    have fO5 := hA4.out.frozen
    have hN5 := (hnx.keeps (HKe.out.trans hA4.keep)).nums hSS
    have hs5 := hA4.below.size
    have HA5 := Lib.hid (fun v2 w6 hown hg => box_appended (t := 29) (e := 5) (v' := v2) (w1 := w6) (m := (Cb.join (bbare pre)).length + 1 + x.1.2.length) (ys := ((Cb.join (bbare pre)).map (Value.int .u8) ++ [(x.1.2.length : Int) + 1].map (Value.int .u8)) ++ x.1.2.map (Value.int .u8)) hA4.out hA4.src (by omega) (by decide) hA4.row (by omega) (by omega) hSB hown hg)
    have HR5 := Lib.hid hA4.row
    have H4 := Lib.hid hA4
    clear hown1 hg1 HA HN1 hO4 hA4
    gi_wp2_with (gi_at_builtin; refine wpListIn_append_any rfl (.tmp 18) (.tmp 19) 29 rfl w.heap.size 5 i0 (.int .u8 0) 1 Tryd.underlying29 hi hz0 hz1 hz2 rfl .u8 _ _ x.1.2 _ rfl HR5.out x.1.1 _ _ _ rfl rfl hN5 ?d1 ?d2 ?d3 ?_)
    case d1 => unfold maxLen; omega
    case d2 => omega
    case d3 => omega
    intro v2 w6 hown2 hg2
    have HO := Lib.hid hown2
    rw [show (Cb.join (bbare pre)).length + 1 + x.1.2.length = ((Cb.join (bbare pre)).length + x.1.2.length) + 1 by omega] at hown2
    obtain ⟨g2, cap2, rfl⟩ := ownsRow_succ hown2
    obtain ⟨hO6, hA6⟩ := HA5.out _ _ (by simpa using HO.out) hg2
    have kO6 := hO6.cell
    have fO6 := hO6.frozen
    have HF := Lib.hid hA6
    clear hown2 hg2 HA5 HO hO6 hA6
    gi_wp2
    refine ⟨(H4.out.others.trans HF.out.others).from _, H4.out.keep.trans HF.out.keep, ⟨_, HF.out.out, ?_, trivial⟩, HF.out.src, HB.out.trans (H4.out.below.trans HF.out.below), HKe.out.trans (H4.out.keep.trans HF.out.keep)⟩
    have := HF.out.row
    have e1 : (Cb.join (bbare pre) ++ [(x.1.2.length : Int) + 1] ++ x.1.2).length = (Cb.join (bbare pre)).length + 1 + x.1.2.length := by simp; omega
    have e2 : (Cb.join (bbare pre) ++ [(x.1.2.length : Int) + 1] ++ x.1.2).map (Value.int .u8) = ((Cb.join (bbare pre)).map (Value.int .u8) ++ [(x.1.2.length : Int) + 1].map (Value.int .u8)) ++ x.1.2.map (Value.int .u8) := by simp
    rw [HJ.out, e1, e2]
    exact this
  case done =>
    rintro D ys W' hD hY ⟨⟨v, hO, hR, _⟩, hB, hbe, hKe⟩ hK
    rw [hY] at hR
    have kO := hO.cell
    have hfin := Lib.hid (show MadeK 5 .u8 w (W'.putObj D (.deferred none)) (Cb.enc zs) v from ⟨ownsRow_putObj hR _ hK rfl, hbe.trans (belowK_b (w := w) (Nat.le_refl _) W' D _ (.deferred none) (by omega) hK rfl rfl)⟩)
    clear hst bO bB hrow3 hb3 hR hbe hKe hO
    gi_wp2
    refine ⟨by simp, .inl ⟨_, _, rfl, run_takeDeferred hK, ?_⟩⟩
    refine ⟨_, results_tmp rfl _ _ _, ?_⟩
    exact ⟨v, rfl, hfin.out⟩
  case stop =>
    rintro D cd pre W' _ _ h _
    exact h.elim
end Go.Proofs.YtbohdmconeebeaaDoor

namespace Go.Proofs.YtbohdmconeebeaaDoor
open Go.RowKit

/-- x is a slice of the numbers b, in a block of the call's own with elements of type te, which is not u's -/
def El (te : TypeId) (k : IntKind) (base : Nat) (W : World) (u x : Value) (b : List Int) : Prop :=
  ∃ (A : Option Addr) (c : Nat), x = .slice A b.length c ∧ b.length ≤ c ∧ (b ≠ [] → ∃ (g : Nat) (cur : Array Value), A = some ⟨g, 0, none⟩ ∧ base ≤ g ∧ W.heap[g]? = some (.cells cur te (0, 0)) ∧ u.ownBlock ≠ some g ∧ ∀ (j : Nat) (z : Int), b[j]? = some z → cur[j]? = some (Value.int k z))
/-- the slice v of slices, the lists O; the row u, the numbers N -/
structure Ls (te tl : TypeId) (k : IntKind) (base : Nat) (W : World) (v u : Value) (xs : List Value) (O : List (List Int)) (N : List Int) : Prop where
  out : W.ownsRow base tl 1 v O.length xs
  els : ∀ (i : Nat) (b : List Int), O[i]? = some b → ∃ x, xs[i]? = some x ∧ El te k base W u x b
  now : W.ownsRow base te 1 u N.length (N.map (Value.int k))
section
variable {te tl : TypeId} {k : IntKind} {base : Nat} {W w1 : World} {v v' u u' x : Value} {xs : List Value} {O : List (List Int)} {N b : List Int} {o : Obj}
theorem own_far {e e2 : TypeId} {n m : Nat} {ys : List Value} (h : W.ownsRow base e 1 v n xs) (h2 : W.ownsRow base e2 1 u m ys) (hne : e ≠ e2) : v.ownBlock = none ∨ v.ownBlock ≠ u.ownBlock := by
  rcases h.2 with ⟨rfl, _⟩ | ⟨g, cap, cur, rfl, _, hh, _⟩
  · exact .inl rfl
  · right
    rcases h2.2 with ⟨rfl, _⟩ | ⟨g2, cap2, cur2, rfl, _, hh2, _⟩
    · simp [Value.ownBlock]
    · intro e
      simp only [Value.ownBlock, Option.some.injEq] at e
      subst e
      rw [hh] at hh2
      injection hh2 with hh2
      injection hh2 with _ ht
      exact hne ht
theorem Ls.start (te tl : TypeId) (k : IntKind) (base : Nat) (W : World) : Ls te tl k base W (.slice none 0 0) (.slice none 0 0) [] [] [] :=
  ⟨World.ownsRow_nil _ _ _ _, fun i b h => by simp at h, World.ownsRow_nil _ _ _ _⟩
/-- a number more in the row -/
theorem Ls.grow {z : Int} (h : Ls te tl k base W v u xs O N) (hne : te ≠ tl) (hown : w1.ownsRow base te 1 u' (N.length + 1) (N.map (Value.int k) ++ [.int k z])) (hg : (W.alloc o).grownBy w1 u.ownBlock) (hat : u'.ownBlock = u.ownBlock ∨ u'.ownBlock = some (W.alloc o).heap.size) :
    Ls te tl k base w1 v u' xs O (N ++ [z]) := by
  refine ⟨(h.out.alloc o).kept hg (own_far h.out h.now (Ne.symm hne)), fun i b hb => ?_, by simpa using hown⟩
  obtain ⟨x, hx, A, c, rfl, hc, hcell⟩ := h.els i b hb
  refine ⟨_, hx, A, c, rfl, hc, fun hn => ?_⟩
  obtain ⟨g, cur, rfl, hbg, hh, hu, hz⟩ := hcell hn
  have hlt := (Array.getElem?_eq_some_iff.1 hh).1
  refine ⟨g, cur, rfl, hbg, ?_, ?_, hz⟩
  · rw [hg.block g (by rw [World.size_alloc]; omega) (fun e => hu e.symm)]
    exact (Below.heap_alloc W o g hlt).trans hh
  · rcases hat with e | e
    · rw [e]; exact hu
    · rw [e, World.size_alloc]; intro e2; injection e2 with e2; omega
/-- the row is put to the lists, and begun anew -/
theorem Ls.push (h : Ls te tl k base W v u xs O N) (hne : te ≠ tl) (hown : w1.ownsRow base tl 1 v' (O.length + 1) (xs ++ [u])) (hg : (W.alloc o).grownBy w1 v.ownBlock) :
    Ls te tl k base w1 v' (.slice none 0 0) (xs ++ [u]) (O ++ [N]) [] := by
  have hxl : xs.length = O.length := by have := h.out.1; omega
  have hfar : ∀ (g : Nat) (cur : Array Value), W.heap[g]? = some (Obj.cells cur te (0, 0)) → w1.heap[g]? = some (Obj.cells cur te (0, 0)) := fun g cur hh => by
    have hlt := (Array.getElem?_eq_some_iff.1 hh).1
    rw [hg.block g (by rw [World.size_alloc]; omega) (fun e => ?_)]
    · exact (Below.heap_alloc W o g hlt).trans hh
    · rcases h.out.2 with ⟨rfl, _⟩ | ⟨g2, cap2, cur2, rfl, _, hh2, _⟩
      · simp [Value.ownBlock] at e
      · simp only [Value.ownBlock, Option.some.injEq] at e
        subst e
        rw [hh] at hh2
        injection hh2 with hh2
        injection hh2 with _ ht
        exact hne ht
  refine ⟨by simpa using hown, fun i b hb => ?_, World.ownsRow_nil _ _ _ _⟩
  rcases Nat.lt_or_ge i O.length with hi | hi
  · rw [List.getElem?_append_left hi] at hb
    obtain ⟨x, hx, A, c, rfl, hc, hcell⟩ := h.els i b hb
    refine ⟨_, by rw [List.getElem?_append_left (by omega)]; exact hx, A, c, rfl, hc, fun hn => ?_⟩
    obtain ⟨g, cur, rfl, hbg, hh, hu, hz⟩ := hcell hn
    exact ⟨g, cur, rfl, hbg, hfar g cur hh, by simp [Value.ownBlock], hz⟩
  · rw [List.getElem?_append_right hi] at hb
    have hi0 : i - O.length = 0 := by
      rcases Nat.eq_zero_or_pos (i - O.length) with h0 | h0
      · exact h0
      · rw [List.getElem?_eq_none (by simp only [List.length_singleton]; omega)] at hb; simp at hb
    rw [hi0] at hb
    simp only [List.getElem?_cons_zero, Option.some.injEq] at hb
    subst hb
    refine ⟨u, by rw [List.getElem?_append_right (by omega), show i - xs.length = 0 by omega]; rfl, ?_⟩
    rcases h.now.2 with ⟨rfl, h0⟩ | ⟨g, cap, cur, rfl, hbg, hh, hle, _, _, htk⟩
    · rw [List.eq_nil_of_length_eq_zero h0]
      exact ⟨none, 0, rfl, Nat.le_refl _, fun hn => absurd rfl hn⟩
    · refine ⟨_, cap, rfl, hle, fun _ => ⟨g, cur, rfl, hbg, hfar g cur hh, by simp [Value.ownBlock], fun j z hj => ?_⟩⟩
      have h1 : (N.map (Value.int k))[j]? = some (.int k z) := by rw [List.getElem?_map, hj]; rfl
      rw [← htk, List.getElem?_take] at h1
      split at h1
      · rw [← Array.getElem?_toList]; exact h1
      · simp at h1
end

/-- a slice of slices of numbers that lies at A, below B -/
def ListAt (k : IntKind) (w : World) (B : Nat) (A : Option Addr) (bl : List (List Int)) : Prop :=
  ∀ (i : Nat) (b : List Int), bl[i]? = some b → ∃ (g : Nat) (Ai : Option Addr) (ci : Nat), A = some ⟨g, 0, none⟩ ∧ g < B ∧ w.cell? ⟨g, i, none⟩ = some (.slice Ai b.length ci) ∧ b.length ≤ ci ∧ Nums k w B Ai b
theorem ListAt.below {k : IntKind} {w w' : World} {B : Nat} {A : Option Addr} {bl : List (List Int)} (h : ListAt k w B A bl) (hb : Below B w w') : ListAt k w' B A bl := fun i b hi => by
  obtain ⟨g, Ai, ci, e, hg, hc, hl, hn⟩ := h i b hi
  exact ⟨g, Ai, ci, e, hg, (hb.cell (p := ⟨g, i, none⟩) hg).trans hc, hl, hn.below hb⟩
theorem ListAt.mono {k : IntKind} {w : World} {B B' : Nat} {A : Option Addr} {bl : List (List Int)} (h : ListAt k w B A bl) (hB : B ≤ B') : ListAt k w B' A bl := fun i b hi => by
  obtain ⟨g, Ai, ci, e, hg, hc, hl, hn⟩ := h i b hi
  exact ⟨g, Ai, ci, e, Nat.lt_of_lt_of_le hg hB, hc, hl, hn.mono hB⟩
theorem Ls.lies {te tl : TypeId} {k : IntKind} {base : Nat} {W : World} {v u : Value} {xs : List Value} {O : List (List Int)} {N : List Int} (h : Ls te tl k base W v u xs O N) : ∃ A c, v = .slice A O.length c ∧ O.length ≤ c ∧ ListAt k W W.heap.size A O := by
  rcases h.out.2 with ⟨rfl, h0⟩ | ⟨g, cap, cur, rfl, hbg, hh, hle, _⟩
  · rw [List.eq_nil_of_length_eq_zero h0]
    exact ⟨none, 0, rfl, Nat.le_refl _, fun i b hi => by simp at hi⟩
  · refine ⟨_, cap, rfl, hle, fun i b hi => ?_⟩
    obtain ⟨x, hx, A, c, rfl, hc, hcell⟩ := h.els i b hi
    have h1 := h.out.cells (g := g) rfl i _ hx
    rw [Addr.add_lit, Nat.zero_add] at h1
    refine ⟨g, A, c, rfl, (Array.getElem?_eq_some_iff.1 hh).1, h1, hc, fun hn => ?_⟩
    obtain ⟨g2, cur2, rfl, _, hh2, _, hz⟩ := hcell hn
    refine ⟨g2, 0, rfl, (Array.getElem?_eq_some_iff.1 hh2).1, fun j z hj => ?_⟩
    rw [Nat.zero_add]
    simp [World.cell?, hh2, hz j z hj]
end Go.Proofs.YtbohdmconeebeaaDoor

namespace Go.Proofs.YtbohdmconeebeaaDoor
open Go.RowKit
set_option maxRecDepth 100000

/-- what the document's Blocks leaves -/
def RBlk (w : World) (bl : List (List Int)) (e : Ending) (w' : World) : Prop := ∃ A c, e = .returned (.slice A bl.length c) ∧ bl.length ≤ c ∧ ListAt .u8 w' w'.heap.size A bl ∧ Below w.heap.size w w'
theorem RBlk.of {w w' : World} {bl O : List (List Int)} {N : List Int} {v u : Value} {xs : List Value} {te tl : TypeId} {base : Nat} (h : Ls te tl .u8 base w' v u xs O N) (he : bl = O) (hb : Below w.heap.size w w') : RBlk w bl (.returned v) w' := by
  subst he
  obtain ⟨A, c, rfl, hc, hl⟩ := h.lies
  exact ⟨A, c, rfl, hc, hl, hb⟩

set_option maxHeartbeats 4000000 in
theorem rblocks_any (a : Option Addr) (n c : Nat) (zs : List Int) (w : World) (hn : zs.length = n) (hl : n ≤ 1000000) (h1 : Nums .u8 w w.heap.size a zs) :
    Calls Tryd.prog 64 #[.slice a n c] w (RBlk w (Cb.blocks zs)) := by
  obtain ⟨i0, hi, hz0, hz1, hz2⟩ := info_parts byteInfo
  obtain ⟨j0, hj, hj0, hj1, hj2⟩ := info_parts listInfo
  have HL := Lib.hid hn
  clear hn
  go_enter Tryd.func64, Tryd.ntmps64
  go_wp2
  go_loopw [3, 4, 5, 6] (fun v u ev iv wr => ∃ (k : Nat) (e : Bool) (xs : List Value) (O : List (List Int)) (N : List Int), k ≤ n ∧ iv = .int .i64 k ∧ ev = .bool e ∧ O.length ≤ k ∧ N.length < 254 ∧ Hid (Cb.NZ N) ∧ Hid (e = true → N = []) ∧ Hid (Cb.blocks zs = O ++ Cb.rem e (N ++ zs.drop k)) ∧ Hid (Ls 5 29 .u8 w.heap.size wr v u xs O N) ∧ Hid (Below w.heap.size w wr))
    (fun _ _ _ iv _ => n - (intOf iv).toNat)
  case atStart => exact ⟨0, false, [], [], [], by omega, rfl, rfl, by simp, by simp, fun c hc => by simp at hc, fun _ => rfl, by show _ = _; simp [Cb.rem_false], Ls.start _ _ _ _ _, Below.refl _ _⟩
  case round =>
    obtain ⟨k, e, xs, O, N, hk, rfl, rfl, hOk, hN4, HN, HEm, HB, HLs, HBe⟩ := hrel
    by_cases hlt : k < n
    · obtain ⟨z, hzk⟩ : ∃ z, zs[k]? = some z := ⟨_, List.getElem?_eq_getElem (by rw [HL.out]; exact hlt)⟩
      have hbe := HBe.out
      obtain ⟨b1, o1, rfl, hb1, hc1⟩ := (h1.below hbe).open hzk
      have hlt' : (k : Int) < (n : Int) := by omega
      have hdrop : zs.drop k = z :: zs.drop (k + 1) := by
        rw [List.getElem?_eq_getElem (by rw [HL.out]; exact hlt)] at hzk
        injection hzk with hzk
        rw [← hzk, List.getElem_cons_drop]
      have hbz : Cb.blocks zs = O ++ Cb.blocks (N ++ z :: zs.drop (k + 1)) := by rw [HB.out, hdrop, Cb.rem_cons _ _ (by simp)]
      have hsz := hbe.size
      by_cases hz00 : z = 0
      · have HB2 : Hid (Cb.blocks zs = (O ++ [N]) ++ Cb.rem false ([] ++ zs.drop (k + 1))) := by
          show _ = _
          rw [hbz, hz00, Cb.blocks_nought HN.out hN4, Cb.rem_false]; simp
        subst hz00
        clear hbz hdrop hzk
        obtain ⟨Au, cu, rfl⟩ := own_slice HLs.out.now
        have HX1 : Hid (O.length + 1 ≤ maxLen) := by show _ ≤ _; unfold maxLen; omega
        have HX2 : Hid ((O.length + 1) * 24 ≤ 140737488355328) := by show _ ≤ _; omega
        have HX3 : Hid (w.heap.size ≤ (wr.alloc (.cells #[.slice Au N.length cu] 29)).heap.size) := by show _ ≤ _; rw [World.size_alloc]; omega
        go_wp2_with (at_builtin; refine wpList_append_own_at _ rfl (.tmp 18) (.tmp 20) 62 rfl w.heap.size 29 j0 (.slice none 0 0) 1 24 Tryd.underlying62 hj hj0 hj1 hj2 rfl (by decide) _ _ _ rfl (HLs.out.out.alloc _) ⟨wr.heap.size, 0, none⟩ 1 1 [_] rfl rfl (cell_one_new _ _ _) (by simp [Value.oneCell']) HX1.out HX2.out HX3.out ?_)
        intro v1 w1 hown hg _ _
        have HL1 := Lib.hid (HLs.out.push (by decide) hown hg)
        have HB1 := Lib.hid (((hbe.alloc hsz _).grown hg (by rw [World.size_alloc]; omega) (fun g hk => (HLs.out.out.lt g hk).1)))
        clear hown hg
        go_wp2
        go_roundw
        case rel => exact ⟨k + 1, false, _, O ++ [N], [], by omega, by go_num, rfl, by rw [List.length_append, List.length_singleton]; omega, by simp, fun c hc => by simp at hc, fun _ => rfl, HB2, HL1, HB1⟩
        case measure => simp [intOf]; omega
      · have hz01 : (z == 0) = false := by simp [hz00]
        have hz02 : ¬ z = 0 := hz00
        have HNz : Hid (Cb.NZ (N ++ [z])) := HN.out.append (fun c hc => by simp at hc; subst hc; exact hz00)
        have HX1 : Hid (N.length + 1 ≤ maxLen) := by show _ ≤ _; unfold maxLen; omega
        have HX2 : Hid ((N.length + 1) * 1 ≤ 140737488355328) := by show _ ≤ _; omega
        have HX3 : Hid (w.heap.size ≤ (wr.alloc (.cells #[.int .u8 z] 5)).heap.size) := by show _ ≤ _; rw [World.size_alloc]; omega
        have HBz := Lib.hid hbz
        clear hbz hdrop hzk hz00
        go_wp2_with (at_builtin; refine wpList_append_own_at _ rfl (.tmp 22) (.tmp 27) 29 rfl w.heap.size 5 i0 (.int .u8 0) 1 1 Tryd.underlying29 hi hz0 hz1 hz2 rfl (by decide) _ _ _ rfl (HLs.out.now.alloc _) ⟨wr.heap.size, 0, none⟩ 1 1 [.int .u8 z] rfl rfl (cell_one_new _ _ _) (by simp [Value.oneCell']) HX1.out HX2.out HX3.out ?_)
        intro u1 w1 hown hg _ hat
        obtain ⟨g1, cap1, rfl⟩ := ownsRow_succ hown
        have HL1 := Lib.hid (HLs.out.grow (z := z) (by decide) hown hg (by rw [World.size_alloc]; exact hat))
        have HB1 := Lib.hid (((hbe.alloc hsz _).grown hg (by rw [World.size_alloc]; omega) (fun g hk => (HLs.out.now.lt g hk).1)))
        clear hown hg hat HX1 HX2 HX3 HLs HBe
        have hs1 := HB1.out.size
        by_cases h254 : N.length + 1 = 254
        · have h255 : (N.length : Int) + 1 = 254 := by omega
          have HB2 : Hid (Cb.blocks zs = (O ++ [N ++ [z]]) ++ Cb.rem true ([] ++ zs.drop (k + 1))) := by
            show _ = _
            rw [HBz.out, show N ++ z :: zs.drop (k + 1) = (N ++ [z]) ++ zs.drop (k + 1) by simp, Cb.rem_full HNz.out (by simp; omega)]
            simp
          have H254 := Lib.hid h254
          clear h254
          have HX1 : Hid (O.length + 1 ≤ maxLen) := by show _ ≤ _; unfold maxLen; omega
          have HX2 : Hid ((O.length + 1) * 24 ≤ 140737488355328) := by show _ ≤ _; omega
          have HX3 : Hid (w.heap.size ≤ (w1.alloc (.cells #[.slice (some ⟨g1, 0, none⟩) (N.length + 1) cap1] 29)).heap.size) := by show _ ≤ _; rw [World.size_alloc]; omega
          go_wp2_with (at_builtin; refine wpList_append_own_at _ rfl (.tmp 32) (.tmp 34) 62 rfl w.heap.size 29 j0 (.slice none 0 0) 1 24 Tryd.underlying62 hj hj0 hj1 hj2 rfl (by decide) _ _ _ rfl (HL1.out.out.alloc _) ⟨w1.heap.size, 0, none⟩ 1 1 [_] rfl rfl (cell_one_new _ _ _) (by simp [Value.oneCell']) HX1.out HX2.out HX3.out ?_)
          intro v2 w2 hown hg _ _
          have HL2 := Lib.hid (HL1.out.push (by decide) hown hg)
          have HB3 := Lib.hid (((HB1.out.alloc hs1 _).grown hg (by rw [World.size_alloc]; omega) (fun g hk => (HL1.out.out.lt g hk).1)))
          clear hown hg
          go_wp2
          go_roundw
          case rel => exact ⟨k + 1, true, _, O ++ [N ++ [z]], [], by omega, by go_num, rfl, by rw [List.length_append, List.length_singleton]; omega, by simp, fun c hc => by simp at hc, fun _ => rfl, HB2, HL2, HB3⟩
          case measure => simp [intOf]; omega
        · have h255 : ¬ (N.length : Int) + 1 = 254 := by omega
          have h256 : ((N.length : Int) + 1 == 254) = false := by rw [beq_eq_false_iff_ne]; exact h255
          have HB2 : Hid (Cb.blocks zs = O ++ Cb.rem false ((N ++ [z]) ++ zs.drop (k + 1))) := by
            show _ = _
            rw [HBz.out, Cb.rem_false]; simp
          have H254 := Lib.hid h254
          clear h254
          go_wp2
          go_roundw
          case rel => exact ⟨k + 1, false, _, O, N ++ [z], by omega, by go_num, rfl, by omega, by rw [List.length_append, List.length_singleton]; have := H254.out; omega, HNz, fun h => by simp at h, HB2, HL1, HB1⟩
          case measure => simp [intOf]; omega
    · have hkn : k = n := by omega
      have hdr : zs.drop k = [] := List.drop_eq_nil_of_le (by rw [HL.out]; omega)
      have hsz := HBe.out.size
      cases e with
      | true =>
        have HF : Hid (Cb.blocks zs = O) := by
          show _ = _
          rw [HB.out, HEm.out rfl, hdr]; simp [Cb.rem]
        clear hdr
        go_wp2
        go_ret
        exact RBlk.of HLs.out HF.out HBe.out
      | false =>
        have HF : Hid (Cb.blocks zs = O ++ [N]) := by
          show _ = _
          rw [HB.out, hdr, Cb.rem_false, List.append_nil, Cb.blocks_last HN.out (by omega)]
        obtain ⟨Au, cu, rfl⟩ := own_slice HLs.out.now
        clear hdr
        have HX1 : Hid (O.length + 1 ≤ maxLen) := by show _ ≤ _; unfold maxLen; omega
        have HX2 : Hid ((O.length + 1) * 24 ≤ 140737488355328) := by show _ ≤ _; omega
        have HX3 : Hid (w.heap.size ≤ (wr.alloc (.cells #[.slice Au N.length cu] 29)).heap.size) := by show _ ≤ _; rw [World.size_alloc]; omega
        go_wp2_with (at_builtin; refine wpList_append_own_at _ rfl (.tmp 38) (.tmp 40) 62 rfl w.heap.size 29 j0 (.slice none 0 0) 1 24 Tryd.underlying62 hj hj0 hj1 hj2 rfl (by decide) _ _ _ rfl (HLs.out.out.alloc _) ⟨wr.heap.size, 0, none⟩ 1 1 [_] rfl rfl (cell_one_new _ _ _) (by simp [Value.oneCell']) HX1.out HX2.out HX3.out ?_)
        intro v1 w1 hown hg _ _
        have HL1 := Lib.hid (HLs.out.push (by decide) hown hg)
        have HB1 := Lib.hid (((HBe.out.alloc hsz _).grown hg (by rw [World.size_alloc]; omega) (fun g hk => (HLs.out.out.lt g hk).1)))
        clear hown hg
        go_wp2
        go_ret
        exact RBlk.of HL1.out HF.out HB1.out
end Go.Proofs.YtbohdmconeebeaaDoor

namespace Go.Proofs.YtbohdmconeebeaaDoor
open Go.RowKit

/-- the numbers zs lie at a, in a block from lo on, below hi -/
def NumsIn (k : IntKind) (w : World) (lo hi : Nat) (a : Option Addr) (zs : List Int) : Prop :=
  zs ≠ [] → ∃ b off, a = some ⟨b, off, none⟩ ∧ lo ≤ b ∧ b < hi ∧ ∀ j c, zs[j]? = some c → w.cell? ⟨b, off + j, none⟩ = some (.int k c)
/-- the blocks from lo on, below hi, are as they were -/
def Keeps (lo hi : Nat) (W W' : World) : Prop := W.heap.size ≤ W'.heap.size ∧ ∀ k, lo ≤ k → k < hi → W'.heap[k]? = W.heap[k]?
theorem Keeps.refl (lo hi : Nat) (W : World) : Keeps lo hi W W := ⟨Nat.le_refl _, fun _ _ _ => rfl⟩
theorem Keeps.trans {lo hi : Nat} {A B C : World} (h : Keeps lo hi A B) (k : Keeps lo hi B C) : Keeps lo hi A C := ⟨Nat.le_trans h.1 k.1, fun i h1 h2 => (k.2 i h1 h2).trans (h.2 i h1 h2)⟩
theorem Keeps.of_below {lo hi : Nat} {A B : World} (h : Below hi A B) : Keeps lo hi A B := ⟨h.size, fun k _ h2 => h.block k h2⟩
theorem Keeps.of_off {S : Nat → Prop} {lo hi : Nat} {A B : World} (h : Off S A B) (hh : hi ≤ A.heap.size) (hS : ∀ k, lo ≤ k → k < hi → ¬ S k) : Keeps lo hi A B := ⟨h.size, fun k h1 h2 => h.block k (by omega) (hS k h1 h2)⟩
theorem Keeps.cell {lo hi : Nat} {A B : World} (h : Keeps lo hi A B) {p : Addr} (h1 : lo ≤ p.block) (h2 : p.block < hi) : B.cell? p = A.cell? p := World.cell?_of_block (h.2 p.block h1 h2)
section
variable {k : IntKind} {lo lo' hi hi' : Nat} {A B : World} {a : Option Addr} {zs : List Int}
theorem NumsIn.keeps (h : NumsIn k A lo hi a zs) (hk : Keeps lo hi A B) : NumsIn k B lo hi a zs := fun hn => by
  obtain ⟨b, off, e, h1, h2, hc⟩ := h hn
  exact ⟨b, off, e, h1, h2, fun j c hj => (hk.cell (p := ⟨b, off + j, none⟩) h1 h2).trans (hc j c hj)⟩
theorem NumsIn.nums (h : NumsIn k A lo hi a zs) : Nums k A hi a zs := fun hn => by
  obtain ⟨b, off, e, _, h2, hc⟩ := h hn
  exact ⟨b, off, e, h2, hc⟩
theorem NumsIn.mono (h : NumsIn k A lo hi a zs) (hh : hi ≤ hi') : NumsIn k A lo hi' a zs := fun hn => by
  obtain ⟨b, off, e, h1, h2, hc⟩ := h hn
  exact ⟨b, off, e, h1, by omega, hc⟩
theorem NumsIn.lower (h : NumsIn k A lo hi a zs) (hh : lo' ≤ lo) : NumsIn k A lo' hi a zs := fun hn => by
  obtain ⟨b, off, e, h1, h2, hc⟩ := h hn
  exact ⟨b, off, e, by omega, h2, hc⟩
end
theorem MadeK.numsIn {e : TypeId} {k : IntKind} {w w1 : World} {L : List Int} {A : Option Addr} {c : Nat} (h : MadeK e k w w1 L (.slice A L.length c)) : NumsIn k w1 w.heap.size w1.heap.size A L := fun hn => by
  obtain ⟨b, off, rfl, hb, hc⟩ := Nums.of_own h.1 hn
  exact ⟨b, off, rfl, (h.own_ge (g := b) rfl).1, hb, hc⟩
theorem MadeK.less {T : TypeId} {k : IntKind} {w w1 w2 : World} {L : List Int} {v : Value} (h : MadeK T k w1 w2 L v) (hb : Below w.heap.size w w1) : MadeK T k w w2 L v := by
  obtain ⟨⟨e, h2⟩, hb2⟩ := h
  refine ⟨⟨e, ?_⟩, hb.trans (hb2.mono hb.size)⟩
  rcases h2 with h0 | ⟨g, cap, cur, q1, q2, q3⟩
  · exact .inl h0
  · exact .inr ⟨g, cap, cur, q1, Nat.le_trans hb.size q2, q3⟩
end Go.Proofs.YtbohdmconeebeaaDoor

namespace Go.Proofs.YtbohdmconeebeaaDoor
open Go.RowKit
set_option maxRecDepth 100000

theorem blocks_254 (zs : List Int) : ∀ b ∈ Cb.blocks zs, b.length ≤ 254 := by
  refine Cb.along (p := fun zs => ∀ b ∈ Cb.blocks zs, b.length ≤ 254) ?_ ?_ ?_ zs
  · intro b h hl x hx
    rw [Cb.blocks_last h hl] at hx
    simp at hx; subst hx; exact hl
  · intro b r h hl ih x hx
    rw [Cb.blocks_nought h hl] at hx
    rcases List.mem_cons.1 hx with rfl | hx
    · omega
    · exact ih x hx
  · intro b r h hl hr ih x hx
    rw [Cb.blocks_full h hl hr] at hx
    rcases List.mem_cons.1 hx with rfl | hx
    · omega
    · exact ih x hx
theorem join_pre {bs ys : List (List Int)} (h : bs <+: ys) : (Cb.join bs).length ≤ (Cb.join ys).length := by
  obtain ⟨t, rfl⟩ := h
  rw [Cb.join_append, List.length_append]
  omega
theorem join_take {bl : List (List Int)} {i : Nat} {b : List Int} (h : bl[i]? = some b) : Cb.join (bl.take (i + 1)) = (Cb.join (bl.take i) ++ [(b.length : Int) + 1]) ++ b := by
  rw [List.take_add_one, h, Cb.join_append]
  simp [Cb.join, Cb.one]

set_option maxHeartbeats 4000000 in
theorem rencode_any (a : Option Addr) (n c : Nat) (zs : List Int) (w : World) (hn : zs.length = n) (hl : n ≤ 1000000) (h1 : Nums .u8 w w.heap.size a zs) :
    Calls Tryd.prog 50 #[.slice a n c] w fun e w' => ∃ v, e = .returned v ∧ MadeK 5 .u8 w w' (Cb.enc zs) v := by
  obtain ⟨i0, hi, hz0, hz1, hz2⟩ := info_parts byteInfo
  have K := rblocks_any a n c zs w hn hl h1
  have hbn := blocks_many zs
  have H4 := Lib.hid (blocks_254 zs)
  have HE : Hid (Cb.enc zs = Cb.join (Cb.blocks zs)) := rfl
  have hE1 := (Cb.enc_len zs).2.1
  have HJ : ∀ i, Hid ((Cb.join ((Cb.blocks zs).take i)).length ≤ (Cb.enc zs).length) := fun i => join_pre (List.take_prefix _ _)
  generalize Cb.blocks zs = bl at *
  go_enter Tryd.func50, Tryd.ntmps50
  go_wp2_with fail
  refine K.mono ?_
  rintro e w1 ⟨A, c1, rfl, hc1, hL, hb1⟩
  clear K
  obtain ⟨M, hM⟩ : ∃ M, bl.length = M := ⟨_, rfl⟩
  rw [hM] at hc1 hbn ⊢
  have HM := Lib.hid hM
  have HB1 := Lib.hid hb1
  have HL := Lib.hid hL
  have hE2 : (Cb.enc zs).length ≤ 3000000 := by omega
  clear hM hL hE1 h1
  go_wp2
  go_loopw [3, 5] (fun v iv wr => ∃ k : Nat, k ≤ M ∧ iv = .int .i64 k ∧ Hid (MadeK 5 .u8 w1 wr (Cb.join (bl.take k)) v)) (fun _ iv _ => M - (intOf iv).toNat)
  case atStart => exact ⟨0, by omega, rfl, by show MadeK _ _ _ _ _ _; rw [List.take_zero]; exact MadeK.nil _ _ (Below.refl _ _)⟩
  case round =>
    obtain ⟨k, hk, rfl, HMd⟩ := hrel
    have hbe := HMd.out.2
    have hsz := hbe.size
    have hJk := (HJ k).out
    by_cases hlt : k < M
    · obtain ⟨b, hbk⟩ : ∃ b, bl[k]? = some b := ⟨_, List.getElem?_eq_getElem (by rw [HM.out]; exact hlt)⟩
      obtain ⟨g, Ai, ci, rfl, hg, hcell, hbl, hnb⟩ := (HL.out.below hbe) k b hbk
      have hb4 := H4.out b (List.mem_of_getElem? hbk)
      have HT := Lib.hid (join_take hbk)
      have hJk1 := (HJ (k + 1)).out
      rw [HT.out] at hJk1
      simp only [List.length_append, List.length_singleton] at hJk1
      have hlt' : (k : Int) < (M : Int) := by omega
      have hMc : (M : Int) ≤ (c1 : Int) := by omega
      have hb5 : (b.length : Int) ≤ 254 := by omega
      obtain ⟨q, hq⟩ : ∃ q, b.length = q := ⟨_, rfl⟩
      have HQ := Lib.hid hq
      rw [hq] at hcell hbl hb4 hJk1 HT hb5
      have HBK := Lib.hid hbk
      have HZ1 := Lib.hid (Nums.new .u8 wr 5 [(q : Int) + 1] #[.int .u8 ((q : Int) + 1)] rfl)
      have HX1 : Hid ((Cb.join (bl.take k)).length + 1 ≤ maxLen) := by show _ ≤ _; unfold maxLen; omega
      have HX2 : Hid (((Cb.join (bl.take k)).length + 1) * 1 ≤ 140737488355328) := by show _ ≤ _; omega
      have HX3 : Hid (w1.heap.size ≤ (wr.alloc (.cells #[.int .u8 ((q : Int) + 1)] 5)).heap.size) := by show _ ≤ _; rw [World.size_alloc]; omega
      clear hnb hq hbk
      go_wp2_with (at_builtin; refine wpList_append_any rfl (.tmp 14) (.tmp 22) 29 rfl w1.heap.size 5 i0 (.int .u8 0) 1 Tryd.underlying29 hi hz0 hz1 hz2 rfl .u8 (Cb.join (bl.take k)) [(q : Int) + 1] _ rfl (HMd.out.1.alloc _) _ 1 1 _ rfl rfl HZ1.out HX1.out HX2.out HX3.out ?_)
      intro v2 w2 hown hg2
      have HM2 := Lib.hid ((HMd.out.later (.cells #[.int .u8 ((q : Int) + 1)] 5)).more (zs := [(q : Int) + 1]) (v' := v2) (by simpa using hown) hg2)
      clear hown hg2 HX1 HX2 HX3 HZ1 hcell
      have hbe2 := HM2.out.2
      obtain ⟨g', Ai', ci', e', hg', hcell2, _, hnb2⟩ := (HL.out.below hbe2) k b (by have := HQ.out; exact HBK.out)
      injection e' with e'
      injection e' with e'
      subst e'
      rw [HQ.out] at hcell2
      have HNb2 := Lib.hid hnb2
      clear hnb2
      have hJl : (Cb.join (bl.take k) ++ [(q : Int) + 1]).length = (Cb.join (bl.take k)).length + 1 := by simp
      have HX1 : Hid ((Cb.join (bl.take k) ++ [(q : Int) + 1]).length + q ≤ maxLen) := by show _ ≤ _; rw [hJl]; unfold maxLen; omega
      have HX2 : Hid (((Cb.join (bl.take k) ++ [(q : Int) + 1]).length + q) * 1 ≤ 140737488355328) := by show _ ≤ _; rw [hJl]; omega
      have hsz2 := hbe2.size
      clear hJl
      go_wp2_with (at_builtin; refine wpList_append_any rfl (.tmp 24) (.tmp 28) 29 rfl w1.heap.size 5 i0 (.int .u8 0) 1 Tryd.underlying29 hi hz0 hz1 hz2 rfl .u8 (Cb.join (bl.take k) ++ [(q : Int) + 1]) b _ rfl HM2.out.1 _ q _ _ rfl HQ.out HNb2.out HX1.out HX2.out hsz2 ?_)
      intro v3 w3 hown hg3
      have HM3 := Lib.hid (HM2.out.more (zs := b) (v' := v3) (by simpa [Nat.add_assoc] using hown) hg3)
      clear hown hg3
      go_wp2
      go_roundw
      case rel => exact ⟨k + 1, by omega, by go_num, by show MadeK _ _ _ _ _ _; rw [HT.out]; exact HM3.out⟩
      case measure => simp [intOf]; omega
    · have HF : Hid (Cb.join (bl.take k) = Cb.enc zs) := by show _ = _; rw [HE.out, List.take_of_length_le (by rw [HM.out]; omega)]
      go_wp2
      go_ret
      exact ⟨_, rfl, by rw [← HF.out]; exact HMd.out.less HB1.out⟩
end Go.Proofs.YtbohdmconeebeaaDoor

namespace Go.Proofs.YtbohdmconeebeaaDoor
open Go.RowKit Go.Shelf
set_option maxRecDepth 100000
attribute [local go_sem] Oper.semAt_some

theorem flat_take {α : Type} (bl : List (List α)) (k : Nat) {b : List α} (hb : bl[k]? = some b) : (bl.take (k + 1)).flatten = (bl.take k).flatten ++ b := by
  rw [List.take_add_one, hb]
  simp
theorem flat_take_le {α : Type} (bl : List (List α)) (k : Nat) : (bl.take k).flatten.length ≤ bl.flatten.length := by
  conv => rhs; rw [← List.take_append_drop k bl, List.flatten_append, List.length_append]
  omega
theorem MadeK.of_row {e : TypeId} {k : IntKind} {w w' : World} {A : Option Addr} {cap : Nat} {cur : List Int} (hr : KRow e k w' A cap cur) (hA : ∀ g o s, A = some ⟨g, o, s⟩ → w.heap.size ≤ g) (hb : Below w.heap.size w w') : MadeK e k w w' [] (.slice A 0 cap) := by
  refine ⟨⟨by simp, ?_⟩, hb⟩
  rcases hr.2 with ⟨rfl, rfl⟩ | ⟨g, rfl, hm, hh⟩
  · exact .inl ⟨rfl, rfl⟩
  · exact .inr ⟨g, cap, _, rfl, hA _ _ _ rfl, hh, by simp, hm, by simp [hr.1], by simp⟩

set_option maxHeartbeats 2000000 in
theorem concat_any (A : Option Addr) (n c : Nat) (bl : List (List Int)) (w : World) (hn : bl.length = n) (hc : n ≤ c) (hl : n ≤ 1000000) (hW : bl.flatten.length ≤ 1000000) (h1 : ListAt .u8 w w.heap.size A bl) :
    Calls Tryd.prog 40 #[.slice A n c] w fun e w' => ∃ v, e = .returned v ∧ MadeK 5 .u8 w w' bl.flatten v := by
  obtain ⟨i0, hi, hz0, hzz1, hzz2⟩ := info_parts byteInfo
  have HL := Lib.hid hn
  have HW := Lib.hid hW
  clear hn hW
  go_enter Tryd.func40, Tryd.ntmps40
  go_wp2
  go_loopw [3, 5, 11] (fun s _ i wr => ∃ (k p : Nat), k ≤ n ∧ i = .int .i64 k ∧ s = .int .i64 p ∧ Hid (p = (bl.take k).flatten.length) ∧ w = wr) (fun _ _ i _ => n - (intOf i).toNat)
  case atStart => exact ⟨0, 0, by omega, rfl, rfl, rfl, rfl⟩
  case round =>
    obtain ⟨k, p, hk, rfl, rfl, HP, rfl⟩ := hrel
    by_cases hlt : k < n
    · obtain ⟨b, hb⟩ : ∃ b, bl[k]? = some b := ⟨_, List.getElem?_eq_getElem (by rw [HL.out]; exact hlt)⟩
      have hwt := flat_take bl k hb
      have hwl := flat_take_le bl (k + 1)
      rw [hwt] at hwl
      simp only [List.length_append] at hwl
      have hW2 := HW.out
      obtain ⟨g, Ai, ci, rfl, hg, hcell, hbl, hnb⟩ := h1 k b hb
      have hp : p + b.length ≤ 1000000 := by rw [HP.out]; omega
      have HN : Hid (p + b.length = (bl.take (k + 1)).flatten.length) := by show _ = _; rw [hwt, List.length_append, HP.out]
      obtain ⟨q, hq⟩ : ∃ q, b.length = q := ⟨_, rfl⟩
      rw [hq] at hcell HN hp
      have hlt' : (k : Int) < (n : Int) := by omega
      clear hb hwt hnb hq hwl hbl HP
      have hneg : ¬ ((p : Int) + (q : Int) < 0) := by omega
      go_wp2
      go_roundw
      case rel => exact ⟨k + 1, p + q, by omega, by go_num, by go_num, HN, trivial⟩
      case measure => simp [intOf]; omega
    · have hkn : k = n := by omega
      subst hkn
      have hp2 : p = bl.flatten.length := by
        rw [HP.out, List.take_of_length_le (by rw [HL.out]; omega)]
      have hp : p ≤ 1000000 := by rw [hp2]; exact HW.out
      have K := grow_any none 0 0 p [] w (KRow.nil _ _ _) (Nat.le_refl _) (by omega)
      clear hp2 HP
      go_wp2_with fail
      refine K.mono ?_
      rintro e w1 ⟨A', cap', cur', rfl, hcap, hrow, -, hb1, hA⟩
      have HM0 : Hid (MadeK 5 .u8 w w1 [] (.slice A' 0 cap')) := MadeK.of_row hrow (fun g o s e => by
        rcases hA with h | ⟨g', h, hg⟩
        · rw [h] at e; cases e
        · rw [h] at e; cases e; exact hg) hb1
      clear K hcap hrow hb1 hA
      go_wp2
      go_loopw [6, 8, 27] (fun v _ i wq => ∃ (j : Nat) (v' : Value), j ≤ k ∧ i = .int .i64 j ∧ v = v' ∧ Hid (MadeK 5 .u8 w wq (bl.take j).flatten v')) (fun _ _ i _ => k - (intOf i).toNat)
      case atStart => exact ⟨0, _, by omega, rfl, rfl, HM0⟩
      case round =>
        obtain ⟨k2, vv, hk2, rfl, hvv, HM⟩ := hrel
        subst hvv
        by_cases hlt : k2 < k
        · obtain ⟨b, hb⟩ : ∃ b, bl[k2]? = some b := ⟨_, List.getElem?_eq_getElem (by rw [HL.out]; exact hlt)⟩
          have hwt := flat_take bl k2 hb
          have hwl := flat_take_le bl (k2 + 1)
          rw [hwt] at hwl
          simp only [List.length_append] at hwl
          have hW2 := HW.out
          obtain ⟨g, Ai, ci, rfl, hg, hcell0, hbl, hnb⟩ := h1 k2 b hb
          have hcell : wr.cell? ⟨g, k2, none⟩ = some (.slice Ai b.length ci) := (HM.out.2.cell (p := ⟨g, k2, none⟩) hg).trans hcell0
          have HWT := Lib.hid hwt
          have HNB := Lib.hid (hnb.below HM.out.2)
          obtain ⟨q, hq⟩ : ∃ q, b.length = q := ⟨_, rfl⟩
          rw [hq] at hwl hcell hbl
          have HQ := Lib.hid hq
          have HX3 : Hid ((bl.take k2).flatten.length + q ≤ maxLen) := by show _ ≤ _; unfold maxLen; omega
          have HX4 : Hid (((bl.take k2).flatten.length + q) * 1 ≤ 140737488355328) := by show _ ≤ _; omega
          have hlt' : (k2 : Int) < (k : Int) := by omega
          clear hb hwt hnb hq hcell0 hwl hW2
          go_wp2_with (at_builtin; refine wpList_append_any rfl (.tmp 31) (.tmp 32) 29 rfl _ 5 i0 (.int .u8 0) 1 Tryd.underlying29 hi hz0 hzz1 hzz2 rfl .u8 _ b _ rfl HM.out.1 _ _ _ _ rfl HQ.out HNB.out HX3.out HX4.out HM.out.2.size ?_)
          intro v2 w2 hown hgr
          have HM2 := HM.out.more (zs := b) (v' := v2) (by simpa using hown) hgr
          have HF : Hid (MadeK 5 .u8 w w2 (bl.take (k2 + 1)).flatten v2) := by show MadeK _ _ _ _ _ _; rw [HWT.out]; exact HM2
          clear hown hgr HX3 HX4 HM2 HM HWT HNB
          go_wp2
          go_roundw
          case rel => exact ⟨k2 + 1, _, by omega, by go_num, rfl, HF⟩
          case measure => simp [intOf]; omega
        · have HF : Hid (MadeK 5 .u8 w wr bl.flatten u6) := by
            have := HM.out
            rw [List.take_of_length_le (by rw [HL.out]; omega)] at this
            exact this
          go_wp2
          go_ret
          exact ⟨_, rfl, HF.out⟩
end Go.Proofs.YtbohdmconeebeaaDoor

namespace Go.Proofs.YtbohdmconeebeaaDoor
open Go.RowKit Go.Shelf
set_option maxRecDepth 100000
attribute [local go_sem] Oper.semAt_some

/-- a head's bytes -/
def hdB (v k s i c : Int) : List Int := [v, k, s % 256, s / 256 % 256, s / 65536 % 256, s / 16777216, i, c]
/-- what Bytes answers -/
def HdBR (B : Nat) (v k s i c : Int) (w' : World) (e : Ending) : Prop :=
  (chk v k i c ≠ 0 ∧ e = .returned (.tuple #[.slice none 0 0, .int .i64 (chk v k i c)])) ∨
  (chk v k i c = 0 ∧ ∃ g, B ≤ g ∧ e = .returned (.tuple #[.slice (some ⟨g, 0, none⟩) 8 8, .int .i64 0]) ∧ Nums .u8 w' w'.heap.size (some ⟨g, 0, none⟩) (hdB v k s i c))

set_option maxHeartbeats 2000000 in
theorem hbytes_any (v k s i c : Int) (hs : 0 ≤ s ∧ s ≤ 4294967295) (w : World) :
    Calls Tryd.prog 39 #[hdV v k s i c] w fun e w' => HdBR w.heap.size v k s i c w' e ∧ Below w.heap.size w w' := by
  have HC := Lib.hid (check_any v k s i c)
  have hh : hdV v k s i c = .agg #[.int .i64 v, .int .i64 k, .int .u32 s, .int .i64 i, .int .i64 c] := rfl
  rw [hh] at HC ⊢
  clear hh
  by_cases h0 : chk v k i c = 0
  · have hz := chk_zero h0
    rw [h0] at HC
    have H0 := Lib.hid h0
    clear h0
    have b1 : 0 ≤ v ∧ v ≤ 255 ∧ 0 ≤ k ∧ k ≤ 255 ∧ 0 ≤ i ∧ i ≤ 255 ∧ 0 ≤ c ∧ c ≤ 255 := by omega
    clear hz
    go_enter Tryd.func39, Tryd.ntmps39
    go_wp2_with (go_at_call 20; refine (HC.out _).mono ?_; rintro e w1 ⟨rfl, hb1⟩; obtain ⟨d0, d1, d2, d3, d4⟩ := hd_cells hb1)
    go_ret2
    have hn := Nums.new .u8 w1 96 (hdB v k s i c) _ rfl
    rw [← World.size_alloc w1] at hn
    have hb := ((Below.refl _ w).alloc (Nat.le_refl _) (.cells #[.int .i64 v, .int .i64 k, .int .u32 s, .int .i64 i, .int .i64 c] 28)).trans (hb1.mono (by simp))
    exact ⟨.inr ⟨H0.out, _, hb.size, rfl, hn⟩, hb.alloc hb.size _⟩
  · have h1 : (chk v k i c != 0) = true := by simpa using h0
    have H0 := Lib.hid h0
    clear h0
    go_enter Tryd.func39, Tryd.ntmps39
    go_wp2_with (go_at_call 20; refine (HC.out _).mono ?_; rintro e w1 ⟨rfl, hb1⟩)
    go_ret2
    exact ⟨.inl ⟨H0.out, rfl⟩, ((Below.refl _ w).alloc (Nat.le_refl _) _).trans (hb1.mono (by simp))⟩
end Go.Proofs.YtbohdmconeebeaaDoor

namespace Go.Proofs.YtbohdmconeebeaaDoor
open Go.RowKit
set_option maxRecDepth 100000

/-- what Open answers of bytes: the error, the bytes -/
def openOf (zs : List Int) : Int × List Int :=
  if zs.length < 4 then (13, []) else if zs.take (zs.length - 4) ++ Cr.le4 (Cr.sum (zs.take (zs.length - 4))) = zs then (0, zs.take (zs.length - 4)) else (11, [])
/-- what Open leaves -/
def OpenR (w w' : World) (r : Int × List Int) (e : Ending) : Prop := ∃ A c, e = .returned (.tuple #[.slice A r.2.length c, .int .i64 r.1]) ∧ r.2.length ≤ c ∧ Nums .u8 w' w'.heap.size A r.2 ∧ Below w.heap.size w w'

theorem le4_bytes (n : Nat) : Bytes (Cr.le4 n) := fun z hz => ⟨Cr.le4_ge n z hz, Cr.le4_lt n z hz⟩

end Go.Proofs.YtbohdmconeebeaaDoor

namespace Go.Proofs.YtbohdmconeebeaaDoor
section
variable {P : Program} {ops : Array Oper} {md : Region.Mode}

/-- 0: it looks at no memory and enters no function; 2: a store; 1: all others -/
def pureOp (o : Oper) : Bool :=
  match o.op with
  | .move _ | .assign _ | .binOp _ _ _ _ _ | .unOp _ _ _ | .convert _ _ _ | .slice _ _ _ _ _ | .fieldAddr _ _ _ | .indexAddr _ _ _ | .extract _ _ | .pick _ _ _ => true
  | .call c =>
    match c.callee with
    | .builtin .len | .builtin .cap | .builtin .min | .builtin .max => true
    | _ => false
  | _ => false
def kindOf (o : Oper) : Nat :=
  if pureOp o then 0 else match o.op with
    | .store _ _ _ => 2
    | _ => 1
theorem run_value (s : Sem Value) (w w' : World) (f : FuncId) (args : Array Value) : (do pure (Next.value (← s)) : Sem Next).run P w ≠ .ok (.enter f args) w' := by
  intro h
  rw [Sem.run_bind] at h
  cases hs : s.run P w with
  | ok x w1 => rw [hs] at h; simp [Result.andThen] at h
  | halt x w1 => rw [hs] at h; simp [Result.andThen] at h
theorem andThen_value (r : Result Value) (w' : World) (f : FuncId) (args : Array Value) : (r.andThen fun a w' => Result.ok (Next.value a) w') ≠ .ok (.enter f args) w' := by
  intro h
  cases r <;> simp [Result.andThen] at h
theorem pure_no_enter {o : Oper} (ho : pureOp o = true) (ρ : Operand → Value) (w w' : World) (f : FuncId) (args : Array Value) : (execOp ρ o).run P w ≠ .ok (.enter f args) w' := by
  unfold pureOp at ho
  unfold execOp
  cases hop : o.op <;> simp only [hop] at ho ⊢ <;> try contradiction
  all_goals first
    | exact run_value _ _ _ _ _
    | (intro h; simp at h; done)
    | skip
  case pick c x y =>
    intro h
    rw [Sem.run_bind] at h
    cases hs : (asBool (ρ c)).run P w with
    | ok x w1 => rw [hs] at h; simp [Result.andThen] at h
    | halt x w1 => rw [hs] at h; simp [Result.andThen] at h
  case call c =>
    obtain ⟨callee, cargs, cts⟩ := c
    cases callee with
    | builtin b =>
      cases b <;> simp at ho <;>
      · intro h
        simp [resolve, invoke, builtin] at h
        exact andThen_value _ _ _ _ h
    | _ => simp at ho

def stepUpon (C' : World → Prop) (v : Value) : Result Next → Prop
  | .ok (.value u) w' => u = v ∧ C' w'
  | .ok .skip w' => v = undef ∧ C' w'
  | _ => False
def StepsIn (P : Program) (ops : Array Oper) (C C' : World → Prop) (o : Oper) (v : Value) (a : Act) : Prop :=
  (Region.wanted o (yielded ops a.tmps) = true ∧ ∀ w, C w → stepUpon C' v ((execOp a.eval o).run P w)) ∨ (Region.wanted o (yielded ops a.tmps) = false ∧ v = undef ∧ C' = C)
/-- what an operation does to the class of worlds, and its value -/
def OpR (P : Program) (ops : Array Oper) (C C' : World → Prop) (o : Oper) (v : Value) (a : Act) : Prop :=
  (kindOf o = 0 ∧ C' = C ∧ YieldsIn P ops (fun _ => True) o v a) ∨ (kindOf o = 1 ∧ C' = C ∧ YieldsIn P ops C o v a) ∨ (kindOf o = 2 ∧ StepsIn P ops C C' o v a)
theorem kind_pure {o : Oper} (h : kindOf o = 0) : pureOp o = true := by
  unfold kindOf at h
  split at h
  · assumption
  · split at h <;> simp at h
theorem yields_pure {o : Oper} {v : Value} {a : Act} (hk : kindOf o = 0) (h : YieldsIn P ops (fun _ => True) o v a) (C : World → Prop) : YieldsIn P ops C o v a := by
  rcases h with ⟨hw, h⟩ | h
  · refine .inl ⟨hw, fun w _ => ?_⟩
    have h1 := h w trivial
    have h2 := pure_no_enter (P := P) (kind_pure hk) a.eval w
    unfold Oper.quietAt at h1 ⊢
    generalize (execOp a.eval o).run P w = r at h1 h2
    cases r with
    | ok n w' =>
      cases n with
      | enter f args => exact absurd rfl (h2 w' f args)
      | _ => exact h1
    | halt x w' => exact h1
  · exact .inr h
theorem OpR.of_same {C C' : World → Prop} {o : Oper} {v : Value} {a a' : Act} (h : OpR P ops C C' o v a) (he : execOp a'.eval o = execOp a.eval o) (hw : Region.wanted o (yielded ops a'.tmps) = Region.wanted o (yielded ops a.tmps)) : OpR P ops C C' o v a' := by
  rcases h with ⟨hk, hc, h⟩ | ⟨hk, hc, h⟩ | ⟨hk, h⟩
  · exact .inl ⟨hk, hc, h.of_same he hw⟩
  · exact .inr (.inl ⟨hk, hc, h.of_same he hw⟩)
  · refine .inr (.inr ⟨hk, ?_⟩)
    unfold StepsIn at *
    rw [he, hw]
    exact h
theorem OpR.wpOp {C C' : World → Prop} {i : Nat} {o : Oper} {v : Value} {a : Act} {K : Act → World → Prop} {Q' : Exit → Act → World → Prop} {w : World} (hi : ops[i]? = some o) (h : OpR P ops C C' o v a) (hC : C w) (hK : ∀ w', C' w' → K (a.put o.dst v) w') : wpOp P ops Q' i K a w := by
  have quiet : ∀ {D : World → Prop}, D w → (∀ w', D w' → K (a.put o.dst v) w') → YieldsIn P ops D o v a → Go.wpOp P ops Q' i K a w := fun {D} hD hK hy => by
    unfold Go.wpOp
    simp only [hi]
    rcases hy with ⟨hw, hv⟩ | ⟨hw, rfl⟩
    · simp only [hw, if_true]
      exact .inl (Oper.wp_of_quiet (C := D) (K := fun a' => a' = a.put o.dst v) hD (fun a' w' hw' e => by subst e; exact hK w' hw') ⟨v, hv, rfl⟩)
    · simp only [hw, Bool.false_eq_true, if_false]
      exact hK w hD
  rcases h with ⟨hk, rfl, h⟩ | ⟨hk, rfl, h⟩ | ⟨hk, h⟩
  · exact quiet hC hK (yields_pure hk h _)
  · exact quiet hC hK h
  · unfold Go.wpOp
    simp only [hi]
    rcases h with ⟨hw, hv⟩ | ⟨hw, rfl, rfl⟩
    · simp only [hw, if_true]
      left
      have h1 := hv w hC
      unfold Oper.wp
      generalize (execOp a.eval o).run P w = r at h1
      cases r with
      | ok n w' =>
        cases n <;> simp only [stepUpon] at h1 <;> simp only [Oper.upon]
        case value u => rw [h1.1]; exact hK w' h1.2
        case skip => rw [← h1.1]; exact hK w' h1.2
      | halt x w' => simp only [stepUpon] at h1
    · simp only [hw, Bool.false_eq_true, if_false]
      exact hK w hC

/-- whatever order is picked from here on -/
def wpAny2 (P : Program) (md : Region.Mode) (ops : Array Oper) (Q : (World → Prop) → Act → Prop) : Nat → Array Bool → (World → Prop) → Act → Prop
  | 0, listed, C, a => Region.ready md ops listed = [] ∧ Q C a
  | fuel + 1, listed, C, a =>
    (Region.ready md ops listed = [] → Q C a) ∧
    ∀ i ∈ Region.ready md ops listed, ∀ o, ops[i]? = some o → ∃ v C', OpR P ops C C' o v a ∧ wpAny2 P md ops Q fuel (listed.setIfInBounds i true) C' (a.put o.dst v)
theorem wpAny_of_2 {Q : (World → Prop) → Act → Prop} {Q' : Exit → Act → World → Prop} (hQ : ∀ (C : World → Prop) a w, C w → Q C a → Q' .normal a w) : ∀ (fuel : Nat) (listed : Array Bool) (C : World → Prop) (a : Act) (w : World), C w →
    wpAny2 P md ops Q fuel listed C a → wpAny P md ops Q' fuel listed a w
  | 0, _, _, _, _, hw, h => ⟨h.1, hQ _ _ _ hw h.2⟩
  | fuel + 1, _, _, _, _, hw, h => ⟨fun h0 => hQ _ _ _ hw (h.1 h0), fun i hi => by
      obtain ⟨_, o, ho, _⟩ := mem_ready.1 hi
      obtain ⟨v, C', hr, hn⟩ := h.2 i hi o ho
      exact hr.wpOp ho hw fun w' hw' => wpAny_of_2 hQ fuel _ C' _ w' hw' hn⟩

/-- nothing that may come up beside it stands in its way -/
def free2 (md : Region.Mode) (ops : Array Oper) (listed : Array Bool) (k : Nat) : Bool :=
  match ops[k]? with
  | none => false
  | some ok => (List.range ops.size).all fun j => j == k || listed.getD j true ||
    (match ops[j]? with
     | some oj => oj.after.any (fun e => Region.binds md e && e.on == k) || (ok.apart ops oj && (kindOf ok == 0 || (kindOf ok == 1 && kindOf oj != 2)))
     | none => true)
def Free (md : Region.Mode) (ops : Array Oper) (listed : Array Bool) (i : Nat) (oi : Oper) : Prop :=
  ∀ j oj, ops[j]? = some oj → j ≠ i → listed.getD j true = false → (∀ e ∈ oj.after, Region.binds md e = true → e.on ≠ i) → oi.apart ops oj = true ∧ (kindOf oi = 0 ∨ (kindOf oi = 1 ∧ kindOf oj ≠ 2))
theorem free2_spec {i : Nat} {oi : Oper} {listed : Array Bool} (hi : ops[i]? = some oi) (h : free2 md ops listed i = true) : Free md ops listed i oi := by
  intro j oj hj hne hun hno
  simp only [free2, hi, List.all_eq_true, List.mem_range] at h
  have h1 := h j (Array.getElem?_eq_some_iff.1 hj).1
  simp only [hj, Bool.or_eq_true, beq_iff_eq, hne, false_or, hun, Bool.false_eq_true, Bool.and_eq_true, bne_iff_ne, ne_eq] at h1
  rcases h1 with h1 | h1
  · obtain ⟨e, he, hb⟩ := Array.any_eq_true'.1 h1
    simp only [Bool.and_eq_true, beq_iff_eq] at hb
    exact absurd hb.2 (hno e he hb.1)
  · exact h1
/-- an operation that may come up now may be taken first -/
theorem wpAny2_first {Q : (World → Prop) → Act → Prop} {i : Nat} {oi : Oper} {v : Value} (hi : ops[i]? = some oi) (hsel : ∀ (j : Nat) (o : Oper) cs b, ops[j]? = some o → o.op ≠ .select cs b) :
    ∀ (fuel : Nat) (listed : Array Bool) (C C1 : World → Prop) (a : Act), Free md ops listed i oi → i ∈ Region.ready md ops listed → OpR P ops C C1 oi v a →
      wpAny2 P md ops Q fuel (listed.setIfInBounds i true) C1 (a.put oi.dst v) → wpAny2 P md ops Q (fuel + 1) listed C a := by
  intro fuel
  induction fuel with
  | zero =>
    intro listed C C1 a _ hr hy H
    refine ⟨fun h => (by rw [h] at hr; cases hr), fun j hj o ho => ?_⟩
    by_cases hji : j = i
    · subst hji
      have : o = oi := Option.some.inj (ho.symm.trans hi)
      subst this
      exact ⟨v, C1, hy, H⟩
    · have := ready_mono hj hji
      rw [H.1] at this
      cases this
  | succ fuel ih =>
    intro listed C C1 a hfree hr hy H
    refine ⟨fun h => (by rw [h] at hr; cases hr), fun j hj oj hoj => ?_⟩
    by_cases hji : j = i
    · subst hji
      have : oj = oi := Option.some.inj (hoj.symm.trans hi)
      subst this
      exact ⟨v, C1, hy, H⟩
    · obtain ⟨hjun, oj', hoj', hall⟩ := mem_ready.1 hj
      have : oj' = oj := Option.some.inj (hoj'.symm.trans hoj)
      subst this
      have hnot : ∀ e ∈ oj'.after, Region.binds md e = true → e.on ≠ i := fun e he hb heq => by
        have h1 := hall e he hb
        have h0 := (mem_ready.1 hr).1
        rw [heq] at h1
        rcases Nat.lt_or_ge i listed.size with h' | h'
        · simp [h'] at h0 h1; rw [h0] at h1; cases h1
        · simp [Array.getElem?_eq_none h'] at h1
      obtain ⟨hap, hkind⟩ := hfree j oj' hoj hji hjun hnot
      obtain ⟨p1, p2, p3⟩ := Oper.apart_spec hap
      have hC1 : C1 = C := by
        rcases hy with ⟨_, h, _⟩ | ⟨_, h, _⟩ | ⟨hk2, _⟩
        · exact h
        · exact h
        · rcases hkind with h | ⟨h, _⟩ <;> rw [h] at hk2 <;> simp at hk2
      subst hC1
      obtain ⟨u, C2, hR, hn⟩ := H.2 j (ready_mono hj hji) oj' hoj
      have hsi : ∀ cs b, oi.op ≠ .select cs b := fun cs b => hsel i oi cs b hi
      have hsj : ∀ cs b, oj'.op ≠ .select cs b := fun cs b => hsel j oj' cs b hoj
      have hRa : OpR P ops C1 C2 oj' u a := hR.of_same (execOp_put oj' hsj a oi.dst v p1).symm (wanted_put oj' a oi.dst v p1).symm
      have hyu : OpR P ops C2 C2 oi v (a.put oj'.dst u) := by
        have h0 := hy.of_same (a' := a.put oj'.dst u) (execOp_put oi hsi a oj'.dst u p3) (wanted_put oi a oj'.dst u p3)
        rcases h0 with ⟨hk, _, h⟩ | ⟨hk, _, h⟩ | ⟨hk, _⟩
        · exact .inl ⟨hk, rfl, h⟩
        · have hC2 : C2 = C1 := by
            rcases hkind with h' | ⟨_, h'⟩
            · rw [hk] at h'; simp at h'
            · rcases hR with ⟨_, h2, _⟩ | ⟨_, h2, _⟩ | ⟨h2, _⟩
              · exact h2
              · exact h2
              · exact absurd h2 h'
          subst hC2
          exact .inr (.inl ⟨hk, rfl, h⟩)
        · rcases hkind with h' | ⟨h', _⟩ <;> rw [hk] at h' <;> simp at h'
      refine ⟨u, C2, hRa, ih (listed.setIfInBounds j true) C2 C2 _ ?_ (ready_mono hr (Ne.symm hji)) hyu ?_⟩
      · intro k ok hk hki hun hno
        refine hfree k ok hk hki ?_ hno
        by_cases hjk : j = k
        · subst hjk; exact hjun
        · rw [getD_set_ne true hjk] at hun; exact hun
      · rw [Array.setIfInBounds_comm _ _ hji]
        rw [Act.put_comm a v u p2] at hn
        exact hn

def lexFrom2 (md : Region.Mode) (ops : Array Oper) : Nat → Nat → Array Bool → Bool
  | 0, _, listed => (Region.ready md ops listed).isEmpty
  | fuel + 1, k, listed => (Region.ready md ops listed).contains k && free2 md ops listed k && lexFrom2 md ops fuel (k + 1) (listed.setIfInBounds k true)
def lexB2 (md : Region.Mode) (ops : Array Oper) : Bool := Region.noSelect ops && lexFrom2 md ops ops.size 0 (Array.replicate ops.size false)
/-- the walk in the text's order -/
def wpQ2 (P : Program) (ops : Array Oper) (Q : (World → Prop) → Act → Prop) : List Oper → (World → Prop) → Act → Prop
  | [], C, a => Q C a
  | o :: rest, C, a => ∃ v C', OpR P ops C C' o v a ∧ wpQ2 P ops Q rest C' (a.put o.dst v)
theorem wpAny2_lex {Q : (World → Prop) → Act → Prop} (hs : Region.noSelect ops = true) : ∀ (l : List Oper) (k : Nat) (listed : Array Bool) (C : World → Prop) (a : Act), (∀ j, l[j]? = ops[k + j]?) →
    lexFrom2 md ops l.length k listed = true → wpQ2 P ops Q l C a → wpAny2 P md ops Q l.length listed C a
  | [], _, _, _, _, _, hB, h => ⟨by simpa [lexFrom2] using hB, h⟩
  | o :: l, k, listed, C, a, hl, hB, h => by
    have h0 : ops[k]? = some o := by simpa using (hl 0).symm
    simp only [List.length_cons, lexFrom2, Bool.and_eq_true] at hB
    obtain ⟨⟨hr, hf⟩, hB'⟩ := hB
    obtain ⟨v, C', hR, hn⟩ := h
    exact wpAny2_first h0 (Region.noSelect_spec hs) l.length listed C C' a (free2_spec h0 hf) (by simpa using hr) hR
      (wpAny2_lex hs l (k + 1) _ C' _ (fun j => by have := hl (j + 1); simpa [Nat.add_assoc, Nat.add_comm 1 j] using this) hB' hn)
/-- ONE WALK IN THE TEXT's ORDER SERVES EVERY ORDER -/
theorem wp_region_lex2 {id : Nat} {Q : Exit → Act → World → Prop} {a : Act} {w : World} {l : List Oper} {C : World → Prop} (hm : P.follows .mixedOrders = true) (hB : lexB2 .any l.toArray = true) (hC : C w.drew)
    (h : wpQ2 P l.toArray (fun C a' => ∀ w', C w' → Q .normal a' w') l C a) : (Code.region id l.toArray true).wp P Q a w := by
  simp only [lexB2, Bool.and_eq_true] at hB
  refine wp_region_any hm (wpAny_of_2 (Q := fun C a' => ∀ w', C w' → Q .normal a' w') (fun C a w' hw' h => h w' hw') _ _ C _ _ hC ?_)
  have := wpAny2_lex (md := .any) hB.1 l 0 (Array.replicate l.toArray.size false) C a (by simp) (by simpa using hB.2) h
  simpa using this
/-! one operation of the walk -/
theorem wpQ2_quiet {Q : (World → Prop) → Act → Prop} {o : Oper} {rest : List Oper} {C D : World → Prop} {a : Act} (hk : (kindOf o = 0 ∧ D = fun _ => True) ∨ (kindOf o = 1 ∧ D = C)) (h : wpQuiet P ops D (fun a' => wpQ2 P ops Q rest C a') [o] a) : wpQ2 P ops Q (o :: rest) C a := by
  have key : ∃ v, YieldsIn P ops D o v a ∧ wpQ2 P ops Q rest C (a.put o.dst v) := by
    unfold wpQuiet at h
    by_cases hw : Region.wanted o (yielded ops a.tmps) = true
    · simp only [hw, if_true] at h
      obtain ⟨v, h1, h2⟩ := h
      exact ⟨v, .inl ⟨hw, h1⟩, h2⟩
    · simp only [hw] at h
      exact ⟨undef, .inr ⟨by simpa using hw, rfl⟩, h⟩
  obtain ⟨v, hy, hn⟩ := key
  rcases hk with ⟨hk, rfl⟩ | ⟨hk, rfl⟩
  · exact ⟨v, C, .inl ⟨hk, rfl, hy⟩, hn⟩
  · exact ⟨v, D, .inr (.inl ⟨hk, rfl, hy⟩), hn⟩
theorem wpQ2_pure {Q : (World → Prop) → Act → Prop} {o : Oper} {rest : List Oper} {C : World → Prop} {a : Act} (hk : kindOf o = 0) (h : wpQuiet P ops (fun _ => True) (fun a' => wpQ2 P ops Q rest C a') [o] a) : wpQ2 P ops Q (o :: rest) C a := wpQ2_quiet (.inl ⟨hk, rfl⟩) h
theorem wpQ2_look {Q : (World → Prop) → Act → Prop} {o : Oper} {rest : List Oper} {C : World → Prop} {a : Act} (hk : kindOf o = 1) (h : wpQuiet P ops C (fun a' => wpQ2 P ops Q rest C a') [o] a) : wpQ2 P ops Q (o :: rest) C a := wpQ2_quiet (.inr ⟨hk, rfl⟩) h
/-- a store of one cell -/
theorem wpQ2_store {Q : (World → Prop) → Act → Prop} {o : Oper} {rest : List Oper} {C : World → Prop} {a : Act} (C' : World → Prop) {t : TypeId} {x y : Operand} (ho : o.op = .store t x y) (hd : o.dst = none) (hg : o.guard = none) (ad : Addr) (v : Value) (hx : a.eval x = .pointer (some ad)) (hy : a.eval y = v)
    (hrun : ∀ w, C w → ∃ w', (Instr.storeAt t (.pointer (some ad)) v).run P w = .ok () w' ∧ C' w') (h : wpQ2 P ops Q rest C' a) : wpQ2 P ops Q (o :: rest) C a := by
  refine ⟨undef, C', .inr (.inr ⟨?_, .inl ⟨by simp [Region.wanted, hg], fun w hw => ?_⟩⟩), ?_⟩
  · simp [kindOf, pureOp, ho]
  · obtain ⟨w', hr, hc⟩ := hrun w hw
    unfold execOp
    simp only [ho, hx, hy]
    rw [Sem.run_bind, hr]
    exact ⟨rfl, hc⟩
  · rw [hd]; exact h
end
end Go.Proofs.YtbohdmconeebeaaDoor

namespace Go.Proofs.YtbohdmconeebeaaDoor
open Go.RowKit
section
variable {P : Program} {ops : Array Oper} {md : Region.Mode}

/-- it stands while memory grows -/
def Closed (I : World → Prop) : Prop := ∀ w w', I w → Below w.heap.size w w' → I w'
def calmUpon (P : Program) (w : World) (v : Value) : Result Next → Prop
  | .ok (.value u) w' => w' = w ∧ u = v
  | .ok .skip w' => w' = w ∧ v = undef
  | .ok (.enter f args) w' => w' = w ∧ Calls P f args w (fun e w'' => e = .returned v ∧ Below w.heap.size w w'')
  | _ => False
def srcUpon (P : Program) (F : Value → World → Prop) (w : World) : Result Next → Prop
  | .ok (.value u) w' => F u w' ∧ Below w.heap.size w w'
  | .ok (.enter f args) w' => w' = w ∧ Calls P f args w (fun e w'' => ∃ u, e = .returned u ∧ F u w'' ∧ Below w.heap.size w w'')
  | _ => False
/-- one value, in every world of the class -/
def CalmIn (P : Program) (ops : Array Oper) (I : World → Prop) (o : Oper) (v : Value) (a : Act) : Prop :=
  (Region.wanted o (yielded ops a.tmps) = true ∧ ∀ w, I w → calmUpon P w v ((execOp a.eval o).run P w)) ∨ (Region.wanted o (yielded ops a.tmps) = false ∧ v = undef)
theorem put_same {a : Act} {d : Tmp} (v : Value) (h : d < a.tmps.size) : (a.put (some d) v).tmps[d]? = some v := by simp [Act.put, h]
theorem put_other {a : Act} {x : Option Tmp} {d : Tmp} (v : Value) (h : x ≠ some d) : (a.put x v).tmps[d]? = a.tmps[d]? := by
  cases x with
  | none => rfl
  | some e =>
    have hne : e ≠ d := fun he => h (by rw [he])
    simp [Act.put, Array.getElem?_setIfInBounds_ne hne]
theorem put_size (a : Act) (x : Option Tmp) (v : Value) : (a.put x v).tmps.size = a.tmps.size := by cases x <;> simp [Act.put]
theorem put_defers (a : Act) (x : Option Tmp) (v : Value) : (a.put x v).defers = a.defers := by cases x <;> rfl
def fill : List Tmp → (Tmp → Value) → Act → Act
  | [], _, a => a
  | s :: r, xs, a => fill r xs (a.put (some s) (xs s))
theorem fill_size : ∀ (fs : List Tmp) (xs : Tmp → Value) (a : Act), (fill fs xs a).tmps.size = a.tmps.size ∧ (fill fs xs a).defers = a.defers
  | [], _, _ => ⟨rfl, rfl⟩
  | s :: r, xs, a => by
    obtain ⟨h1, h2⟩ := fill_size r xs (a.put (some s) (xs s))
    exact ⟨h1.trans (put_size ..), h2.trans (put_defers ..)⟩
theorem fill_out : ∀ (fs : List Tmp) (xs : Tmp → Value) (a : Act) (d : Tmp), d ∉ fs → (fill fs xs a).tmps[d]? = a.tmps[d]?
  | [], _, _, _, _ => rfl
  | s :: r, xs, a, d, h => by
    rw [List.mem_cons, not_or] at h
    exact (fill_out r xs _ d h.2).trans (put_other _ (by simpa using fun e => h.1 e.symm))
theorem fill_in : ∀ (fs : List Tmp) (xs : Tmp → Value) (a : Act) (d : Tmp), d ∈ fs → d < a.tmps.size → (fill fs xs a).tmps[d]? = some (xs d)
  | s :: r, xs, a, d, h, hlt => by
    by_cases hr : d ∈ r
    · exact fill_in r xs _ d hr (by rw [put_size]; exact hlt)
    · rcases List.mem_cons.1 h with rfl | h
      · exact (fill_out r xs _ d hr).trans (put_same _ hlt)
      · exact absurd h hr
/-- what is to be shown of one operation: it looks at no source; it is one; it looks at one; it is one and looks at others -/
def Ob (P : Program) (ops : Array Oper) (I : World → Prop) (fs : List Tmp) (FS : Tmp → Value → World → Prop) (o : Oper) (v : Value) (a : Act) : Prop :=
  ((∀ d ∈ o.looksAt ops, d ∉ fs) ∧ (∀ d, o.dst = some d → d ∉ fs) ∧ CalmIn P ops I o v a) ∨
  (∃ s, s ∈ fs ∧ o.dst = some s ∧ (∀ d ∈ o.looksAt ops, d ∉ fs) ∧ Region.wanted o (yielded ops a.tmps) = true ∧ ∀ w, I w → srcUpon P (FS s) w ((execOp a.eval o).run P w)) ∨
  (∃ s, s ∈ fs ∧ (∃ j, (ops[j]?).bind (·.dst) = some s ∧ o.after.any (fun e => Region.binds .any e && e.on == j) = true) ∧ (∀ d ∈ o.looksAt ops, d ∈ fs → d = s) ∧ (∀ d, o.dst = some d → d ∉ fs) ∧
    ∀ x w, I w → FS s x w → Region.wanted o (yielded ops (a.put (some s) x).tmps) = true ∧ calmUpon P w v ((execOp (a.put (some s) x).eval o).run P w)) ∨
  (∃ s R, s ∈ fs ∧ o.dst = some s ∧ (∀ r ∈ R, r ∈ fs ∧ ∃ j, (ops[j]?).bind (·.dst) = some r ∧ o.after.any (fun e => Region.binds .any e && e.on == j) = true) ∧ (∀ d ∈ o.looksAt ops, d ∈ fs → d ∈ R) ∧
    ∀ xs w, I w → (∀ r ∈ R, FS r (xs r) w) → Region.wanted o (yielded ops (fill R xs a).tmps) = true ∧ srcUpon P (FS s) w ((execOp (fill R xs a).eval o).run P w))
/-- the walk in the text's order -/
def wpF (P : Program) (ops : Array Oper) (I : World → Prop) (fs : List Tmp) (FS : Tmp → Value → World → Prop) (E : Act → Prop) : List Oper → Act → Prop
  | [], a => E a
  | o :: r, a => ∃ v, Ob P ops I fs FS o v a ∧ wpF P ops I fs FS E r (a.put o.dst v)
def lex : List Oper → List Value → Act → Nat → Act
  | o :: r, v :: vs, a, k + 1 => lex r vs (a.put o.dst v) k
  | _, _, a, _ => a
theorem lex_zero (l : List Oper) (vs : List Value) (a : Act) : lex l vs a 0 = a := by cases l <;> cases vs <;> rfl
section
variable {I : World → Prop} {fs : List Tmp} {FS : Tmp → Value → World → Prop} {E : Act → Prop}
theorem wpF_vals : ∀ (l : List Oper) (a : Act), wpF P ops I fs FS E l a → ∃ vs : List Value, vs.length = l.length ∧
    (∀ (k : Nat) o v, l[k]? = some o → vs[k]? = some v → Ob P ops I fs FS o v (lex l vs a k)) ∧ E (lex l vs a l.length)
  | [], a, h => ⟨[], rfl, by simp, h⟩
  | o :: r, a, ⟨v, hob, hr⟩ => by
    obtain ⟨vs, h1, h2, h3⟩ := wpF_vals r _ hr
    refine ⟨v :: vs, by simp [h1], fun k o' v' ho hv => ?_, h3⟩
    cases k with
    | zero =>
      simp only [List.getElem?_cons_zero, Option.some.injEq] at ho hv
      subst ho hv
      exact hob
    | succ k =>
      simp only [List.getElem?_cons_succ] at ho hv
      exact h2 k o' v' ho hv
end
theorem lex_size : ∀ (l : List Oper) (vs : List Value) (a : Act) (k : Nat), (lex l vs a k).tmps.size = a.tmps.size ∧ (lex l vs a k).defers = a.defers
  | o :: r, v :: vs, a, k + 1 => by
    obtain ⟨h1, h2⟩ := lex_size r vs (a.put o.dst v) k
    exact ⟨h1.trans (put_size ..), h2.trans (put_defers ..)⟩
  | [], _, _, _ => by simp [lex]
  | _ :: _, [], _, _ => by simp [lex]
  | _ :: _, _ :: _, _, 0 => by simp [lex]
theorem lex_out : ∀ (l : List Oper) (vs : List Value) (a : Act) (k : Nat) (d : Tmp), (∀ (j : Nat) o, l[j]? = some o → j < k → o.dst ≠ some d) → (lex l vs a k).tmps[d]? = a.tmps[d]?
  | o :: r, v :: vs, a, k + 1, d, h => by
    have h0 := h 0 o rfl (by omega)
    exact (lex_out r vs (a.put o.dst v) k d fun j o' hj hk => h (j + 1) o' (by simpa using hj) (by omega)).trans (put_other v h0)
  | [], _, _, _, _, _ => by simp [lex]
  | _ :: _, [], _, _, _, _ => by simp [lex]
  | _ :: _, _ :: _, _, 0, _, _ => by simp [lex]
theorem lex_in : ∀ (l : List Oper) (vs : List Value) (a : Act) (k j : Nat) (o : Oper) (d : Tmp) (v : Value), l[j]? = some o → j < k → vs[j]? = some v → o.dst = some d → d < a.tmps.size →
    (∀ (i : Nat) oi, l[i]? = some oi → i < k → i ≠ j → oi.dst ≠ some d) → (lex l vs a k).tmps[d]? = some v
  | o :: r, v :: vs, a, k + 1, 0, o', d, v', ho, _, hv, hd, hlt, hu => by
    simp only [List.getElem?_cons_zero, Option.some.injEq] at ho hv
    subst ho hv
    refine (lex_out r vs _ k d fun i oi hi hik => hu (i + 1) oi (by simpa using hi) (by omega) (by omega)).trans ?_
    rw [hd]
    exact put_same v hlt
  | o :: r, v :: vs, a, k + 1, j + 1, o', d, v', ho, hjk, hv, hd, hlt, hu => by
    simp only [List.getElem?_cons_succ] at ho hv
    exact lex_in r vs _ k j o' d v' ho (by omega) hv hd (by rw [put_size]; exact hlt) fun i oi hi hik hij => hu (i + 1) oi (by simpa using hi) (by omega) (by omega)
  | [], _, _, _, _, _, _, _, ho, _, _, _, _, _ => by simp at ho
  | _ :: _, [], _, _, _, _, _, _, _, _, hv, _, _, _ => by simp at hv
  | _ :: _, _ :: _, _, 0, _, _, _, _, _, hk, _, _, _, _ => by omega

/-- k waits for j -/
def seenB (md : Region.Mode) (ops : Array Oper) (k j : Nat) : Bool :=
  match ops[k]? with
  | some o => o.after.any fun e => Region.binds md e && e.on == j
  | none => false
/-- each operation waits for earlier ones alone; slots are written once; who looks at a slot waits for its writer, or the writer for him -/
def rgB (md : Region.Mode) (ops : Array Oper) (N : Nat) : Bool :=
  Region.noSelect ops && (List.range ops.size).all fun k =>
    match ops[k]? with
    | none => false
    | some o =>
      (match o.dst with | some d => decide (d < N) | none => true) && o.after.all (fun e => !Region.binds md e || decide (e.on < k)) &&
      (List.range ops.size).all fun j =>
        match ops[j]? with
        | none => false
        | some oj =>
          match oj.dst with
          | none => true
          | some d => (k == j || o.dst != some d) && (!(o.looksAt ops).contains d || (decide (j < k) && seenB md ops k j) || (decide (k < j) && seenB md ops j k))
structure RG (md : Region.Mode) (ops : Array Oper) (N : Nat) : Prop where
  sel : ∀ (j : Nat) (o : Oper) cs b, ops[j]? = some o → o.op ≠ .select cs b
  small : ∀ (k : Nat) o d, ops[k]? = some o → o.dst = some d → d < N
  back : ∀ (k : Nat) o, ops[k]? = some o → ∀ e ∈ o.after, Region.binds md e = true → e.on < k
  once : ∀ (k j : Nat) o oj d, ops[k]? = some o → ops[j]? = some oj → oj.dst = some d → k ≠ j → o.dst ≠ some d
  look : ∀ (k j : Nat) o oj d, ops[k]? = some o → ops[j]? = some oj → oj.dst = some d → d ∈ o.looksAt ops →
    (j < k ∧ ∃ e ∈ o.after, Region.binds md e = true ∧ e.on = j) ∨ (k < j ∧ ∃ e ∈ oj.after, Region.binds md e = true ∧ e.on = k)
theorem seenB_spec {k j : Nat} {o : Oper} (ho : ops[k]? = some o) (h : seenB md ops k j = true) : ∃ e ∈ o.after, Region.binds md e = true ∧ e.on = j := by
  simp only [seenB, ho] at h
  obtain ⟨e, he, hb⟩ := Array.any_eq_true'.1 h
  simp only [Bool.and_eq_true, beq_iff_eq] at hb
  exact ⟨e, he, hb.1, hb.2⟩
theorem rgB_spec {N : Nat} (h : rgB md ops N = true) : RG md ops N := by
  simp only [rgB, Bool.and_eq_true, List.all_eq_true, List.mem_range] at h
  obtain ⟨hs, h⟩ := h
  have at_ : ∀ (k : Nat) o, ops[k]? = some o → ((match o.dst with | some d => decide (d < N) | none => true) = true ∧ o.after.all (fun e => !Region.binds md e || decide (e.on < k)) = true) ∧
      ∀ (j : Nat) oj, ops[j]? = some oj → (match oj.dst with | none => true | some d => (k == j || o.dst != some d) && (!(o.looksAt ops).contains d || (decide (j < k) && seenB md ops k j) || (decide (k < j) && seenB md ops j k))) = true := fun k o ho => by
    have h1 := h k (Array.getElem?_eq_some_iff.1 ho).1
    simp only [ho, Bool.and_eq_true, List.all_eq_true, List.mem_range] at h1
    refine ⟨h1.1, fun j oj hj => ?_⟩
    have h2 := h1.2 j (Array.getElem?_eq_some_iff.1 hj).1
    simpa only [hj] using h2
  refine ⟨fun j o cs b hj => Region.noSelect_spec hs j o cs b hj, fun k o d ho hd => ?_, fun k o ho e he hb => ?_, fun k j o oj d ho hj hd hne => ?_, fun k j o oj d ho hj hd hl => ?_⟩
  · have := (at_ k o ho).1.1
    simpa [hd] using this
  · have := (at_ k o ho).1.2
    rw [Array.all_eq_true_iff_forall_mem] at this
    have := this e he
    simpa [hb] using this
  · have := (at_ k o ho).2 j oj hj
    simp only [hd, Bool.and_eq_true, Bool.or_eq_true, beq_iff_eq, hne, false_or, bne_iff_ne, ne_eq] at this
    exact this.1
  · have := (at_ k o ho).2 j oj hj
    simp only [hd, Bool.and_eq_true, Bool.or_eq_true, decide_eq_true_eq, Bool.not_eq_true'] at this
    rcases this.2 with (h1 | h1) | h1
    · have : (o.looksAt ops).contains d = true := by simpa using hl
      rw [this] at h1; cases h1
    · exact .inl ⟨h1.1, seenB_spec ho h1.2⟩
    · exact .inr ⟨h1.1, seenB_spec hj h1.2⟩

/-- two frames agree at the slots that an operation looks at -/
theorem exec_agree {o : Oper} {a b : Act} (hs : ∀ cs c, o.op ≠ .select cs c) (h : ∀ d ∈ o.looksAt ops, a.tmps[d]? = b.tmps[d]?) : execOp a.eval o = execOp b.eval o :=
  execOp_congr o hs fun x hx => by
    cases x with
    | tmp t =>
      have := h t (List.mem_append_left _ (List.mem_filterMap.2 ⟨.tmp t, by simpa using hx, rfl⟩))
      simp [Act.eval, this]
    | _ => rfl
theorem wanted_agree {o : Oper} {a b : Act} (h : ∀ d ∈ o.looksAt ops, a.tmps[d]? = b.tmps[d]?) : Region.wanted o (yielded ops a.tmps) = Region.wanted o (yielded ops b.tmps) := by
  unfold Region.wanted
  cases hg : o.guard with
  | none => rfl
  | some gw =>
    obtain ⟨g, want⟩ := gw
    have hy : yielded ops a.tmps g = yielded ops b.tmps g := by
      unfold yielded
      cases ht : (ops[g]?).bind (·.dst) with
      | none => rfl
      | some t =>
        have := h t (List.mem_append_right _ (by simp [hg, ht]))
        simp [this]
    simp only [hy]

/-! ### what an actual run has left so far -/
section
variable {l : List Oper} {vs : List Value} {fs : List Tmp} {FS : Tmp → Value → World → Prop} {I : World → Prop} {a0 : Act}
structure Inv (l : List Oper) (vs : List Value) (fs : List Tmp) (FS : Tmp → Value → World → Prop) (I : World → Prop) (a0 : Act) (listed : Array Bool) (b : Act) (w : World) : Prop where
  cls : I w
  size : b.tmps.size = a0.tmps.size
  defers : b.defers = a0.defers
  out : ∀ d, (∀ (j : Nat) o, l[j]? = some o → listed.getD j true = true → o.dst ≠ some d) → b.tmps[d]? = a0.tmps[d]?
  ins : ∀ (j : Nat) o d v, l[j]? = some o → listed.getD j true = true → o.dst = some d → vs[j]? = some v → (d ∈ fs → ∃ x, b.tmps[d]? = some x ∧ FS d x w) ∧ (d ∉ fs → b.tmps[d]? = some v)
  down : ∀ (j : Nat) o, l[j]? = some o → listed.getD j true = true → ∀ e ∈ o.after, Region.binds .any e = true → listed.getD e.on true = true
  lsize : listed.size = l.length
theorem getD_set_same (L : Array Bool) (i : Nat) : (L.setIfInBounds i true).getD i true = true := by
  rw [Array.getD_eq_getD_getElem?, Array.getElem?_setIfInBounds, if_pos rfl]
  split <;> rfl
theorem getD_set_far (L : Array Bool) {i j : Nat} (h : i ≠ j) : (L.setIfInBounds i true).getD j true = L.getD j true := by
  rw [Array.getD_eq_getD_getElem?, Array.getElem?_setIfInBounds, if_neg h, ← Array.getD_eq_getD_getElem?]
theorem getD_set_up (L : Array Bool) {i j : Nat} (h : L.getD j true = true) : (L.setIfInBounds i true).getD j true = true := by
  by_cases hij : i = j
  · subst hij; exact getD_set_same L i
  · rw [getD_set_far L hij]; exact h
theorem Inv.next {N : Nat} (hR : RG .any l.toArray N) (hN : N ≤ a0.tmps.size) (hI : Closed I) (hF : ∀ s x w w', FS s x w → Below w.heap.size w w' → FS s x w') {listed : Array Bool} {b : Act} {w w' : World} {i : Nat} {o : Oper} {u : Value}
    (h : Inv l vs fs FS I a0 listed b w) (ho : l[i]? = some o) (hp : ∀ e ∈ o.after, Region.binds .any e = true → listed.getD e.on true = true) (hb : Below w.heap.size w w')
    (hu : ∀ d, o.dst = some d → (d ∈ fs → FS d u w') ∧ (d ∉ fs → vs[i]? = some u)) : Inv l vs fs FS I a0 (listed.setIfInBounds i true) (b.put o.dst u) w' := by
  have ho' : l.toArray[i]? = some o := by simpa using ho
  refine ⟨hI w w' h.cls hb, (put_size ..).trans h.size, (put_defers ..).trans h.defers, fun d hd => ?_, fun j oj d v hj hlj hdj hv => ?_, fun j oj hj hlj e he hbe => ?_, by simpa using h.lsize⟩
  · rw [put_other u (hd i o ho (getD_set_same _ _))]
    exact h.out d fun j oj hj hlj => hd j oj hj (getD_set_up _ hlj)
  · by_cases hij : i = j
    · subst hij
      obtain rfl : o = oj := Option.some.inj (ho.symm.trans hj)
      obtain ⟨h1, h2⟩ := hu d hdj
      rw [hdj]
      have hlt : d < b.tmps.size := by rw [h.size]; exact Nat.lt_of_lt_of_le (hR.small i o d ho' hdj) hN
      refine ⟨fun hd => ⟨u, put_same u hlt, h1 hd⟩, fun hd => ?_⟩
      rw [put_same u hlt]
      exact (h2 hd).symm.trans hv
    · rw [getD_set_far _ hij] at hlj
      obtain ⟨h1, h2⟩ := h.ins j oj d v hj hlj hdj hv
      have hne : o.dst ≠ some d := hR.once i j o oj d ho' (by simpa using hj) hdj hij
      rw [put_other u hne]
      exact ⟨fun hd => let ⟨x, hx, hfx⟩ := h1 hd; ⟨x, hx, hF d x w w' hfx hb⟩, h2⟩
  · by_cases hij : i = j
    · subst hij
      obtain rfl : o = oj := Option.some.inj (ho.symm.trans hj)
      exact getD_set_up _ (hp e he hbe)
    · rw [getD_set_far _ hij] at hlj
      exact getD_set_up _ (h.down j oj hj hlj e he hbe)
/-- at what an operation looks at, the run and the walk agree -/
theorem Inv.agree {N : Nat} (hR : RG .any l.toArray N) (hN : N ≤ a0.tmps.size) (hlen : vs.length = l.length) {listed : Array Bool} {b : Act} {w : World} {k : Nat} {o : Oper}
    (h : Inv l vs fs FS I a0 listed b w) (ho : l[k]? = some o) (hun : listed.getD k true = false) (hp : ∀ e ∈ o.after, Region.binds .any e = true → listed.getD e.on true = true) {d : Tmp} (hd : d ∈ o.looksAt l.toArray) (hf : d ∉ fs) :
    (lex l vs a0 k).tmps[d]? = b.tmps[d]? := by
  have ho' : l.toArray[k]? = some o := by simpa using ho
  by_cases hw : ∃ (j : Nat) (oj : Oper), l[j]? = some oj ∧ oj.dst = some d
  · obtain ⟨j, oj, hj, hdj⟩ := hw
    have hj' : l.toArray[j]? = some oj := by simpa using hj
    rcases hR.look k j o oj d ho' hj' hdj hd with ⟨hjk, e, he, hbe, rfl⟩ | ⟨hkj, e, he, hbe, rfl⟩
    · obtain ⟨v, hv⟩ : ∃ v, vs[e.on]? = some v := ⟨_, List.getElem?_eq_getElem (by rw [hlen]; exact (List.getElem?_eq_some_iff.1 hj).1)⟩
      rw [lex_in l vs a0 k e.on oj d v hj hjk hv hdj (Nat.lt_of_lt_of_le (hR.small _ _ _ hj' hdj) hN) fun i oi hi _ hne => hR.once i e.on oi oj d (by simpa using hi) hj' hdj hne]
      exact ((h.ins e.on oj d v hj (hp e he hbe) hdj hv).2 hf).symm
    · have hjun : listed.getD j true = false := by
        cases hc : listed.getD j true with
        | false => rfl
        | true => rw [h.down j oj hj hc e he hbe] at hun; cases hun
      rw [lex_out l vs a0 _ d fun i oi hi hik hdi => hR.once i j oi oj d (by simpa using hi) hj' hdj (by omega) hdi]
      refine (h.out d fun i oi hi hli hdi => ?_).symm
      by_cases hij : i = j
      · subst hij; rw [hjun] at hli; cases hli
      · exact hR.once i j oi oj d (by simpa using hi) hj' hdj hij hdi
  · rw [lex_out l vs a0 k d fun i oi hi _ hdi => hw ⟨i, oi, hi, hdi⟩]
    exact (h.out d fun i oi hi _ hdi => hw ⟨i, oi, hi, hdi⟩).symm
theorem count_zero {L : Array Bool} (h : L.toList.count false = 0) (j : Nat) : L.getD j true = true := by
  rw [List.count_eq_zero] at h
  rw [Array.getD_eq_getD_getElem?]
  cases hc : L[j]? with
  | none => rfl
  | some x =>
    cases x with
    | true => rfl
    | false => exact absurd (Array.mem_toList_iff.2 (Array.mem_of_getElem? hc)) h
theorem count_set {L : Array Bool} {i : Nat} (h : L.getD i true = false) : (L.setIfInBounds i true).toList.count false + 1 = L.toList.count false := by
  have h1 : L.toList[i]? = some false := by
    rw [Array.getD_eq_getD_getElem?] at h
    cases hc : L[i]? with
    | none => rw [hc] at h; simp at h
    | some x => rw [hc] at h; simp at h; subst h; simpa using hc
  rw [Array.toList_setIfInBounds]
  generalize L.toList = M at h1
  clear h
  induction M generalizing i with
  | nil => simp at h1
  | cons y M ih =>
    cases i with
    | zero =>
      simp at h1
      subst h1
      simp
    | succ i =>
      have := ih (i := i) (by simpa using h1)
      rw [List.set_cons_succ, List.count_cons, List.count_cons, ← this]
      omega
theorem ready_all {N : Nat} (hR : RG .any l.toArray N) {listed : Array Bool} (hs : listed.size = l.length) (h : Region.ready .any l.toArray listed = []) : ∀ j, listed.getD j true = true := by
  intro j
  induction j using Nat.strongRecOn with
  | ind j ih =>
    cases hc : listed.getD j true with
    | true => rfl
    | false =>
      have hlt : j < l.length := by
        rcases Nat.lt_or_ge j l.length with h1 | h1
        · exact h1
        · rw [Array.getD_eq_getD_getElem?, Array.getElem?_eq_none (by omega)] at hc; simp at hc
      have ho : l.toArray[j]? = some l[j] := by simp [hlt]
      have : j ∈ Region.ready .any l.toArray listed := mem_ready.2 ⟨hc, l[j], ho, fun e he hb => by
        have hlt2 := hR.back j l[j] ho e he hb
        have := ih e.on hlt2
        rw [Array.getD_eq_getD_getElem?] at this ⊢
        rw [Array.getElem?_eq_getElem (show e.on < listed.size by omega)] at this ⊢
        simpa using this⟩
      rw [h] at this
      cases this

theorem any_of_F {N : Nat} {Q' : Exit → Act → World → Prop} (hR : RG .any l.toArray N) (hN : N ≤ a0.tmps.size) (hlen : vs.length = l.length) (hI : Closed I) (hF : ∀ s x w w', FS s x w → Below w.heap.size w w' → FS s x w')
    (hob : ∀ (k : Nat) o v, l[k]? = some o → vs[k]? = some v → Ob P l.toArray I fs FS o v (lex l vs a0 k))
    (hQ : ∀ (listed : Array Bool) b w, (∀ j, listed.getD j true = true) → Inv l vs fs FS I a0 listed b w → Q' .normal b w) :
    ∀ (fuel : Nat) (listed : Array Bool) (b : Act) (w : World), listed.toList.count false ≤ fuel → Inv l vs fs FS I a0 listed b w → wpAny P .any l.toArray Q' fuel listed b w
  | 0, listed, b, w, hc, h => by
    have hall := count_zero (L := listed) (by omega)
    refine ⟨?_, hQ listed b w hall h⟩
    rw [List.eq_nil_iff_forall_not_mem]
    intro i hi
    have := (mem_ready.1 hi).1
    rw [hall i] at this
    cases this
  | fuel + 1, listed, b, w, hc, h => by
    refine ⟨fun h0 => hQ listed b w (ready_all hR h.lsize h0) h, fun i hi => ?_⟩
    obtain ⟨hun, o, ho, hall⟩ := mem_ready.1 hi
    have ho2 : l[i]? = some o := by simpa using ho
    have hp : ∀ e ∈ o.after, Region.binds .any e = true → listed.getD e.on true = true := fun e he hb => by
      have h1 := hall e he hb
      rw [Array.getD_eq_getD_getElem?] at h1 ⊢
      cases hx : listed[e.on]? with
      | none => rfl
      | some y => rw [hx] at h1; simpa using h1
    obtain ⟨v, hv⟩ : ∃ v, vs[i]? = some v := ⟨_, List.getElem?_eq_getElem (by rw [hlen]; exact (List.getElem?_eq_some_iff.1 ho2).1)⟩
    have K : ∀ u w', Below w.heap.size w w' → (∀ d, o.dst = some d → (d ∈ fs → FS d u w') ∧ (d ∉ fs → vs[i]? = some u)) → wpAny P .any l.toArray Q' fuel (listed.setIfInBounds i true) (b.put o.dst u) w' := fun u w' hb hu =>
      any_of_F hR hN hlen hI hF hob hQ fuel _ _ _ (by have := count_set hun; omega) (h.next hR hN hI hF ho2 hp hb hu)
    have hsel : ∀ cs c, o.op ≠ .select cs c := fun cs c => hR.sel i o cs c ho
    have ag : ∀ d ∈ o.looksAt l.toArray, d ∉ fs → (lex l vs a0 i).tmps[d]? = b.tmps[d]? := fun d hd hf => h.agree hR hN hlen ho2 hun hp hd hf
    unfold Go.wpOp
    simp only [ho]
    rcases hob i o v ho2 hv with ⟨h1, h2, hcalm⟩ | ⟨s, hs, hds, h1, hwt, hsrc⟩ | ⟨s, hs, ⟨j, hj, hje⟩, h1, h2, huse⟩ | ⟨s, R, hs, hds, hRs, h1, hmix⟩
    · have he := exec_agree (ops := l.toArray) hsel fun d hd => ag d hd (h1 d hd)
      have hw := wanted_agree (ops := l.toArray) fun d hd => ag d hd (h1 d hd)
      have kv : ∀ w', Below w.heap.size w w' → wpAny P .any l.toArray Q' fuel (listed.setIfInBounds i true) (b.put o.dst v) w' := fun w' hb => K v w' hb fun d hd => ⟨fun hf => absurd hf (h2 d hd), fun _ => hv⟩
      rcases hcalm with ⟨hwt, hval⟩ | ⟨hwf, rfl⟩
      · rw [hw] at hwt
        rw [if_pos hwt]
        left
        have h3 := hval w h.cls
        rw [he] at h3
        unfold Oper.wp
        generalize (execOp b.eval o).run P w = r at h3
        cases r with
        | ok n w' =>
          cases n <;> simp only [calmUpon] at h3 <;> simp only [Oper.upon]
          case value u => obtain ⟨rfl, rfl⟩ := h3; exact kv _ (Below.refl _ _)
          case skip => obtain ⟨rfl, rfl⟩ := h3; exact kv _ (Below.refl _ _)
          case enter f args =>
            obtain ⟨rfl, hcc⟩ := h3
            exact hcc.mono fun e w'' ⟨he, hb⟩ => by subst he; exact kv _ hb
        | halt x w' => simp only [calmUpon] at h3
      · rw [hw] at hwf
        rw [hwf, if_neg (by simp)]
        exact kv w (Below.refl _ _)
    · have he := exec_agree (ops := l.toArray) hsel fun d hd => ag d hd (h1 d hd)
      have hw := wanted_agree (ops := l.toArray) fun d hd => ag d hd (h1 d hd)
      rw [hw] at hwt
      rw [if_pos hwt]
      left
      have h3 := hsrc w h.cls
      rw [he] at h3
      have kf : ∀ u w', FS s u w' → Below w.heap.size w w' → wpAny P .any l.toArray Q' fuel (listed.setIfInBounds i true) (b.put o.dst u) w' := fun u w' hf hb => K u w' hb fun d hd => by
        obtain rfl : d = s := Option.some.inj (hd.symm.trans hds)
        exact ⟨fun _ => hf, fun hnf => absurd hs hnf⟩
      unfold Oper.wp
      generalize (execOp b.eval o).run P w = r at h3
      cases r with
      | ok n w' =>
        cases n <;> simp only [srcUpon] at h3 <;> simp only [Oper.upon]
        case value u => exact kf u w' h3.1 h3.2
        case enter f args =>
          obtain ⟨rfl, hcc⟩ := h3
          exact hcc.mono fun e w'' ⟨u, he, hf, hb⟩ => by subst he; exact kf u w'' hf hb
      | halt x w' => simp only [srcUpon] at h3
    · obtain ⟨e, hee, heb⟩ := Array.any_eq_true'.1 hje
      simp only [Bool.and_eq_true, beq_iff_eq] at heb
      obtain ⟨hbe, rfl⟩ := heb
      obtain ⟨oj, hoj, hdj⟩ := Option.bind_eq_some_iff.1 hj
      have hoj2 : l[e.on]? = some oj := by simpa using hoj
      obtain ⟨vj, hvj⟩ : ∃ v, vs[e.on]? = some v := ⟨_, List.getElem?_eq_getElem (by rw [hlen]; exact (List.getElem?_eq_some_iff.1 hoj2).1)⟩
      obtain ⟨x, hbx, hfx⟩ := (h.ins e.on oj s vj hoj2 (hp e hee hbe) hdj hvj).1 hs
      have hslt : s < (lex l vs a0 i).tmps.size := by rw [(lex_size l vs a0 i).1]; exact Nat.lt_of_lt_of_le (hR.small _ _ _ hoj hdj) hN
      have ag2 : ∀ d ∈ o.looksAt l.toArray, ((lex l vs a0 i).put (some s) x).tmps[d]? = b.tmps[d]? := fun d hd => by
        by_cases hsd : s = d
        · subst hsd
          rw [put_same x hslt, hbx]
        · rw [put_other x (by simpa using hsd)]
          exact ag d hd fun hf => hsd (h1 d hd hf).symm
      obtain ⟨hwt, h3⟩ := huse x w h.cls hfx
      rw [wanted_agree (ops := l.toArray) ag2] at hwt
      rw [exec_agree (ops := l.toArray) hsel ag2] at h3
      have kv : ∀ w', Below w.heap.size w w' → wpAny P .any l.toArray Q' fuel (listed.setIfInBounds i true) (b.put o.dst v) w' := fun w' hb => K v w' hb fun d hd => ⟨fun hf => absurd hf (h2 d hd), fun _ => hv⟩
      rw [if_pos hwt]
      left
      unfold Oper.wp
      generalize (execOp b.eval o).run P w = r at h3
      cases r with
      | ok n w' =>
        cases n <;> simp only [calmUpon] at h3 <;> simp only [Oper.upon]
        case value u => obtain ⟨rfl, rfl⟩ := h3; exact kv _ (Below.refl _ _)
        case skip => obtain ⟨rfl, rfl⟩ := h3; exact kv _ (Below.refl _ _)
        case enter f args =>
          obtain ⟨rfl, hcc⟩ := h3
          exact hcc.mono fun e w'' ⟨he, hb⟩ => by subst he; exact kv _ hb
      | halt x w' => simp only [calmUpon] at h3

    · have got : ∀ r ∈ R, ∃ x, b.tmps[r]? = some x ∧ FS r x w ∧ r < (lex l vs a0 i).tmps.size := fun r hr => by
        obtain ⟨hrf, j, hj, hje⟩ := hRs r hr
        obtain ⟨e, hee, heb⟩ := Array.any_eq_true'.1 hje
        simp only [Bool.and_eq_true, beq_iff_eq] at heb
        obtain ⟨hbe, rfl⟩ := heb
        obtain ⟨oj, hoj, hdj⟩ := Option.bind_eq_some_iff.1 hj
        have hoj2 : l[e.on]? = some oj := by simpa using hoj
        obtain ⟨vj, hvj⟩ : ∃ v, vs[e.on]? = some v := ⟨_, List.getElem?_eq_getElem (by rw [hlen]; exact (List.getElem?_eq_some_iff.1 hoj2).1)⟩
        obtain ⟨x, hbx, hfx⟩ := (h.ins e.on oj r vj hoj2 (hp e hee hbe) hdj hvj).1 hrf
        exact ⟨x, hbx, hfx, by rw [(lex_size l vs a0 i).1]; exact Nat.lt_of_lt_of_le (hR.small _ _ _ hoj hdj) hN⟩
      have ag2 : ∀ d ∈ o.looksAt l.toArray, (fill R (fun s => b.tmps.getD s undef) (lex l vs a0 i)).tmps[d]? = b.tmps[d]? := fun d hd => by
        by_cases hdR : d ∈ R
        · obtain ⟨x, hbx, _, hlt⟩ := got d hdR
          rw [fill_in R _ _ d hdR hlt, hbx]
          simp [hbx]
        · rw [fill_out R _ _ d hdR]
          exact ag d hd fun hf => hdR (h1 d hd hf)
      obtain ⟨hwt, h3⟩ := hmix (fun s => b.tmps.getD s undef) w h.cls fun r hr => by
        obtain ⟨x, hbx, hfx, _⟩ := got r hr
        simpa [hbx] using hfx
      rw [wanted_agree (ops := l.toArray) ag2] at hwt
      rw [exec_agree (ops := l.toArray) hsel ag2] at h3
      rw [if_pos hwt]
      left
      have kf : ∀ u w', FS s u w' → Below w.heap.size w w' → wpAny P .any l.toArray Q' fuel (listed.setIfInBounds i true) (b.put o.dst u) w' := fun u w' hf hb => K u w' hb fun d hd => by
        obtain rfl : d = s := Option.some.inj (hd.symm.trans hds)
        exact ⟨fun _ => hf, fun hnf => absurd hs hnf⟩
      unfold Oper.wp
      generalize (execOp b.eval o).run P w = r at h3
      cases r with
      | ok n w' =>
        cases n <;> simp only [srcUpon] at h3 <;> simp only [Oper.upon]
        case value u => exact kf u w' h3.1 h3.2
        case enter f args =>
          obtain ⟨rfl, hcc⟩ := h3
          exact hcc.mono fun e w'' ⟨u, he, hf, hb⟩ => by subst he; exact kf u w'' hf hb
      | halt x w' => simp only [srcUpon] at h3

/-- ONE WALK IN THE TEXT's ORDER SERVES EVERY ORDER -/
theorem wp_region_F {id : Nat} {Q : Exit → Act → World → Prop} {a : Act} {w : World} {l : List Oper} (N : Nat) (fs : List Tmp) (FS : Tmp → Value → World → Prop) (I : World → Prop) (hm : P.follows .mixedOrders = true) (hB : rgB .any l.toArray N = true)
    (hfs : (fs.all fun s => l.any fun o => o.dst == some s) = true) (hN : N ≤ a.tmps.size) (hI : Closed I) (hF : ∀ s x w w', FS s x w → Below w.heap.size w w' → FS s x w') (hC : I w.drew)
    (h : wpF P l.toArray I fs FS (fun a' => ∀ xs w', I w' → (∀ s ∈ fs, FS s (xs s) w') → Q .normal (fill fs xs a') w') l a) : (Code.region id l.toArray true).wp P Q a w := by
  have hR := rgB_spec hB
  obtain ⟨vs, hlen, hob, hE⟩ := wpF_vals l a h
  refine wp_region_any hm ?_
  refine any_of_F (l := l) (vs := vs) (fs := fs) (FS := FS) (I := I) (a0 := a) hR hN hlen hI hF hob ?_ _ _ _ _ ?_ ?_
  · intro listed b w' hall hinv
    have hw : ∀ s ∈ fs, ∃ x, b.tmps[s]? = some x ∧ FS s x w' := fun s hs => by
      rw [List.all_eq_true] at hfs
      have h1 := hfs s hs
      rw [List.any_eq_true] at h1
      obtain ⟨o, ho, hd⟩ := h1
      obtain ⟨j, hj, rfl⟩ := List.getElem_of_mem ho
      have hd' : (l[j]).dst = some s := by simpa using hd
      obtain ⟨v, hv⟩ : ∃ v, vs[j]? = some v := ⟨_, List.getElem?_eq_getElem (by rw [hlen]; exact hj)⟩
      exact (hinv.ins j l[j] s v (List.getElem?_eq_getElem hj) (hall j) hd' hv).1 hs
    have hb : b = fill fs (fun s => b.tmps.getD s undef) (lex l vs a l.length) := by
      have ht : b.tmps = (fill fs (fun s => b.tmps.getD s undef) (lex l vs a l.length)).tmps := by
        apply Array.ext_getElem?
        intro d
        by_cases hd : d ∈ fs
        · obtain ⟨x, hx, _⟩ := hw d hd
          have hlt : d < (lex l vs a l.length).tmps.size := by
            rw [(lex_size l vs a l.length).1, ← hinv.size]
            exact (Array.getElem?_eq_some_iff.1 hx).1
          rw [fill_in fs _ _ d hd hlt, hx]
          simp [hx]
        · rw [fill_out fs _ _ d hd]
          by_cases hwr : ∃ (j : Nat) (oj : Oper), l[j]? = some oj ∧ oj.dst = some d
          · obtain ⟨j, oj, hj, hdj⟩ := hwr
            obtain ⟨v, hv⟩ : ∃ v, vs[j]? = some v := ⟨_, List.getElem?_eq_getElem (by rw [hlen]; exact (List.getElem?_eq_some_iff.1 hj).1)⟩
            have hj' : l.toArray[j]? = some oj := by simpa using hj
            rw [(hinv.ins j oj d v hj (hall j) hdj hv).2 hd]
            exact (lex_in l vs a l.length j oj d v hj (List.getElem?_eq_some_iff.1 hj).1 hv hdj (Nat.lt_of_lt_of_le (hR.small _ _ _ hj' hdj) hN) fun i oi hi _ hne => hR.once i j oi oj d (by simpa using hi) hj' hdj hne).symm
          · rw [lex_out l vs a l.length d fun i oi hi _ hdi => hwr ⟨i, oi, hi, hdi⟩]
            exact hinv.out d fun i oi hi _ hdi => hwr ⟨i, oi, hi, hdi⟩
      have hd : b.defers = (fill fs (fun s => b.tmps.getD s undef) (lex l vs a l.length)).defers := by
        rw [(fill_size ..).2, (lex_size ..).2]
        exact hinv.defers
      cases b
      simp only at ht hd
      rw [Act.mk.injEq]
      exact ⟨ht, hd⟩
    rw [hb]
    refine hE _ w' hinv.cls fun s hs => ?_
    obtain ⟨x, hx, hf⟩ := hw s hs
    simpa [hx] using hf
  · simp
  · refine ⟨hC, rfl, rfl, fun _ _ => rfl, fun j o d v hj hlj => ?_, fun j o hj hlj => ?_, by simp⟩
    all_goals
      have hlt := (List.getElem?_eq_some_iff.1 hj).1
      rw [Array.getD_eq_getD_getElem?] at hlj
      simp [hlt] at hlj
end
end
end Go.Proofs.YtbohdmconeebeaaDoor

namespace Go.Proofs.YtbohdmconeebeaaDoor
open Go.RowKit
section
variable {P : Program} {l : List Oper} {I : World → Prop} {fs : List Tmp} {FS : Tmp → Value → World → Prop} {E : Act → Prop} {o : Oper} {rest : List Oper} {a : Act}
def noB (ops : Array Oper) (fs : List Tmp) (o : Oper) : Bool := ((o.looksAt ops).all fun d => !fs.contains d) && (match o.dst with | some d => !fs.contains d | none => true)
theorem noB_spec (h : noB l.toArray fs o = true) : (∀ d ∈ o.looksAt l.toArray, d ∉ fs) ∧ (∀ d, o.dst = some d → d ∉ fs) := by
  simp only [noB, Bool.and_eq_true, List.all_eq_true, Bool.not_eq_true'] at h
  refine ⟨fun d hd hf => ?_, fun d hd hf => ?_⟩
  · have := h.1 d hd
    simp [hf] at this
  · have := h.2
    rw [hd] at this
    simp [hf] at this
/-- it looks at no memory and enters no function -/
theorem wpF_pure (hk : kindOf o = 0) (hn : noB l.toArray fs o = true) (h : wpQuiet P l.toArray (fun _ => True) (fun a' => wpF P l.toArray I fs FS E rest a') [o] a) : wpF P l.toArray I fs FS E (o :: rest) a := by
  obtain ⟨h1, h2⟩ := noB_spec hn
  unfold wpQuiet at h
  by_cases hw : Region.wanted o (yielded l.toArray a.tmps) = true
  · simp only [hw, if_true] at h
    obtain ⟨v, hv, hr⟩ := h
    refine ⟨v, .inl ⟨h1, h2, .inl ⟨hw, fun w _ => ?_⟩⟩, hr⟩
    have h3 := hv w trivial
    have h4 := pure_no_enter (P := P) (kind_pure hk) a.eval w
    unfold Oper.quietAt at h3
    generalize (execOp a.eval o).run P w = r at h3 h4
    cases r with
    | ok n w' =>
      cases n with
      | enter f args => exact absurd rfl (h4 w' f args)
      | value u => exact h3
      | skip => exact h3
      | _ => simp only [Oper.quietUpon] at h3
    | halt x w' => simp only [Oper.quietUpon] at h3
  · simp only [hw] at h
    exact ⟨undef, .inl ⟨h1, h2, .inr ⟨by simpa using hw, rfl⟩⟩, h⟩
/-- a call of one value -/
theorem wpF_call {f : FuncId} {args : Array Value} (v : Value) (hn : noB l.toArray fs o = true) (hw : Region.wanted o (yielded l.toArray a.tmps) = true) (hrun : ∀ w, (execOp a.eval o).run P w = .ok (.enter f args) w)
    (hc : ∀ w, I w → Calls P f args w fun e w'' => e = .returned v ∧ Below w.heap.size w w'') (h : wpF P l.toArray I fs FS E rest (a.put o.dst v)) : wpF P l.toArray I fs FS E (o :: rest) a := by
  obtain ⟨h1, h2⟩ := noB_spec hn
  refine ⟨v, .inl ⟨h1, h2, .inl ⟨hw, fun w hI => ?_⟩⟩, h⟩
  rw [hrun w]
  exact ⟨rfl, hc w hI⟩
/-- a load -/
theorem wpF_load {t : TypeId} {x : Operand} {ad : Addr} (v : Value) (hop : o.op = .load t x) (hn : noB l.toArray fs o = true) (hw : Region.wanted o (yielded l.toArray a.tmps) = true) (hx : a.eval x = .pointer (some ad))
    (hrun : ∀ w, I w → (Instr.loadAt t (.pointer (some ad))).run P w = .ok v w) (h : wpF P l.toArray I fs FS E rest (a.put o.dst v)) : wpF P l.toArray I fs FS E (o :: rest) a := by
  obtain ⟨h1, h2⟩ := noB_spec hn
  refine ⟨v, .inl ⟨h1, h2, .inl ⟨hw, fun w hI => ?_⟩⟩, h⟩
  unfold execOp
  simp only [hop, hx]
  rw [Sem.run_bind, hrun w hI]
  exact ⟨rfl, rfl⟩
/-- an operation that makes memory: its value is known by what it is good for -/
theorem wpF_src (s : Tmp) (hs : s ∈ fs) (hd : o.dst = some s) (hn : ((o.looksAt l.toArray).all fun d => !fs.contains d) = true) (hw : Region.wanted o (yielded l.toArray a.tmps) = true)
    (hrun : ∀ w, I w → ∃ u w', (execOp a.eval o).run P w = .ok (.value u) w' ∧ FS s u w' ∧ Below w.heap.size w w') (h : wpF P l.toArray I fs FS E rest (a.put o.dst undef)) : wpF P l.toArray I fs FS E (o :: rest) a := by
  refine ⟨undef, .inr (.inl ⟨s, hs, hd, fun d hd hf => ?_, hw, fun w hI => ?_⟩), h⟩
  · rw [List.all_eq_true] at hn
    have := hn d hd
    simp [hf] at this
  · obtain ⟨u, w', hr, h1, h2⟩ := hrun w hI
    rw [hr]
    exact ⟨h1, h2⟩
/-- a call that is handed such a value -/
theorem wpF_use (s : Tmp) (j : Nat) {f : FuncId} (args : Value → Array Value) (v : Value) (hs : s ∈ fs) (hj : (l[j]?).bind (·.dst) = some s) (hje : (o.after.any fun e => Region.binds .any e && e.on == j) = true)
    (hn : ((o.looksAt l.toArray).all fun d => !fs.contains d || d == s) = true) (hdst : (match o.dst with | some d => !fs.contains d | none => true) = true) (hw : ∀ x, Region.wanted o (yielded l.toArray (a.put (some s) x).tmps) = true)
    (hrun : ∀ x w, (execOp (a.put (some s) x).eval o).run P w = .ok (.enter f (args x)) w)
    (hc : ∀ x w, I w → FS s x w → Calls P f (args x) w fun e w'' => e = .returned v ∧ Below w.heap.size w w'') (h : wpF P l.toArray I fs FS E rest (a.put o.dst v)) : wpF P l.toArray I fs FS E (o :: rest) a := by
  refine ⟨v, .inr (.inr (.inl ⟨s, hs, ⟨j, by simpa using hj, hje⟩, fun d hd hf => ?_, fun d hd hf => ?_, fun x w hI hx => ⟨hw x, ?_⟩⟩)), h⟩
  · rw [List.all_eq_true] at hn
    have := hn d hd
    simpa [hf] using this
  · rw [hd] at hdst
    simp [hf] at hdst
  · rw [hrun x w]
    exact ⟨rfl, hc x w hI hx⟩
/-- a call that hands back a value that is known by what it is good for -/
theorem wpF_callsrc (s : Tmp) {f : FuncId} {args : Array Value} (hs : s ∈ fs) (hd : o.dst = some s) (hn : ((o.looksAt l.toArray).all fun d => !fs.contains d) = true) (hw : Region.wanted o (yielded l.toArray a.tmps) = true)
    (hrun : ∀ w, (execOp a.eval o).run P w = .ok (.enter f args) w) (hc : ∀ w, I w → Calls P f args w fun e w'' => ∃ u, e = .returned u ∧ FS s u w'' ∧ Below w.heap.size w w'') (h : wpF P l.toArray I fs FS E rest (a.put o.dst undef)) : wpF P l.toArray I fs FS E (o :: rest) a := by
  refine ⟨undef, .inr (.inl ⟨s, hs, hd, fun d hd hf => ?_, hw, fun w hI => ?_⟩), h⟩
  · rw [List.all_eq_true] at hn
    have := hn d hd
    simp [hf] at this
  · rw [hrun w]
    exact ⟨rfl, hc w hI⟩
/-- an operation that looks at such values (R) and yields such a value -/
theorem wpF_mix (s : Tmp) (R : List Tmp) (hs : s ∈ fs) (hd : o.dst = some s)
    (hR : (R.all fun r => fs.contains r && (List.range l.length).any fun j => (((l[j]?).bind (·.dst)) == some r) && o.after.any fun e => Region.binds .any e && e.on == j) = true)
    (hn : ((o.looksAt l.toArray).all fun d => !fs.contains d || R.contains d) = true) (hw : ∀ xs, Region.wanted o (yielded l.toArray (fill R xs a).tmps) = true)
    (hrun : ∀ xs w, I w → (∀ r ∈ R, FS r (xs r) w) → ∃ u w', (execOp (fill R xs a).eval o).run P w = .ok (.value u) w' ∧ FS s u w' ∧ Below w.heap.size w w') (h : wpF P l.toArray I fs FS E rest (a.put o.dst undef)) : wpF P l.toArray I fs FS E (o :: rest) a := by
  refine ⟨undef, .inr (.inr (.inr ⟨s, R, hs, hd, fun r hr => ?_, fun d hd hf => ?_, fun xs w hI hx => ⟨hw xs, ?_⟩⟩)), h⟩
  · rw [List.all_eq_true] at hR
    have := hR r hr
    simp only [Bool.and_eq_true, List.contains_iff_mem, List.any_eq_true, beq_iff_eq] at this
    obtain ⟨h1, j, _, h2, h3⟩ := this
    exact ⟨h1, j, by simpa using h2, h3⟩
  · rw [List.all_eq_true] at hn
    have := hn d hd
    simpa [hf] using this
  · obtain ⟨u, w', hr, h1, h2⟩ := hrun xs w hI hx
    rw [hr]
    exact ⟨h1, h2⟩
/-- a call that is handed such values (R) and hands back such a value -/
theorem wpF_mixcall (s : Tmp) (R : List Tmp) {f : FuncId} (args : (Tmp → Value) → Array Value) (hs : s ∈ fs) (hd : o.dst = some s)
    (hR : (R.all fun r => fs.contains r && (List.range l.length).any fun j => (((l[j]?).bind (·.dst)) == some r) && o.after.any fun e => Region.binds .any e && e.on == j) = true)
    (hn : ((o.looksAt l.toArray).all fun d => !fs.contains d || R.contains d) = true) (hw : ∀ xs, Region.wanted o (yielded l.toArray (fill R xs a).tmps) = true)
    (hrun : ∀ xs w, (execOp (fill R xs a).eval o).run P w = .ok (.enter f (args xs)) w)
    (hc : ∀ xs w, I w → (∀ r ∈ R, FS r (xs r) w) → Calls P f (args xs) w fun e w'' => ∃ u, e = .returned u ∧ FS s u w'' ∧ Below w.heap.size w w'') (h : wpF P l.toArray I fs FS E rest (a.put o.dst undef)) : wpF P l.toArray I fs FS E (o :: rest) a := by
  refine ⟨undef, .inr (.inr (.inr ⟨s, R, hs, hd, fun r hr => ?_, fun d hd hf => ?_, fun xs w hI hx => ⟨hw xs, ?_⟩⟩)), h⟩
  · rw [List.all_eq_true] at hR
    have := hR r hr
    simp only [Bool.and_eq_true, List.contains_iff_mem, List.any_eq_true, beq_iff_eq] at this
    obtain ⟨h1, j, _, h2, h3⟩ := this
    exact ⟨h1, j, by simpa using h2, h3⟩
  · rw [List.all_eq_true] at hn
    have := hn d hd
    simpa [hf] using this
  · rw [hrun xs w]
    exact ⟨rfl, hc xs w hI hx⟩
end
end Go.Proofs.YtbohdmconeebeaaDoor

namespace Go.Proofs.YtbohdmconeebeaaDoor
open Go.RowKit Go.Shelf
set_option maxRecDepth 100000
attribute [local go_sem] Oper.semAt_some

/-- bytes and their sum's -/
def sld (L : List Int) : List Int := L ++ Cr.le4 (Cr.sum L)
/-- a frame's block -/
def fblk (v k s i c : Int) (zs : List Int) : List Int := sld (hdB v k s i c ++ zs)
theorem fblk_len (v k s i c : Int) (zs : List Int) : (fblk v k s i c zs).length = zs.length + 12 := by
  simp [fblk, sld, hdB, Cr.le4]
theorem hdB_bytes {v k s i c : Int} (h : chk v k i c = 0) (hs : 0 ≤ s ∧ s ≤ 4294967295) : Bytes (hdB v k s i c) := by
  have := chk_zero h
  intro z hz
  simp only [hdB, List.mem_cons, List.not_mem_nil, or_false] at hz
  omega
theorem sld_bytes {L : List Int} (h : Bytes L) : Bytes (sld L) := h.append (le4_bytes _)
theorem fblk_bytes {v k s i c : Int} {zs : List Int} (h : chk v k i c = 0) (hs : 0 ≤ s ∧ s ≤ 4294967295) (hz : Bytes zs) : Bytes (fblk v k s i c zs) := sld_bytes ((hdB_bytes h hs).append hz)
/-- what Segment answers -/
def SegR (w w' : World) (r : Int) (L : List Int) (e : Ending) : Prop :=
  (r ≠ 0 ∧ e = .returned (.tuple #[.slice none 0 0, .int .i64 r]) ∧ Below w.heap.size w w') ∨ (r = 0 ∧ ∃ v, e = .returned (.tuple #[v, .int .i64 0]) ∧ MadeK 5 .u8 w w' L v)

/-- what the slots hold whose values are known by what they are good for -/
def FRg (B : Nat) (p1 p2 : Part) (h z : List Int) (q : Tmp) (x : Value) (W : World) : Prop :=
  if q = 29 then ∃ a c, x = .slice a 2 c ∧ Parts W W.heap.size a [p1, p2]
  else if q = 30 then ∃ A c, x = .slice A 4 c ∧ 4 ≤ c ∧ Nums .u8 W W.heap.size A (Cr.le4 (Cr.sum (h ++ z)))
  else if q = 31 then ∃ A c, x = .slice A 3 c ∧ 3 ≤ c ∧ ListAt .u8 W W.heap.size A [h, z, Cr.le4 (Cr.sum (h ++ z))]
  else W.ownsRow B 5 1 x (sld (h ++ z)).length ((sld (h ++ z)).map (Value.int .u8))
theorem FRg.later {B : Nat} {p1 p2 : Part} {h z : List Int} {q : Tmp} {x : Value} {W W' : World} (hh : FRg B p1 p2 h z q x W) (hb : Below W.heap.size W W') : FRg B p1 p2 h z q x W' := by
  unfold FRg at *
  split
  · rename_i h1
    rw [if_pos h1] at hh
    obtain ⟨a, c, e, hg⟩ := hh
    refine ⟨a, c, e, fun p hp => ((hg.1 p hp).below hb).mono hb.size, fun hn => ?_⟩
    obtain ⟨b, off, e2, hc⟩ := hg.2 hn
    refine ⟨b, off, e2, fun j p hj => ?_⟩
    have h3 := hc j p hj
    exact (hb.cell (p := ⟨b, off + j, none⟩) (block_of_cell h3)).trans h3
  · rename_i h1
    rw [if_neg h1] at hh
    split
    · rename_i h2
      rw [if_pos h2] at hh
      obtain ⟨A, c, e, hc, hn⟩ := hh
      exact ⟨A, c, e, hc, (hn.below hb).mono hb.size⟩
    · rename_i h2
      rw [if_neg h2] at hh
      split
      · rename_i h3
        rw [if_pos h3] at hh
        obtain ⟨A, c, e, hc, hn⟩ := hh
        exact ⟨A, c, e, hc, (hn.below hb).mono hb.size⟩
      · rename_i h3
        rw [if_neg h3] at hh
        exact ⟨hh.1, hh.2.imp id fun ⟨g, cap, cur, hv, hg, hx, r⟩ => ⟨g, cap, cur, hv, hg, (hb.block g (Array.getElem?_eq_some_iff.1 hx).1).trans hx, r⟩⟩

set_option maxHeartbeats 4000000 in
theorem fsegment_any (b : Nat) (v k s i c : Int) (A : Option Addr) (n cp : Nat) (zs : List Int) (hs : 0 ≤ s ∧ s ≤ 4294967295) (w : World) (hc : CodAt w w.heap.size b) (hn : zs.length = n) (hcp : n ≤ cp) (hz : Bytes zs) (h1 : Nums .u8 w w.heap.size A zs) :
    Calls Tryd.prog 26 #[.pointer (some ⟨b, 0, none⟩), frV v k s i c (.slice A n cp)] w fun e w' => SegR w w' (fchk v k i c n) (Cb.enc (fblk v k s i c zs)) e := by
  have HC := Lib.hid (fcheck_any b v k s i c A n cp)
  have HB := Lib.hid (hbytes_any v k s i c hs)
  unfold hdV at HB
  have hb0 := Lib.hid ((Below.refl w.heap.size w).alloc (Nat.le_refl _) (.cells (frC v k s i c (.slice A n cp)) 31))
  unfold frV at HC ⊢
  have HF : Hid (frC v k s i c (.slice A n cp) = #[.int .i64 v, .int .i64 k, .int .u32 s, .int .i64 i, .int .i64 c, .slice A n cp]) := rfl
  rw [HF.out] at hb0 HC ⊢
  by_cases h0 : fchk v k i c n = 0
  · obtain ⟨hk0, hn1, hn2⟩ := fchk_zero h0
    rw [h0] at HC ⊢
    have HK := Lib.hid hk0
    have HCd := Lib.hid hc
    have HN := Lib.hid hn
    have HZ := Lib.hid hz
    have H1 := Lib.hid h1
    clear hk0 h0 hc hn hz h1
    go_enter Tryd.func26, Tryd.ntmps26
    go_wp2_with (go_at_call 8; refine (HC.out _).mono ?_; rintro e w1 ⟨rfl, hb1⟩; obtain ⟨d0, d1, d2, d3, d4, d5⟩ := fr_block (fr_cells hb1); have HB1 := Lib.hid hb1; clear hb1)
    refine (HB.out _).mono ?_
    rintro e w2 ⟨hr, hb2⟩
    rcases hr with ⟨h, _⟩ | ⟨_, g, hg, rfl, hnh⟩
    · exact absurd HK.out h
    have hbw : Below w.heap.size w w2 := (hb0.out.trans (HB1.out.mono (by simp))).trans (hb2.mono (by have := HB1.out.size; rw [World.size_alloc] at this; omega))
    obtain ⟨e0, e1, e2, e3, e4, e5⟩ := fr_block ((hb2.block _ (by have := HB1.out.size; rw [World.size_alloc] at this; omega)).trans (fr_cells HB1.out))
    have hcw := (HCd.out.below hbw).mono hbw.size
    have hzw := (H1.out.below hbw).mono hbw.size
    have hbh := hdB_bytes HK.out hs
    have HP1 : Part.At w2 w2.heap.size ⟨some ⟨g, 0, none⟩, 8, hdB v k s i c⟩ := ⟨by simp [hdB], by simp [hdB], hbh, hnh⟩
    have HP2 : Part.At w2 w2.heap.size ⟨A, cp, zs⟩ := ⟨by rw [HN.out]; exact hcp, by rw [HN.out]; omega, HZ.out, hzw⟩
    have hh8 : (hdB v k s i c).length = 8 := rfl
    have HBL : Hid (fblk v k s i c zs = sld (hdB v k s i c ++ zs)) := rfl
    obtain ⟨h, hh⟩ : ∃ h, hdB v k s i c = h := ⟨_, rfl⟩
    rw [hh] at hnh HP1 HBL hh8 hbh
    have HW := Lib.hid hbw
    have HCw := Lib.hid hcw
    have HH8 := Lib.hid hh8
    have Q1 := Lib.hid HP1
    have Q2 := Lib.hid HP2
    have HBH := Lib.hid hbh
    have hd5 : ∀ W, Below w2.heap.size w2 W → W.cell? ⟨w.heap.size, 5, none⟩ = some (.slice A n cp) := fun W hW => (hW.cell (p := ⟨w.heap.size, 5, none⟩) (block_of_cell e5)).trans e5
    clear hb2 hbw hcw hzw hnh hg hh HP1 HP2 hh8 HB HC HCd H1 HB1 d0 d1 d2 d3 d4 d5 e0 e1 e2 e3 e4 hbh hb0 HF
    go_wp2
    refine wp_region_F 35 [29, 30, 31, 32, 9] (FRg w2.heap.size ⟨some ⟨g, 0, none⟩, 8, h⟩ ⟨A, cp, zs⟩ h zs) (fun W => Below w2.heap.size w2 W) (by kernel_rfl) (by kernel_rfl) (by rfl) (by simp) (fun W W' h hb => h.trans (hb.mono h.size)) (fun q x W W' h hb => h.later hb) (Below.refl _ _).drew ?_
    repeat (refine wpF_pure rfl rfl ?_; go_big_quiet_step (fail); refine wpQuiet_nil ?_)
    refine wpF_load (.slice A n cp) rfl (by rfl) (by rfl) (by rfl) (fun W hW => by have := hd5 W hW; simp [Instr.loadAt, go_sem, this]) ?_
    simp only [Act.put, List.setIfInBounds_toArray, List.set_cons_succ, List.set_cons_zero]
    repeat (refine wpF_pure rfl rfl ?_; go_big_quiet_step (fail); refine wpQuiet_nil ?_)
    refine wpF_load (.slice A n cp) rfl (by rfl) (by rfl) (by rfl) (fun W hW => by have := hd5 W hW; simp [Instr.loadAt, go_sem, this]) ?_
    simp only [Act.put, List.setIfInBounds_toArray, List.set_cons_succ, List.set_cons_zero]
    refine wpF_src 29 (by simp) rfl rfl rfl (fun W hW => ⟨.slice (some ⟨W.heap.size, 0, none⟩) 2 2, W.alloc (.cells #[.slice (some ⟨g, 0, none⟩) 8 8, .slice A n cp] 29), ?_, ?_, (Below.refl _ _).alloc (Nat.le_refl _) _⟩) ?_
    · simp [go_sem]
    · unfold FRg
      rw [if_pos rfl]
      refine ⟨_, _, rfl, fun p hp => ?_, fun _ => ⟨_, _, rfl, fun j p hj => ?_⟩⟩
      · have hB := (hW.trans ((Below.refl W.heap.size W).alloc (Nat.le_refl _) (.cells #[.slice (some ⟨g, 0, none⟩) 8 8, .slice A n cp] 29) |>.mono hW.size))
        simp only [List.mem_cons, List.not_mem_nil, or_false] at hp
        rcases hp with rfl | rfl
        · exact (Q1.out.below hB).mono hB.size
        · exact (Q2.out.below hB).mono hB.size
      · rw [World.cell?_alloc_at _ _ _ _ rfl]
        rcases j with _ | _ | j
        · simp only [List.getElem?_cons_zero, Option.some.injEq] at hj
          subst hj
          simp [HH8.out]
        · simp only [List.getElem?_cons_succ, List.getElem?_cons_zero, Option.some.injEq] at hj
          subst hj
          simp [HN.out]
        · simp at hj
    simp only [Act.put, List.setIfInBounds_toArray, List.set_cons_succ, List.set_cons_zero]
    refine wpF_mixcall 30 [29] (f := 41) (fun xs => #[.pointer (some ⟨b, 0, none⟩), xs 29]) (by simp) rfl (by kernel_rfl) (by kernel_rfl) (fun xs => by rfl) (fun xs W => by first | rfl | (simp [fill, Act.put, Act.eval, go_sem]; done)) (fun xs W hW hx => ?_) ?_
    · have h29 := hx 29 (by simp)
      unfold FRg at h29
      rw [if_pos rfl] at h29
      obtain ⟨a, cc, e29, hps⟩ := h29
      rw [e29]
      refine (fsum_any W.heap.size b a 2 cc _ W ((HCw.out.below hW).mono hW.size) rfl (by decide) hps).mono fun e W' ⟨hr, hb⟩ => ?_
      obtain ⟨g2, _, he, hn2⟩ := hr
      refine ⟨_, he, ?_, hb⟩
      unfold FRg
      rw [if_neg (by decide), if_pos rfl]
      refine ⟨_, _, rfl, Nat.le_refl _, ?_⟩
      simpa [flat] using hn2
    simp only [Act.put, List.setIfInBounds_toArray, List.set_cons_succ, List.set_cons_zero]
    refine wpF_mix 31 [30] (by simp) rfl (by kernel_rfl) (by kernel_rfl) (fun xs => by rfl) (fun xs W hW hx => ?_) ?_
    · have h30 := hx 30 (by simp)
      unfold FRg at h30
      rw [if_neg (by decide), if_pos rfl] at h30
      obtain ⟨a, cc, e30, hcc, hns⟩ := h30
      have hB0 := (Below.refl W.heap.size W).alloc (Nat.le_refl _) (.cells #[.slice (some ⟨g, 0, none⟩) 8 8, .slice A n cp, .slice a 4 cc] 29)
      refine ⟨.slice (some ⟨W.heap.size, 0, none⟩) 3 3, W.alloc (.cells #[.slice (some ⟨g, 0, none⟩) 8 8, .slice A n cp, .slice a 4 cc] 29), ?_, ?_, hB0⟩
      · simp [fill, Act.put, e30, go_sem]
      · unfold FRg
        rw [if_neg (by decide), if_neg (by decide), if_pos rfl]
        have hB := hW.trans (hB0.mono hW.size)
        refine ⟨_, _, rfl, Nat.le_refl _, fun j bb hj => ?_⟩
        refine ⟨W.heap.size, ?_⟩
        rcases j with _ | _ | _ | j
        · simp only [List.getElem?_cons_zero, Option.some.injEq] at hj
          subst hj
          exact ⟨some ⟨g, 0, none⟩, 8, rfl, by simp, by rw [World.cell?_alloc_at _ _ _ _ rfl, HH8.out]; rfl, by rw [HH8.out]; omega, (Q1.out.nums.below hB).mono hB.size⟩
        · simp only [List.getElem?_cons_succ, List.getElem?_cons_zero, Option.some.injEq] at hj
          subst hj
          exact ⟨A, cp, rfl, by simp, by rw [World.cell?_alloc_at _ _ _ _ rfl, HN.out]; rfl, by rw [HN.out]; exact hcp, (Q2.out.nums.below hB).mono hB.size⟩
        · simp only [List.getElem?_cons_succ, List.getElem?_cons_zero, Option.some.injEq] at hj
          subst hj
          exact ⟨a, cc, rfl, by simp, by rw [World.cell?_alloc_at _ _ _ _ rfl, Cr.le4_len]; rfl, by rw [Cr.le4_len]; omega, (hns.below hB0).mono hB0.size⟩
        · simp at hj
    simp only [Act.put, List.setIfInBounds_toArray, List.set_cons_succ, List.set_cons_zero]
    refine wpF_mixcall 32 [31] (f := 40) (fun xs => #[xs 31]) (by simp) rfl (by kernel_rfl) (by kernel_rfl) (fun xs => by rfl) (fun xs W => by first | rfl | (simp [fill, Act.put, Act.eval, go_sem]; done)) (fun xs W hW hx => ?_) ?_
    · have h31 := hx 31 (by simp)
      unfold FRg at h31
      rw [if_neg (by decide), if_neg (by decide), if_pos rfl] at h31
      obtain ⟨a, cc, e31, hcc, hls⟩ := h31
      rw [e31]
      have hfl : [h, zs, Cr.le4 (Cr.sum (h ++ zs))].flatten = sld (h ++ zs) := by simp [sld]
      refine (concat_any a 3 cc _ W rfl hcc (by decide) (by rw [hfl]; simp [sld, HH8.out, HN.out, Cr.le4_len]; omega) hls).mono fun e W' ⟨v, he, hm⟩ => ?_
      refine ⟨v, he, ?_, hm.2⟩
      rw [hfl] at hm
      unfold FRg
      rw [if_neg (by decide), if_neg (by decide), if_neg (by decide)]
      exact ownsRow_lower hm.1 hW.size
    simp only [Act.put, List.setIfInBounds_toArray, List.set_cons_succ, List.set_cons_zero]
    refine wpF_mix 9 [32] (by simp) rfl (by kernel_rfl) (by kernel_rfl) (fun xs => by rfl) (fun xs W hW hx => ⟨xs 32, W, ?_, ?_, Below.refl _ _⟩) ?_
    · simp [execOp, fill, Act.put, Act.eval, go_sem]
    · have := hx 32 (by simp)
      unfold FRg at this ⊢
      simpa using this
    simp only [Act.put, List.setIfInBounds_toArray, List.set_cons_succ, List.set_cons_zero]
    intro xs W hW hx
    have h9 := hx 9 (by simp)
    unfold FRg at h9
    rw [if_neg (by decide), if_neg (by decide), if_neg (by decide)] at h9
    simp only [fill, Act.put, List.setIfInBounds_toArray, List.set_cons_succ, List.set_cons_zero]
    rw [← HBL.out] at h9
    have HM : MadeK 5 .u8 w2 W (fblk v k s i c zs) (xs 9) := ⟨h9, hW⟩
    obtain ⟨A9, c9, e9, hc9, hn9⟩ := HM.slice
    have hfb := fblk_bytes (v := v) (k := k) (i := i) (c := c) (s := s) HK.out hs HZ.out
    have hfl := fblk_len v k s i c zs
    rw [HN.out] at hfl
    rw [hfl] at e9 hc9
    have K := encode_any A9 (n + 12) c9 (fblk v k s i c zs) W hfl hc9 (by omega) hfb hn9
    have HWW := Lib.hid (HW.out.trans (hW.mono HW.out.size))
    rw [e9]
    clear HM hn9 hfb hfl h9 hx e9 hd5 HBL Q1 Q2 HBH
    generalize xs 29 = x29
    generalize xs 30 = x30
    generalize xs 31 = x31
    generalize xs 32 = x32
    go_wp2_with fail
    refine K.mono ?_
    rintro e w3 ⟨v3, rfl, hm3⟩
    have HM3 := Lib.hid (hm3.since HWW.out)
    clear hm3 K
    go_wp2
    go_ret2
    exact .inr ⟨rfl, _, rfl, HM3.out⟩
  · have h1' : (fchk v k i c n != 0) = true := by simpa using h0
    have H0 := Lib.hid h0
    clear h0
    go_enter Tryd.func26, Tryd.ntmps26
    go_wp2_with (go_at_call 8; refine (HC.out _).mono ?_; rintro e w1 ⟨rfl, hb1⟩; have HB1 := Lib.hid hb1; clear hb1)
    go_ret2
    exact .inl ⟨H0.out, rfl, hb0.out.trans (HB1.out.mono (by simp))⟩
end Go.Proofs.YtbohdmconeebeaaDoor

namespace Go.Proofs.YtbohdmconeebeaaDoor
namespace Fc
open Cb

/-- the segments, each with its place: p: where we are; now: what is open there -/
def scan : Nat → List Int → List Int → List (Nat × List Int)
  | _, _, [] => []
  | p, now, z :: r => if z = 0 then (if now = [] then scan (p + 1) [] r else (p - now.length, now) :: scan (p + 1) [] r) else scan (p + 1) (now ++ [z]) r
/-- what is open behind the last 0 -/
def opn : List Int → List Int → List Int
  | now, [] => now
  | now, z :: r => if z = 0 then opn [] r else opn (now ++ [z]) r
def segs (zs : List Int) : List (List Int) := (scan 0 [] zs).map (·.2)

theorem scan_zero (p : Nat) (now r : List Int) : scan p now (0 :: r) = (if now = [] then [] else [(p - now.length, now)]) ++ scan (p + 1) [] r := by
  rw [scan, if_pos rfl]; split <;> simp
theorem scan_ne {z : Int} (hz : z ≠ 0) (p : Nat) (now r : List Int) : scan p now (z :: r) = scan (p + 1) (now ++ [z]) r := by rw [scan, if_neg hz]
theorem scan_nz {b : List Int} (h : NZ b) (r : List Int) : ∀ (p : Nat) (now : List Int), scan p now (b ++ r) = scan (p + b.length) (now ++ b) r := by
  induction b with
  | nil => intro p now; simp
  | cons z b ih =>
    intro p now
    rw [List.cons_append, scan_ne (h z (by simp)), ih (fun c hc => h c (by simp [hc])), List.length_cons, List.append_assoc, List.singleton_append]
    congr 1; omega
theorem scan_end {b : List Int} (h : NZ b) (p : Nat) (now : List Int) : scan p now b = [] := by
  have := scan_nz h [] p now
  rw [List.append_nil] at this
  rw [this, scan]
theorem opn_zero (now r : List Int) : opn now (0 :: r) = opn [] r := by rw [opn, if_pos rfl]
theorem opn_ne {z : Int} (hz : z ≠ 0) (now r : List Int) : opn now (z :: r) = opn (now ++ [z]) r := by rw [opn, if_neg hz]
theorem opn_nz {b : List Int} (h : NZ b) (r : List Int) : ∀ now : List Int, opn now (b ++ r) = opn (now ++ b) r := by
  induction b with
  | nil => intro now; simp
  | cons z b ih =>
    intro now
    rw [List.cons_append, opn_ne (h z (by simp)), ih (fun c hc => h c (by simp [hc])), List.append_assoc, List.singleton_append]
theorem opn_end {b : List Int} (h : NZ b) (now : List Int) : opn now b = now ++ b := by
  have := opn_nz h [] now
  rw [List.append_nil] at this
  rw [this, opn]
theorem opn_app (x y : List Int) : ∀ now : List Int, opn now (x ++ 0 :: y) = opn [] y := by
  induction x with
  | nil => intro now; rw [List.nil_append, opn_zero]
  | cons z x ih =>
    intro now
    rw [List.cons_append]
    by_cases hz : z = 0
    · subst hz; rw [opn_zero, ih]
    · rw [opn_ne hz, ih]
/-- .. as a cut of the bytes -/
theorem opn_drop {zs : List Int} {k : Nat} (hk : k = 0 ∨ ∃ i, k = i + 1 ∧ zs[i]? = some 0) (hn : NZ (zs.drop k)) : opn [] zs = zs.drop k := by
  rcases hk with rfl | ⟨i, rfl, hi⟩
  · rw [List.drop_zero] at hn ⊢; rw [opn_end hn, List.nil_append]
  · have hlt : i < zs.length := by
      rcases Nat.lt_or_ge i zs.length with h | h
      · exact h
      · rw [List.getElem?_eq_none h] at hi; cases hi
    have h1 : zs = zs.take i ++ 0 :: zs.drop (i + 1) := by
      rw [List.getElem?_eq_getElem hlt] at hi
      injection hi with hi
      rw [← hi, List.getElem_cons_drop, List.take_append_drop]
    have h2 : opn [] zs = opn [] (zs.drop (i + 1)) := by conv => lhs; rw [h1]; rw [opn_app]
    rw [h2, opn_end hn, List.nil_append]

theorem cut_nz {L : List Int} (h : nz L < L.length) : L = L.take (nz L) ++ 0 :: L.drop (nz L + 1) := by
  have hi := nz_at L h
  rw [List.getElem?_eq_getElem h] at hi
  injection hi with hi
  rw [← hi, List.getElem_cons_drop, List.take_append_drop]
theorem scan_step {L : List Int} (h : nz L < L.length) (p : Nat) : scan p [] L = (if nz L = 0 then [] else [(p, L.take (nz L))]) ++ scan (p + nz L + 1) [] (L.drop (nz L + 1)) := by
  conv => lhs; rw [cut_nz h]
  have hl : (L.take (nz L)).length = nz L := by rw [List.length_take]; omega
  rw [scan_nz (nz_take L), List.nil_append, scan_zero, hl]
  congr 1
  by_cases h0 : nz L = 0
  · rw [if_pos h0, if_pos (by rw [h0]; rfl)]
  · rw [if_neg h0, if_neg (fun e => h0 (by rw [← hl, e]; rfl))]
    congr 2; omega
theorem scan_last {L : List Int} (h : L.length ≤ nz L) (p : Nat) : scan p [] L = [] := by
  refine scan_end ?_ p []
  have := nz_take L
  rwa [List.take_of_length_le h] at this
theorem scan_snd (L : List Int) : ∀ (p q : Nat) (now : List Int), (scan p now L).map (·.2) = (scan q now L).map (·.2) := by
  induction L with
  | nil => intro p q now; simp [scan]
  | cons z r ih =>
    intro p q now
    by_cases hz : z = 0
    · subst hz
      rw [scan_zero, scan_zero, List.map_append, List.map_append, ih (p + 1) (q + 1)]
      split <;> rfl
    · rw [scan_ne hz, scan_ne hz, ih]
theorem scan_length (L : List Int) : ∀ (p : Nat) (now : List Int), (scan p now L).length ≤ L.length := by
  induction L with
  | nil => intro p now; simp [scan]
  | cons z r ih =>
    intro p now
    by_cases hz : z = 0
    · subst hz
      have := ih (p + 1) []
      rw [scan_zero, List.length_append, List.length_cons]
      split <;> simp <;> omega
    · have := ih (p + 1) (now ++ [z])
      rw [scan_ne hz, List.length_cons]; omega
theorem scan_mem (L : List Int) : ∀ (p : Nat) (now : List Int), NZ now → ∀ x ∈ scan p now L, x.2 ≠ [] ∧ NZ x.2 ∧ x.2.length ≤ now.length + L.length := by
  induction L with
  | nil => intro p now _ x hx; simp [scan] at hx
  | cons z r ih =>
    intro p now hn x hx
    by_cases hz : z = 0
    · subst hz
      rw [scan_zero] at hx
      rcases List.mem_append.1 hx with hx | hx
      · split at hx
        · simp at hx
        · rename_i h0
          simp at hx; subst hx
          exact ⟨h0, hn, by simp⟩
      · have h1 := ih (p + 1) [] (fun c hc => by simp at hc) x hx
        exact ⟨h1.1, h1.2.1, by have := h1.2.2; simp only [List.length_nil, List.length_cons] at this ⊢; omega⟩
    · rw [scan_ne hz] at hx
      have h1 := ih (p + 1) (now ++ [z]) (hn.append fun c hc => by simp at hc; subst hc; exact hz) x hx
      exact ⟨h1.1, h1.2.1, by have := h1.2.2; simp only [List.length_append, List.length_cons, List.length_nil] at this ⊢; omega⟩
theorem scan_app (x y : List Int) : ∀ (p : Nat) (now : List Int), scan p now (x ++ 0 :: y) = scan p now (x ++ [0]) ++ scan (p + x.length + 1) [] y := by
  induction x with
  | nil => intro p now; rw [List.nil_append, List.nil_append, scan_zero, scan_zero]; simp [scan]
  | cons z x ih =>
    intro p now
    rw [List.cons_append, List.cons_append]
    by_cases hz : z = 0
    · subst hz
      rw [scan_zero, scan_zero, ih, List.append_assoc, List.length_cons]
      congr 3; omega
    · rw [scan_ne hz, scan_ne hz, ih, List.length_cons]
      congr 2; omega
theorem segs_app (x y : List Int) : segs (x ++ 0 :: y) = segs (x ++ [0]) ++ segs y := by
  unfold segs
  rw [scan_app, List.map_append, scan_snd y _ 0]
theorem segs_len (zs : List Int) : (segs zs).length ≤ zs.length := by unfold segs; rw [List.length_map]; exact scan_length zs 0 []
theorem segs_mem {zs b : List Int} (h : b ∈ segs zs) : b ≠ [] ∧ NZ b ∧ b.length ≤ zs.length := by
  obtain ⟨x, hx, rfl⟩ := List.mem_map.1 h
  have := scan_mem zs 0 [] (fun c hc => by simp at hc) x hx
  exact ⟨this.1, this.2.1, by simpa using this.2.2⟩

/-- lists, each fenced -/
def wrap (ls : List (List Int)) : List Int := ls.flatMap fun b => 0 :: b ++ [0]
theorem wrap_nil : wrap [] = [] := rfl
theorem wrap_cons (b : List Int) (ls : List (List Int)) : wrap (b :: ls) = 0 :: (b ++ 0 :: wrap ls) := by simp [wrap]
theorem wrap_append (x y : List (List Int)) : wrap (x ++ y) = wrap x ++ wrap y := by simp [wrap]
theorem wrap_one (b : List Int) : wrap [b] = [0] ++ b ++ [0] := by simp [wrap]
theorem scan_wrap (ls : List (List Int)) : (∀ b ∈ ls, NZ b) → ∀ p, (scan p [] (wrap ls)).map (·.2) = ls.filter (fun b => decide (b ≠ [])) := by
  induction ls with
  | nil => intro _ p; simp [wrap_nil, scan]
  | cons b ls ih =>
    intro h p
    rw [wrap_cons, scan_zero, scan_nz (h b (by simp)), scan_zero]
    have := ih (fun c hc => h c (by simp [hc])) (p + 1 + b.length + 1)
    by_cases hb : b = []
    · subst hb; simpa using this
    · simp only [if_true, List.nil_append, if_neg hb, List.map_append, this]
      rw [List.filter_cons_of_pos (by simp [hb])]
      simp
theorem segs_wrap {ls : List (List Int)} (h : ∀ b ∈ ls, NZ b) : segs (wrap ls) = ls.filter (fun b => decide (b ≠ [])) := scan_wrap ls h 0
theorem opn_wrap (ls : List (List Int)) : opn [] (wrap ls) = [] := by
  induction ls with
  | nil => rfl
  | cons b ls ih =>
    rw [wrap_cons, opn_zero, opn_app, ih]

/-! parts of sizes -/
/-- how many numbers a size takes of n -/
def clip (s : Int) (n : Nat) : Nat := min (max s 0).toNat n
/-- the parts of L, the sizes R going round, from the i-th on -/
inductive Parts (R : List Int) : Nat → List Int → List (List Int) → Prop
  | done (i : Nat) : Parts R i [] []
  | step (i : Nat) (L : List Int) (s : Int) (ps : List (List Int)) : L ≠ [] → R[i]? = some s → Parts R ((i + 1) % R.length) (L.drop (clip s L.length)) ps → Parts R i L (L.take (clip s L.length) :: ps)
theorem clip_le (s : Int) (n : Nat) : clip s n ≤ n := Nat.min_le_right _ _
theorem Parts.nil {R : List Int} {i : Nat} {L : List Int} {ps : List (List Int)} (h : Parts R i L ps) (hL : L = []) : ps = [] := by
  cases h with
  | done => rfl
  | step _ _ _ _ h1 => exact absurd hL h1
theorem Parts.cons {R : List Int} {i : Nat} {L : List Int} {ps : List (List Int)} (h : Parts R i L ps) (hL : L ≠ []) : ∃ s qs, R[i]? = some s ∧ ps = L.take (clip s L.length) :: qs ∧ Parts R ((i + 1) % R.length) (L.drop (clip s L.length)) qs := by
  cases h with
  | done => exact absurd rfl hL
  | step _ _ s qs _ h2 h3 => exact ⟨s, qs, h2, rfl, h3⟩
theorem Parts.flat {R : List Int} {i : Nat} {L : List Int} {ps : List (List Int)} (h : Parts R i L ps) : ps.flatten = L := by
  induction h with
  | done => rfl
  | step i L s ps _ _ _ ih => rw [List.flatten_cons, ih, List.take_append_drop]
theorem Parts.exists {R : List Int} (q : Nat) (hq : R.length = q) (j : Nat) (hj : j < q) (sj : Int) (hs : R[j]? = some sj) (hp : 0 < sj) :
    ∀ (n : Nat) (L : List Int), L.length = n → ∀ (d i : Nat), i < q → (i + d) % q = j → d < q → ∃ ps, Parts R i L ps ∧ ps.length ≤ n * q + d + 1 := by
  intro n
  induction n using Nat.strongRecOn with
  | ind n ihn =>
    intro L hL d
    by_cases hn : L = []
    · intro i _ _ _; exact ⟨[], hn ▸ Parts.done i, by simp⟩
    · have hLp : 0 < n := by
        rcases Nat.eq_zero_or_pos n with h0 | h0
        · exact absurd (List.eq_nil_of_length_eq_zero (hL.trans h0)) hn
        · exact h0
      induction d with
      | zero =>
        intro i hi hid hd
        rw [Nat.add_zero, Nat.mod_eq_of_lt hi] at hid
        subst hid
        have hc : 0 < clip sj L.length := by unfold clip; omega
        have hcl := clip_le sj L.length
        have hi2 : (i + 1) % q < q := Nat.mod_lt _ (by omega)
        obtain ⟨ps, h1, h2⟩ := ihn (L.drop (clip sj L.length)).length (by rw [List.length_drop]; omega) (L.drop (clip sj L.length)) rfl ((i + q - (i + 1) % q) % q) ((i + 1) % q) hi2
          (by rw [Nat.add_mod_mod, show (i + 1) % q + (i + q - (i + 1) % q) = i + q by omega, Nat.add_mod_right, Nat.mod_eq_of_lt hi]) (Nat.mod_lt _ (by omega))
        refine ⟨_, Parts.step i L sj ps hn hs (by rw [hq]; exact h1), ?_⟩
        have h3 : (i + q - (i + 1) % q) % q < q := Nat.mod_lt _ (by omega)
        have h4 : (L.drop (clip sj L.length)).length + 1 ≤ n := by rw [List.length_drop]; omega
        have h5 := Nat.mul_le_mul_right q h4
        rw [Nat.add_mul, Nat.one_mul] at h5
        rw [List.length_cons]; omega
      | succ d ihd =>
        intro i hi hid hd
        obtain ⟨s, hsi⟩ : ∃ s, R[i]? = some s := ⟨_, List.getElem?_eq_getElem (by omega)⟩
        have hi2 : (i + 1) % q < q := Nat.mod_lt _ (by omega)
        have hid2 : ((i + 1) % q + d) % q = j := by rw [Nat.mod_add_mod, show i + 1 + d = i + (d + 1) by omega]; exact hid
        by_cases h0 : clip s L.length = 0
        · obtain ⟨ps, h1, h2⟩ := ihd ((i + 1) % q) hi2 hid2 (by omega)
          refine ⟨_, Parts.step i L s ps hn hsi (by rw [hq, h0, List.drop_zero]; exact h1), ?_⟩
          rw [List.length_cons]; omega
        · have hcl := clip_le s L.length
          obtain ⟨ps, h1, h2⟩ := ihn (L.drop (clip s L.length)).length (by rw [List.length_drop]; omega) (L.drop (clip s L.length)) rfl d ((i + 1) % q) hi2 hid2 (by omega)
          refine ⟨_, Parts.step i L s ps hn hsi (by rw [hq]; exact h1), ?_⟩
          have h4 : (L.drop (clip s L.length)).length + 1 ≤ n := by rw [List.length_drop]; omega
          have h5 := Nat.mul_le_mul_right q h4
          rw [Nat.add_mul, Nat.one_mul] at h5
          rw [List.length_cons]; omega
theorem parts_some {R : List Int} (hp : ∃ s ∈ R, 0 < s) (L : List Int) : ∃ ps, Parts R 0 L ps ∧ ps.length ≤ (L.length + 1) * R.length + 1 := by
  obtain ⟨s, hs, h0⟩ := hp
  obtain ⟨j, hj, rfl⟩ := List.mem_iff_getElem.1 hs
  obtain ⟨ps, h1, h2⟩ := Parts.exists R.length rfl j hj R[j] (List.getElem?_eq_getElem hj) h0 L.length L rfl j 0 (by omega) (by rw [Nat.zero_add, Nat.mod_eq_of_lt hj]) hj
  refine ⟨ps, h1, ?_⟩
  rw [Nat.add_mul, Nat.one_mul]; omega
theorem parts_whole (L : List Int) : Parts [(L.length : Int)] 0 L (if L = [] then [] else [L]) := by
  by_cases h : L = []
  · subst h; exact Parts.done 0
  · rw [if_neg h]
    have hc : clip (L.length : Int) L.length = L.length := by unfold clip; omega
    have := Parts.step (R := [(L.length : Int)]) 0 L (L.length : Int) [] h rfl (by rw [hc, List.drop_length]; exact Parts.done _)
    rwa [hc, List.take_length] at this
end Fc
end Go.Proofs.YtbohdmconeebeaaDoor

namespace Go.Proofs.YtbohdmconeebeaaDoor
open Go.RowKit Go.Shelf
set_option maxRecDepth 100000
attribute [local go_sem] Oper.semAt_some

set_option maxHeartbeats 2000000 in
/-- the closure: it hands each segment with its place to the loop's body, till the body says no more, or there is none left -/
theorem closed_in (n : Nat) (hn : 1 ≤ n) (m' l Bs m c : Nat) (S : Nat → Prop) (w : World) (hS : ∀ k, S k → k < w.heap.size) (A : Option Addr) (zs : List Int) (hm : zs.length = m) (hl : m ≤ 1000000) (hz : Bytes zs) (hc : m ≤ c) (J : Nat → World → Prop) (Jx : World → Prop)
    (hY : ∀ (j p : Nat) (A' : Option Addr) (b : List Int) (W : World), J j W → KeepS S w W → (Fc.scan 0 [] zs)[j]? = some (p, b) → NumsS .u8 w S A' b →
      YieldAt Fence.wide m' Tryd.prog l #[.int .i64 (p : Int), .slice A' b.length b.length] W fun e W' => (e = .returned (.bool true) ∧ J (j + 1) W' ∧ KeepS S W W') ∨ (e = .returned (.bool false) ∧ Jx W'))
    (W : World) (hSB : S Bs) (hBs : w.cell? ⟨Bs, 0, none⟩ = some (.slice A m c)) (hK : KeepS S w W) (hN : NumsS .u8 w S A zs) (h0 : J 0 W) :
    CallsIn Fence.wide n Tryd.prog 60 #[.func (.yield l) #[] #[], .pointer (some ⟨Bs, 0, none⟩)] W fun e W' => (∃ v, e = .returned v) ∧ ((J (Fc.scan 0 [] zs).length W' ∧ KeepS S w W') ∨ Jx W') := by
  have HM := Lib.hid hm
  clear hm
  refine callsIn_of_wp Tryd.func60 rfl trivial ?_ rfl
  simp only [Tryd.ntmps60, List.size_toArray, List.length_cons, List.length_nil, Nat.reduceAdd, Nat.reduceSub, Array.replicate_succ, Array.replicate_zero, List.push_toArray, List.append_toArray, List.nil_append, List.cons_append]
  gi_wp2
  refine wpIn_wide.2 (wp_scope_straight ((wpIn_wide (n := n)).1 ?_))
  gi_wp2
  apply wpIn_label
  gi_wp2
  gi_loopw [3] (fun v wr => ∃ (k : Nat) (pre : List (Nat × List Int)), k ≤ m ∧ v = .int .i64 (k : Int) ∧ Hid (Fc.scan 0 [] zs = pre ++ Fc.scan k [] (zs.drop k)) ∧ J pre.length wr ∧ KeepS S w wr)
    (fun v _ => m - (intOf v).toNat)
  case atStart => exact ⟨0, [], by omega, rfl, rfl, h0, hK⟩
  case round =>
    obtain ⟨k, pre, hkm, rfl, HP, hJ, hk⟩ := hrel
    have hbx : wr.cell? ⟨Bs, 0, none⟩ = some (.slice A m c) := (hk.cell (p := ⟨Bs, 0, none⟩) hSB).trans hBs
    have hdl : (zs.drop k).length = m - k := by rw [List.length_drop, HM.out]
    have I := index_any w.heap.size (if c = k then A else A.map (·.add k)) (m - k) (c - k) (zs.drop k) wr hdl (hz.drop k) (((hN.keeps hk).nums hS).drop (by rw [HM.out]; exact hc))
    have hle := Cb.nz_le (zs.drop k)
    have hmc : (m : Int) ≤ (c : Int) := by omega
    have hkm' : (k : Int) ≤ (m : Int) := by omega
    rcases Nat.lt_or_ge (Cb.nz (zs.drop k)) (m - k) with h4 | h4
    · have e1 : idx (zs.drop k) = (Cb.nz (zs.drop k) : Int) := by unfold idx; rw [if_pos (by rw [hdl]; exact h4)]
      have hck : c ≠ k := by omega
      rw [e1, if_neg hck] at I
      by_cases h0 : Cb.nz (zs.drop k) = 0
      · have HS : Hid (Fc.scan 0 [] zs = pre ++ Fc.scan (k + 1) [] (zs.drop (k + 1))) := by
          show _ = _
          have := Fc.scan_step (L := zs.drop k) (by rw [hdl]; exact h4) k
          rw [if_pos h0, h0, List.nil_append, List.drop_drop] at this
          rw [HP.out, this]
        rw [h0, show ((0 : Nat) : Int) = 0 from rfl] at I
        clear hle hdl e1
        have HQ := Lib.hid h0
        clear h0
        gi_wp2_with fail
        refine ⟨trivial, ?_⟩
        refine (callsIn_wide.2 I).mono ?_
        rintro e w1 ⟨rfl, rfl⟩
        clear I
        gi_wp2
        refine ⟨fun f hf => (by cases hf), ?_⟩
        gi_wp2
        go_roundw
        case rel => exact ⟨k + 1, pre, by omega, by go_num, HS, hJ, hk⟩
        case measure => simp [intOf]; omega
      · have h5 : (0 : Int) < (Cb.nz (zs.drop k) : Int) := by omega
        have h6 : ¬ (Cb.nz (zs.drop k) : Int) < 0 := by omega
        have HS : Hid (Fc.scan 0 [] zs = pre ++ [(k, (zs.drop k).take (Cb.nz (zs.drop k)))] ++ Fc.scan (k + Cb.nz (zs.drop k) + 1) [] (zs.drop (k + Cb.nz (zs.drop k) + 1))) := by
          show _ = _
          have := Fc.scan_step (L := zs.drop k) (by rw [hdl]; exact h4) k
          rw [if_neg h0, List.drop_drop] at this
          rw [HP.out, this, List.append_assoc, Nat.add_assoc]
        have htl : ((zs.drop k).take (Cb.nz (zs.drop k))).length = Cb.nz (zs.drop k) := by rw [List.length_take]; omega
        have hget : (Fc.scan 0 [] zs)[pre.length]? = some (k, (zs.drop k).take (Cb.nz (zs.drop k))) := by
          rw [HS.out, List.append_assoc, List.getElem?_append_right (Nat.le_refl _), Nat.sub_self]; rfl
        have hnum : NumsS .u8 w S (A.map (·.add k)) ((zs.drop k).take (Cb.nz (zs.drop k))) := by
          have := (hN.drop2 (a' := A.map (·.add k)) (i := 0) (j := k) (fun _ b o e => by subst e; by_cases hk0 : k = 0 <;> simp [Addr.add, hk0])).take (Cb.nz (zs.drop k))
          rwa [Nat.zero_add] at this
        have HYr := Lib.hid (hY pre.length k (A.map (·.add k)) _ wr hJ hk hget hnum)
        rw [htl] at HYr
        clear hle hdl e1 htl hget hnum
        gi_wp2_with fail
        refine ⟨trivial, ?_⟩
        refine (callsIn_wide.2 I).mono ?_
        rintro e w1 ⟨rfl, rfl⟩
        clear I
        have h7 : (k : Int) + (Cb.nz (zs.drop k) : Int) ≤ (c : Int) := by omega
        obtain ⟨fn, tmps, assign, body, hy, hR⟩ := yield_any (n - 1) HYr.out
        have HR := Lib.hid hR
        clear hR HYr
        gi_wp2_with fail
        refine HR.out.mono ?_
        rintro e W3 (⟨rfl, hJ3, hk3⟩ | ⟨rfl, hJx3⟩)
        · gi_wp2
          go_roundw
          case rel => exact ⟨k + Cb.nz (zs.drop k) + 1, pre ++ [(k, (zs.drop k).take (Cb.nz (zs.drop k)))], by omega, by go_num, HS, by rw [List.length_append, List.length_singleton]; exact hJ3, hk.trans hk3⟩
          case measure => simp [intOf]; omega
        · gi_wp2
          first | go_end0 | (rw [Exit.noGoto_normal]; go_end0)
          exact ⟨⟨_, rfl⟩, .inr hJx3⟩
    · have e1 : idx (zs.drop k) = -1 := by unfold idx; rw [if_neg (by rw [hdl]; omega)]
      have HS : Hid (Fc.scan 0 [] zs = pre) := by
        show _ = _
        rw [HP.out, Fc.scan_last (by rw [hdl]; exact h4), List.append_nil]
      rw [e1] at I
      clear hle hdl e1
      by_cases hck : c = k
      · subst hck
        rw [if_pos rfl, Nat.sub_self, show m - c = 0 by omega] at I
        gi_wp2_with fail
        refine ⟨trivial, ?_⟩
        refine (callsIn_wide.2 I).mono ?_
        rintro e w1 ⟨rfl, rfl⟩
        clear I
        gi_wp2
        first | go_end0 | (rw [Exit.noGoto_normal]; go_end0)
        rw [HS.out]
        exact ⟨⟨_, rfl⟩, .inl ⟨hJ, hk⟩⟩
      · rw [if_neg hck] at I
        gi_wp2_with fail
        refine ⟨trivial, ?_⟩
        refine (callsIn_wide.2 I).mono ?_
        rintro e w1 ⟨rfl, rfl⟩
        clear I
        gi_wp2
        first | go_end0 | (rw [Exit.noGoto_normal]; go_end0)
        rw [HS.out]
        exact ⟨⟨_, rfl⟩, .inl ⟨hJ, hk⟩⟩
end Go.Proofs.YtbohdmconeebeaaDoor

namespace Go.Proofs.YtbohdmconeebeaaDoor
open Go.RowKit Go.Shelf
set_option maxRecDepth 100000
attribute [local go_sem] Oper.semAt_some

theorem closed_any (a : Option Addr) (n c : Nat) (w : World) :
    Calls Tryd.prog 46 #[.slice a n c] w fun e w' => e = .returned (.func (.func 60) #[] #[.pointer (some ⟨w.heap.size, 0, none⟩)]) ∧ w' = w.alloc (.cells #[.slice a n c] 29) := by
  go_enter Tryd.func46, Tryd.ntmps46
  go_wp2
  go_ret
  exact ⟨rfl, rfl⟩

theorem Ld.next {w V V1 : World} {b : Nat} {t : TypeId} {j : Nat} (h : Ld w b t j V) (hb : b < w.heap.size) (h1 : Below w.heap.size V V1) : Ld w b t (j + 1) (V1.setCell ⟨b, 0, none⟩ (.int .i64 ((j : Int) + 1))) :=
  ⟨by have := Boxed.set (.int .i64 ((j : Int) + 1)) ((h1.block b hb).trans h.1 : Boxed V1 b t _); rw [Int.natCast_succ]; exact this, (off_below h.2 h1).setCell (p := ⟨b, 0, none⟩) rfl _⟩
theorem Ld.keepS {S : Nat → Prop} {V : World} {b : Nat} (hb : ¬ S b) (v : Value) : KeepS S V (V.setCell ⟨b, 0, none⟩ v) := (KeepS.refl S V).set hb v

end Go.Proofs.YtbohdmconeebeaaDoor

namespace Go.Proofs.YtbohdmconeebeaaDoor
open Go.RowKit

theorem wpListIn_append_vals {F : Fence} {nF : Nat} {P : Program} {w : World} {ops : Array Oper} {rest : List Oper} {o : Oper} {a : Act} {Q : Exit → Act → World → Prop} (hg : o.guard = none) (s x : Operand) (t : TypeId)
    (hop : o.op = Op.call { callee := Callee.builtin Builtin.append, args := #[s, x], argTypes := #[t, t] })
    (base : Nat) (e : TypeId) (i : TypeInfo) (z : Value) (bytes : Nat) (ht : P.underlying t = some (.slice e)) (hi : P.info? e = some i) (hz : i.zero = some z) (hsize : i.size = 1) (hby : i.bytes = bytes) (hzs : z.cells.size = 1)
    (n : Nat) (xs news : List Value) (v : Value) (hs : a.eval s = v) (hown : w.ownsRow base e 1 v n xs) (ad : Addr) (m c : Nat) (hx : a.eval x = .slice (some ad) m c) (hm : news.length = m) (hnews : ∀ j u, news[j]? = some u → w.cell? (ad.add j) = some u) (hone : ∀ u ∈ news, u.oneCell' = true)
    (h63 : n + m ≤ maxLen) (hbytes : (n + m) * bytes ≤ 140737488355328) (hbase : base ≤ w.heap.size)
    (hK : ∀ v' w', w'.ownsRow base e 1 v' (n + m) (xs ++ news) → w.grownBy w' v.ownBlock → wpListIn F nF P ops Q rest (a.put o.dst v') w') :
    wpListIn F nF P ops Q (o :: rest) a w := by
  refine wpListIn_plain hg fun K hK' => ?_
  obtain ⟨v', w', hrun, r1, r2, _⟩ := run_append_own (P := P) (w := w) base t o.type e i z 1 bytes ht hi hz hsize hby hzs (by decide) v n xs hown ad m c news (by omega) hnews hone h63 hbytes hbase
  unfold Oper.wpIn
  refine ⟨?_, ?_⟩
  · simp [Oper.about, hop, resolve, Target.leads, Sem.run_pure]
  · rw [Oper.semAt_plain F _ _ (by rw [hop]; intro c hc'; cases hc')]
    simp [execOp, hop, resolve, invoke, builtin, hs, hx, hrun, Result.andThen]
    exact hK' _ _ (hK v' w' r1 r2)

/-- what a box of a list that is appended to leaves; base: where the list's own blocks begin, above the box -/
structure ListApp (base Bo : Nat) (t e : TypeId) (v' : Value) (m : Nat) (ys : List Value) (W W2 : World) : Prop where
  out : Boxed W2 Bo t v'
  row : W2.ownsRow base e 1 v' m ys
  others : KeepsOthers W W2
  off : ∀ w : World, w.heap.size = base → Off (fun k => k = Bo) w W → Off (fun k => k = Bo) w W2
  keep : ∀ S : Nat → Prop, ¬ S Bo → (∀ k, S k → k < base) → KeepS S W W2
theorem list_appended {W w1 : World} {base Bo : Nat} {t e : TypeId} {v v' : Value} {n m : Nat} {xs ys : List Value} (hv : Boxed W Bo t v) (hrow : W.ownsRow base e 1 v n xs) (hBo : Bo < base) (hbase : base ≤ W.heap.size)
    (hown' : w1.ownsRow base e 1 v' m ys) (hg : W.grownBy w1 v.ownBlock) :
    Boxed w1 Bo t v ∧ ListApp base Bo t e v' m ys W (w1.setCell ⟨Bo, 0, none⟩ v') := by
  have hlt := hrow.lt
  have hne : some Bo ≠ v.ownBlock := fun e2 => by have := (hlt Bo e2.symm).1; omega
  have hne' : v'.ownBlock = none ∨ v'.ownBlock ≠ some Bo := by
    right; intro e2; have := (hown'.lt Bo e2).1; omega
  have hv1 : Boxed w1 Bo t v := hv.kept hg hne
  have hblk : ∀ k, k < base → k ≠ Bo → (w1.setCell ⟨Bo, 0, none⟩ v').heap[k]? = W.heap[k]? := fun k hk hkn => by
    refine (Below.heap_setCell w1 ⟨Bo, 0, none⟩ v' k hkn).trans (hg.block k (by omega) fun e2 => ?_)
    have := (hlt k e2.symm).1; omega
  have hsz : W.heap.size ≤ (w1.setCell ⟨Bo, 0, none⟩ v').heap.size := by simpa [World.setCell] using hg.size
  refine ⟨hv1, hv1.set v', hown'.kept (grownBy_setCell' w1 Bo v') hne', ?_, ?_, ?_⟩
  · refine (KeepsOthers.of_grownBy hg fun j o ej hj => ?_).trans (KeepsOthers.setCell _ _ _)
    rcases hrow.2 with ⟨rfl, _⟩ | ⟨g, cap, cur, rfl, _, hgb, _⟩
    · simp [Value.ownBlock] at ej
    · obtain rfl : g = j := by simpa [Value.ownBlock] using ej
      rw [hgb] at hj; cases hj; rfl
  · exact fun w hw h => ⟨hg.os.trans h.os, hg.tape.trans h.tape, hg.output.trans h.output, Nat.le_trans h.size hsz, fun k hk hn => (hblk k (by omega) hn).trans (h.block k hk hn)⟩
  · exact fun S hS hSb => ⟨hsz, fun k hk => hblk k (hSb k hk) (fun e2 => hS (by rw [← e2]; exact hk))⟩

/-- the list v, of the lists O, whose numbers lay in blocks of S in w -/
structure LsS (tl : TypeId) (k : IntKind) (base : Nat) (w : World) (S : Nat → Prop) (W : World) (v : Value) (xs : List Value) (O : List (List Int)) : Prop where
  out : W.ownsRow base tl 1 v O.length xs
  els : ∀ (i : Nat) (b : List Int), O[i]? = some b → ∃ (A : Option Addr) (c : Nat), xs[i]? = some (.slice A b.length c) ∧ b.length ≤ c ∧ NumsS k w S A b
section
variable {tl : TypeId} {k : IntKind} {base : Nat} {w W W' : World} {S : Nat → Prop} {v v' : Value} {xs : List Value} {O : List (List Int)}
theorem LsS.start (tl : TypeId) (k : IntKind) (base : Nat) (w : World) (S : Nat → Prop) (W : World) : LsS tl k base w S W (.slice none 0 0) [] [] := ⟨World.ownsRow_nil _ _ _ _, fun i b h => by simp at h⟩
theorem LsS.more {b : List Int} {A : Option Addr} {c : Nat} (h : LsS tl k base w S W v xs O) (hown : W'.ownsRow base tl 1 v' (O.length + 1) (xs ++ [.slice A b.length c])) (hc : b.length ≤ c) (hn : NumsS k w S A b) : LsS tl k base w S W' v' (xs ++ [.slice A b.length c]) (O ++ [b]) := by
  have hxl : xs.length = O.length := by have := h.out.1; omega
  refine ⟨by simpa using hown, fun i b2 hb => ?_⟩
  rcases Nat.lt_or_ge i O.length with hi | hi
  · rw [List.getElem?_append_left hi] at hb
    obtain ⟨A2, c2, hx, r⟩ := h.els i b2 hb
    exact ⟨A2, c2, by rw [List.getElem?_append_left (by omega)]; exact hx, r⟩
  · rw [List.getElem?_append_right hi] at hb
    have hi0 : i - O.length = 0 := by
      rcases Nat.eq_zero_or_pos (i - O.length) with h0 | h0
      · exact h0
      · rw [List.getElem?_eq_none (by simp only [List.length_singleton]; omega)] at hb; simp at hb
    rw [hi0] at hb
    simp only [List.getElem?_cons_zero, Option.some.injEq] at hb
    subst hb
    exact ⟨A, c, by rw [List.getElem?_append_right (by omega), show i - xs.length = 0 by omega]; rfl, hc, hn⟩
theorem LsS.kept (h : LsS tl k base w S W v xs O) (hown : W'.ownsRow base tl 1 v O.length xs) : LsS tl k base w S W' v xs O := ⟨hown, h.els⟩
theorem ListAt.putObj {k : IntKind} {V : World} {B l : Nat} {A : Option Addr} {bl : List (List Int)} {o : Obj} (h : ListAt k V B A bl) (ho : V.heap[l]? = some o) (hc : o.isCells = false) (o' : Obj) : ListAt k (V.putObj l o') B A bl := fun i b hi => by
  obtain ⟨g, Ai, ci, e, hg, hcl, hl, hn⟩ := h i b hi
  refine ⟨g, Ai, ci, e, hg, ?_, hl, hn.putObj ho hc o'⟩
  obtain ⟨o2, h2, h3⟩ := cells_of_cell hcl
  refine (World.cell?_of_block (World.putObj_heap_other (fun e2 => ?_))).trans hcl
  simp only at h2 e2
  subst e2
  rw [ho] at h2
  injection h2 with h2
  subst h2
  rw [hc] at h3; cases h3
/-- .. as it lies, in a world in which the blocks of S are as they were -/
theorem LsS.lies (h : LsS tl k base w S W v xs O) (hK : KeepS S w W) (hS : ∀ k, S k → k < w.heap.size) : ∃ A c, v = .slice A O.length c ∧ O.length ≤ c ∧ ListAt k W W.heap.size A O := by
  rcases h.out.2 with ⟨rfl, h0⟩ | ⟨g, cap, cur, rfl, hbg, hh, hle, _⟩
  · rw [List.eq_nil_of_length_eq_zero h0]
    exact ⟨none, 0, rfl, Nat.le_refl _, fun i b hi => by simp at hi⟩
  · refine ⟨_, cap, rfl, hle, fun i b hi => ?_⟩
    obtain ⟨A, c, hx, hc, hn⟩ := h.els i b hi
    have h1 := h.out.cells (g := g) rfl i _ hx
    rw [Addr.add_lit, Nat.zero_add] at h1
    exact ⟨g, A, c, rfl, (Array.getElem?_eq_some_iff.1 hh).1, h1, hc, (hn.keeps hK).nums (fun k hk => by have := hS k hk; have := hK.1; omega)⟩
end
end Go.Proofs.YtbohdmconeebeaaDoor

namespace Go.Proofs.YtbohdmconeebeaaDoor
open Go.RowKit Go.Shelf
set_option maxRecDepth 100000
attribute [local go_sem] Oper.semAt_some

/-- slices.Clone of bytes -/
theorem clone_any (a : Option Addr) (n cap : Nat) (zs : List Int) (w : World) (hn : zs.length = n) (hl : n ≤ 1000000) (h1 : Nums .u8 w w.heap.size a zs) :
    Calls Tryd.prog 44 #[.slice a n cap] w fun e w' => ∃ v, e = .returned v ∧ MadeK 5 .u8 w w' zs v := by
  subst hn
  obtain ⟨i0, hi, hz0, hz1, hz2⟩ := info_parts byteInfo
  cases a with
  | none =>
    have : zs = [] := by
      apply Classical.byContradiction
      intro hn
      obtain ⟨b, off, e, _⟩ := h1 hn
      cases e
    subst this
    have hq := fun w => Lib.run_eql_slice_nil (P := Tryd.prog) w 29 5 none 0 cap 0 0 Tryd.underlying29
    go_enter Tryd.func44, Tryd.ntmps44
    go_wp2
    go_ret
    exact ⟨_, rfl, MadeK.nil _ _ (Below.refl _ _)⟩
  | some x =>
    have hq := fun w => Lib.run_eql_slice_nil (P := Tryd.prog) w 29 5 (some x) zs.length cap 0 0 Tryd.underlying29
    have HL := Lib.hid (MadeK.lit 5 .u8 (Below.refl w.heap.size w))
    have HN := Lib.hid (h1.below ((Below.refl w.heap.size w).alloc (Nat.le_refl _) (.cells #[] 5)))
    have HX1 : Hid (([] : List Int).length + zs.length ≤ maxLen) := by show _ ≤ _; unfold maxLen; simp only [List.length_nil]; omega
    have HX2 : Hid ((([] : List Int).length + zs.length) * 1 ≤ 140737488355328) := by show _ ≤ _; simp only [List.length_nil]; omega
    go_enter Tryd.func44, Tryd.ntmps44
    go_wp2_with (at_builtin; refine wpList_append_any rfl (.tmp 5) (.tmp 6) 29 rfl w.heap.size 5 i0 (.int .u8 0) 1 Tryd.underlying29 hi hz0 hz1 hz2 rfl .u8 [] zs _ rfl HL.out.1 _ _ _ _ rfl rfl HN.out HX1.out HX2.out HL.out.2.size ?_)
    intro v' w1 hown hg
    have HM := Lib.hid (HL.out.more (zs := zs) (v' := v') (by simpa using hown) hg)
    rw [List.nil_append] at HM
    go_wp2
    go_ret
    exact ⟨_, rfl, HM.out⟩
end Go.Proofs.YtbohdmconeebeaaDoor

namespace Go.Proofs.YtbohdmconeebeaaDoor
open Go.RowKit Go.Shelf
set_option maxRecDepth 100000
attribute [local go_sem] Oper.semAt_some

/-- what Split leaves -/
def SplitR (w : World) (zs : List Int) (e : Ending) (w' : World) : Prop :=
  ∃ A1 c1 A2 c2, e = .returned (.tuple #[.slice A1 (Fc.segs zs).length c1, .slice A2 (Fc.opn [] zs).length c2]) ∧ (Fc.segs zs).length ≤ c1 ∧ (Fc.opn [] zs).length ≤ c2 ∧
    ListAt .u8 w' w'.heap.size A1 (Fc.segs zs) ∧ Nums .u8 w' w'.heap.size A2 (Fc.opn [] zs) ∧ Below w.heap.size w w'

end Go.Proofs.YtbohdmconeebeaaDoor

namespace Go.Proofs.YtbohdmconeebeaaDoor
open Go.RowKit

/-- x is a slice of the numbers b, in a block of the call's own with elements of type te -/
def El1 (te : TypeId) (k : IntKind) (base : Nat) (W : World) (x : Value) (b : List Int) : Prop :=
  ∃ (A : Option Addr) (c : Nat), x = .slice A b.length c ∧ b.length ≤ c ∧ (b ≠ [] → ∃ (g : Nat) (cur : Array Value), A = some ⟨g, 0, none⟩ ∧ base ≤ g ∧ W.heap[g]? = some (.cells cur te (0, 0)) ∧ ∀ (j : Nat) (z : Int), b[j]? = some z → cur[j]? = some (Value.int k z))
/-- the slice v of slices, the lists O -/
structure L1 (te tl : TypeId) (k : IntKind) (base : Nat) (W : World) (v : Value) (xs : List Value) (O : List (List Int)) : Prop where
  out : W.ownsRow base tl 1 v O.length xs
  els : ∀ (i : Nat) (b : List Int), O[i]? = some b → ∃ x, xs[i]? = some x ∧ El1 te k base W x b
section
variable {te tl : TypeId} {k : IntKind} {base : Nat} {W w1 W' : World} {v v' u x : Value} {xs ys : List Value} {O P : List (List Int)} {b : List Int} {o : Obj}
theorem L1.start (te tl : TypeId) (k : IntKind) (base : Nat) (W : World) : L1 te tl k base W (.slice none 0 0) [] [] := ⟨World.ownsRow_nil _ _ _ _, fun i b h => by simp at h⟩
theorem own_below {e : TypeId} {n : Nat} (h : W.ownsRow base e 1 v n xs) (hb : Below W.heap.size W W') : W'.ownsRow base e 1 v n xs := by
  refine ⟨h.1, ?_⟩
  rcases h.2 with h | ⟨g, cap, cur, hv, hg, hh, r⟩
  · exact .inl h
  · exact .inr ⟨g, cap, cur, hv, hg, (hb.block g (Array.getElem?_eq_some_iff.1 hh).1).trans hh, r⟩
theorem El1.below (h : El1 te k base W x b) (hb : Below W.heap.size W W') : El1 te k base W' x b := by
  obtain ⟨A, c, rfl, hc, hz⟩ := h
  refine ⟨A, c, rfl, hc, fun hn => ?_⟩
  obtain ⟨g, cur, rfl, hg, hh, hj⟩ := hz hn
  exact ⟨g, cur, rfl, hg, (hb.block g (Array.getElem?_eq_some_iff.1 hh).1).trans hh, hj⟩
theorem L1.below (h : L1 te tl k base W v xs O) (hb : Below W.heap.size W W') : L1 te tl k base W' v xs O :=
  ⟨own_below h.out hb, fun i b hi => by obtain ⟨x, hx, he⟩ := h.els i b hi; exact ⟨x, hx, he.below hb⟩⟩
/-- what a row that the call has just made is -/
theorem El1.of_made {w : World} (h : MadeK te k w W b x) (hb : base ≤ w.heap.size) : El1 te k base W x b := by
  have h1 := h.1
  rcases h1.2 with ⟨rfl, h0⟩ | ⟨g, cap, cur, rfl, hbg, hh, hle, _, _, htk⟩
  · rw [List.eq_nil_of_length_eq_zero h0]
    exact ⟨none, 0, rfl, Nat.le_refl _, fun hn => absurd rfl hn⟩
  · refine ⟨_, cap, rfl, hle, fun _ => ⟨g, cur, rfl, by omega, hh, fun j z hj => ?_⟩⟩
    have h1 : (b.map (Value.int k))[j]? = some (.int k z) := by rw [List.getElem?_map, hj]; rfl
    rw [← htk, List.getElem?_take] at h1
    split at h1
    · rw [← Array.getElem?_toList]; exact h1
    · simp at h1
theorem El1.slice (h : El1 te k base W x b) : ∃ A c, x = .slice A b.length c := by
  obtain ⟨A, c, e, _⟩ := h
  exact ⟨A, c, e⟩
/-- a row of another element type has grown -/
theorem El1.grown {n : Nat} (h : El1 te k base W x b) (hne : te ≠ tl) (hown : W.ownsRow base tl 1 v n xs) (hg : (W.alloc o).grownBy w1 v.ownBlock) : El1 te k base w1 x b := by
  obtain ⟨A, c, rfl, hc, hz⟩ := h
  refine ⟨A, c, rfl, hc, fun hn => ?_⟩
  obtain ⟨g, cur, rfl, hbg, hh, hj⟩ := hz hn
  have hlt := (Array.getElem?_eq_some_iff.1 hh).1
  refine ⟨g, cur, rfl, hbg, ?_, hj⟩
  rw [hg.block g (by rw [World.size_alloc]; omega) (fun e => ?_)]
  · exact (Below.heap_alloc W o g hlt).trans hh
  · rcases hown.2 with ⟨rfl, _⟩ | ⟨g2, cap2, cur2, rfl, _, hh2, _⟩
    · simp [Value.ownBlock] at e
    · simp only [Value.ownBlock, Option.some.injEq] at e
      subst e
      rw [hh] at hh2
      injection hh2 with hh2
      injection hh2 with _ ht
      exact hne ht
/-- an element more -/
theorem L1.push (h : L1 te tl k base W v xs O) (hne : te ≠ tl) (hx : El1 te k base W x b) (hown : w1.ownsRow base tl 1 v' (O.length + 1) (xs ++ [x])) (hg : (W.alloc o).grownBy w1 v.ownBlock) :
    L1 te tl k base w1 v' (xs ++ [x]) (O ++ [b]) := by
  have hxl : xs.length = O.length := by have := h.out.1; omega
  refine ⟨by simpa using hown, fun i b2 hb => ?_⟩
  rcases Nat.lt_or_ge i O.length with hi | hi
  · rw [List.getElem?_append_left hi] at hb
    obtain ⟨x2, hx2, he⟩ := h.els i b2 hb
    exact ⟨x2, by rw [List.getElem?_append_left (by omega)]; exact hx2, he.grown hne h.out hg⟩
  · rw [List.getElem?_append_right hi] at hb
    have hi0 : i - O.length = 0 := by
      rcases Nat.eq_zero_or_pos (i - O.length) with h0 | h0
      · exact h0
      · rw [List.getElem?_eq_none (by simp only [List.length_singleton]; omega)] at hb; simp at hb
    rw [hi0] at hb
    simp only [List.getElem?_cons_zero, Option.some.injEq] at hb
    subst hb
    exact ⟨x, by rw [List.getElem?_append_right (by omega), show i - xs.length = 0 by omega]; rfl, hx.grown hne h.out hg⟩
/-- .. beside another list -/
theorem L1.beside {n : Nat} (h : L1 te tl k base W u ys P) (hne : te ≠ tl) (hsep : u.ownBlock = none ∨ u.ownBlock ≠ v.ownBlock) (hown : W.ownsRow base tl 1 v n xs) (hg : (W.alloc o).grownBy w1 v.ownBlock) : L1 te tl k base w1 u ys P :=
  ⟨(h.out.alloc o).kept hg hsep, fun i b hi => by obtain ⟨x, hx, he⟩ := h.els i b hi; exact ⟨x, hx, he.grown hne hown hg⟩⟩
/-- .. which stays apart -/
theorem apart_grown {n : Nat} {e : TypeId} (h : W.ownsRow base e 1 u n ys) (hsep : u.ownBlock = none ∨ u.ownBlock ≠ v.ownBlock) (hat : v'.ownBlock = v.ownBlock ∨ v'.ownBlock = some (W.alloc o).heap.size) : u.ownBlock = none ∨ u.ownBlock ≠ v'.ownBlock := by
  rcases hsep with h0 | h0
  · exact .inl h0
  · right
    rcases hat with e | e
    · rw [e]; exact h0
    · intro e2
      rw [e, World.size_alloc] at e2
      rcases h.2 with ⟨rfl, _⟩ | ⟨g, cap, cur, rfl, _, hh, _⟩
      · simp [Value.ownBlock] at e2
      · simp only [Value.ownBlock, Option.some.injEq] at e2
        have := (Array.getElem?_eq_some_iff.1 hh).1
        omega
theorem apart_symm {n m : Nat} {e : TypeId} (_h : W.ownsRow base e 1 v n xs) (_h2 : W.ownsRow base e 1 u m ys) (hsep : u.ownBlock = none ∨ u.ownBlock ≠ v.ownBlock) : v.ownBlock = none ∨ v.ownBlock ≠ u.ownBlock := by
  rcases hsep with h0 | h0
  · cases hv : v.ownBlock with
    | none => exact .inl rfl
    | some g => right; rw [h0]; simp
  · exact .inr (Ne.symm h0)
theorem L1.lies (h : L1 te tl k base W v xs O) : ∃ A c, v = .slice A O.length c ∧ O.length ≤ c ∧ ListAt k W W.heap.size A O := by
  rcases h.out.2 with ⟨rfl, h0⟩ | ⟨g, cap, cur, rfl, hbg, hh, hle, _⟩
  · rw [List.eq_nil_of_length_eq_zero h0]
    exact ⟨none, 0, rfl, Nat.le_refl _, fun i b hi => by simp at hi⟩
  · refine ⟨_, cap, rfl, hle, fun i b hi => ?_⟩
    obtain ⟨x, hx, A, c, rfl, hc, hcell⟩ := h.els i b hi
    have h1 := h.out.cells (g := g) rfl i _ hx
    rw [Addr.add_lit, Nat.zero_add] at h1
    refine ⟨g, A, c, rfl, (Array.getElem?_eq_some_iff.1 hh).1, h1, hc, fun hn => ?_⟩
    obtain ⟨g2, cur2, rfl, _, hh2, hz⟩ := hcell hn
    refine ⟨g2, 0, rfl, (Array.getElem?_eq_some_iff.1 hh2).1, fun j z hj => ?_⟩
    rw [Nat.zero_add]
    simp [World.cell?, hh2, hz j z hj]
end
end Go.Proofs.YtbohdmconeebeaaDoor

namespace Go.Proofs.YtbohdmconeebeaaDoor
open Go.RowKit Go.Shelf
set_option maxRecDepth 100000
attribute [local go_sem] Oper.semAt_some

theorem wrap_take (bl : List (List Int)) (k : Nat) {b : List Int} (hb : bl[k]? = some b) : Fc.wrap (bl.take (k + 1)) = Fc.wrap (bl.take k) ++ [0] ++ b ++ [0] := by
  rw [List.take_add_one, hb, Fc.wrap_append]
  simp [Fc.wrap]
theorem wrap_take_le (bl : List (List Int)) (k : Nat) : (Fc.wrap (bl.take k)).length ≤ (Fc.wrap bl).length := by
  conv => rhs; rw [← List.take_append_drop k bl, Fc.wrap_append, List.length_append]
  omega

set_option maxHeartbeats 2000000 in
theorem wrap_any (A : Option Addr) (n c : Nat) (bl : List (List Int)) (w : World) (hn : bl.length = n) (hc : n ≤ c) (hl : n ≤ 1000000) (hW : (Fc.wrap bl).length ≤ 1000000) (h1 : ListAt .u8 w w.heap.size A bl) :
    Calls Tryd.prog 27 #[.slice A n c] w fun e w' => ∃ v, e = .returned v ∧ MadeK 5 .u8 w w' (Fc.wrap bl) v := by
  obtain ⟨i0, hi, hz0, hzz1, hzz2⟩ := info_parts byteInfo
  have HL := Lib.hid hn
  have HW := Lib.hid hW
  clear hn hW
  go_enter Tryd.func27, Tryd.ntmps27
  go_wp2
  go_loopw [3, 5, 8] (fun v _ i wr => ∃ (k : Nat) (v' : Value), k ≤ n ∧ i = .int .i64 k ∧ v = v' ∧ Hid (MadeK 5 .u8 w wr (Fc.wrap (bl.take k)) v')) (fun _ _ i _ => n - (intOf i).toNat)
  case atStart => exact ⟨0, _, by omega, rfl, rfl, MadeK.nil _ _ (Below.refl _ _)⟩
  case round =>
    obtain ⟨k, vv, hk, rfl, hvv, HM⟩ := hrel
    subst hvv
    by_cases hlt : k < n
    · obtain ⟨b, hb⟩ : ∃ b, bl[k]? = some b := ⟨_, List.getElem?_eq_getElem (by rw [HL.out]; exact hlt)⟩
      have hwt := wrap_take bl k hb
      have hwl := wrap_take_le bl (k + 1)
      rw [hwt] at hwl
      simp only [List.length_append, List.length_singleton] at hwl
      have hW2 := HW.out
      obtain ⟨g, Ai, ci, rfl, hg, hcell0, hbl, hnb⟩ := h1 k b hb
      have hcell : wr.cell? ⟨g, k, none⟩ = some (.slice Ai b.length ci) := (HM.out.2.cell (p := ⟨g, k, none⟩) hg).trans hcell0
      have HO1 := Lib.hid (HM.out.later (.cells #[.int .u8 0] 5))
      have HA1 := Lib.hid ((Nums.new .u8 wr 5 [0] #[.int .u8 0] rfl))
      have HWT := Lib.hid hwt
      have HNB := Lib.hid hnb
      obtain ⟨P, hP⟩ : ∃ P, (Fc.wrap (bl.take k)).length = P := ⟨_, rfl⟩
      obtain ⟨q, hq⟩ : ∃ q, b.length = q := ⟨_, rfl⟩
      rw [hP, hq] at hwl
      rw [hq] at hcell hbl
      have HP := Lib.hid hP
      have HQ := Lib.hid hq
      have HX1 : Hid ((Fc.wrap (bl.take k)).length + 1 ≤ maxLen) := by show _ ≤ _; unfold maxLen; omega
      have HX2 : Hid (((Fc.wrap (bl.take k)).length + 1) * 1 ≤ 140737488355328) := by show _ ≤ _; omega
      have HX3 : Hid ((Fc.wrap (bl.take k) ++ [0]).length + q ≤ maxLen) := by show _ ≤ _; unfold maxLen; rw [List.length_append, List.length_singleton]; omega
      have HX4 : Hid (((Fc.wrap (bl.take k) ++ [0]).length + q) * 1 ≤ 140737488355328) := by show _ ≤ _; rw [List.length_append, List.length_singleton]; omega
      have HX5 : Hid ((Fc.wrap (bl.take k) ++ [0] ++ b).length + 1 ≤ maxLen) := by show _ ≤ _; unfold maxLen; rw [List.length_append, List.length_append, List.length_singleton]; omega
      have HX6 : Hid (((Fc.wrap (bl.take k) ++ [0] ++ b).length + 1) * 1 ≤ 140737488355328) := by show _ ≤ _; rw [List.length_append, List.length_append, List.length_singleton]; omega
      have hlt' : (k : Int) < (n : Int) := by omega
      have hnc : (n : Int) ≤ (c : Int) := by omega
      clear hb hwt hnb hP hq hcell0
      go_wp2_with (at_builtin; refine wpList_append_any rfl (.tmp 12) (.tmp 13) 29 rfl _ 5 i0 (.int .u8 0) 1 Tryd.underlying29 hi hz0 hzz1 hzz2 rfl .u8 _ [0] _ rfl HO1.out.1 _ 1 1 _ rfl rfl HA1.out HX1.out HX2.out HO1.out.2.size ?_)
      intro v1 w1 hown hgr
      have HM1 := Lib.hid (HO1.out.more (zs := [0]) (v' := v1) hown hgr)
      clear hown hgr HO1 HA1 HX1 HX2
      have HN1 := Lib.hid (HNB.out.below HM1.out.2)
      go_wp2_with (at_builtin; refine wpList_append_any rfl (.tmp 15) (.tmp 16) 29 rfl _ 5 i0 (.int .u8 0) 1 Tryd.underlying29 hi hz0 hzz1 hzz2 rfl .u8 _ b _ rfl HM1.out.1 _ _ _ _ rfl HQ.out HN1.out HX3.out HX4.out HM1.out.2.size ?_)
      intro v2 w2 hown hgr
      have HM2 := Lib.hid (HM1.out.more (zs := b) (v' := v2) (by simpa using hown) hgr)
      clear hown hgr HN1 HX3 HX4
      have HO2 := Lib.hid (HM2.out.later (.cells #[.int .u8 0] 5))
      have HA2 := Lib.hid ((Nums.new .u8 w2 5 [0] #[.int .u8 0] rfl))
      go_wp2_with (at_builtin; refine wpList_append_any rfl (.tmp 18) (.tmp 19) 29 rfl _ 5 i0 (.int .u8 0) 1 Tryd.underlying29 hi hz0 hzz1 hzz2 rfl .u8 _ [0] _ rfl HO2.out.1 _ 1 1 _ rfl rfl HA2.out HX5.out HX6.out HO2.out.2.size ?_)
      intro v3 w3 hown hgr
      have HM3 := Lib.hid (HO2.out.more (zs := [0]) (v' := v3) (by simpa using hown) hgr)
      clear hown hgr HO2 HA2 HX5 HX6
      have HF : Hid (MadeK 5 .u8 w w3 (Fc.wrap (bl.take (k + 1))) v3) := by show MadeK _ _ _ _ _ _; rw [HWT.out]; exact HM3.out
      go_wp2
      go_roundw
      case rel => exact ⟨k + 1, _, by omega, by go_num, rfl, HF⟩
      case measure => simp [intOf]; omega
    · have hkn : k = n := by omega
      have HF : Hid (MadeK 5 .u8 w wr (Fc.wrap bl) u3) := by
        have := HM.out
        rw [List.take_of_length_le (by rw [HL.out]; omega)] at this
        exact this
      go_wp2
      go_ret
      exact ⟨_, rfl, HF.out⟩
end Go.Proofs.YtbohdmconeebeaaDoor

namespace Go.Proofs.YtbohdmconeebeaaDoor
open Go.RowKit Go.Shelf
set_option maxRecDepth 100000

/-- a frame that lies somewhere -/
structure Fr where
  v : Int
  k : Int
  s : Int
  i : Int
  c : Int
  a : Option Addr
  cp : Nat
  zs : List Int
def Fr.cs (f : Fr) : Array Value := frC f.v f.k f.s f.i f.c (.slice f.a f.zs.length f.cp)
structure Fr.At (w : World) (B : Nat) (f : Fr) : Prop where
  s0 : 0 ≤ f.s
  s1 : f.s ≤ 4294967295
  room : f.zs.length ≤ f.cp
  few : f.zs.length ≤ 9223372036854775807
  byte : Bytes f.zs
  nums : Nums .u8 w B f.a f.zs
theorem Fr.At.below {w w' : World} {B : Nat} {f : Fr} (h : f.At w B) (hb : Below B w w') : f.At w' B := ⟨h.s0, h.s1, h.room, h.few, h.byte, h.nums.below hb⟩
theorem Fr.At.mono {w : World} {B B' : Nat} {f : Fr} (h : f.At w B) (hB : B ≤ B') : f.At w B' := ⟨h.s0, h.s1, h.room, h.few, h.byte, h.nums.mono hB⟩
def Fr.chk (f : Fr) : Int := fchk f.v f.k f.i f.c f.zs.length
def Fr.blk (f : Fr) : List Int := fblk f.v f.k f.s f.i f.c f.zs
def Fr.seg (f : Fr) : List Int := Cb.enc f.blk
theorem Fr.seg_len {f : Fr} (h : f.chk = 0) : f.seg.length = f.zs.length + 13 := by
  have h1 := (fchk_zero h).2
  have h2 : f.blk.length = f.zs.length + 12 := fblk_len _ _ _ _ _ _
  have h3 := (Cb.enc_len f.blk).2.2.1 (by omega)
  unfold Fr.seg
  omega
/-- the first that is wrong -/
def firstBad : List Fr → Int
  | [] => 0
  | f :: r => if f.chk ≠ 0 then f.chk else firstBad r
theorem firstBad_zero : ∀ {fs : List Fr}, (∀ f ∈ fs, f.chk = 0) → firstBad fs = 0
  | [], _ => rfl
  | f :: r, h => by
    rw [firstBad, if_neg (by simp [h f (by simp)])]
    exact firstBad_zero fun g hg => h g (by simp [hg])
theorem firstBad_all : ∀ {fs : List Fr}, firstBad fs = 0 → ∀ f ∈ fs, f.chk = 0
  | [], _, _, hf => by cases hf
  | g :: r, h, f, hf => by
    rw [firstBad] at h
    by_cases h0 : g.chk = 0
    · rw [if_neg (by simp [h0])] at h
      rcases List.mem_cons.1 hf with rfl | hf
      · exact h0
      · exact firstBad_all h f hf
    · rw [if_pos h0] at h; exact absurd h h0
theorem firstBad_at : ∀ {fs : List Fr} {k : Nat} {f : Fr}, (∀ g ∈ fs.take k, g.chk = 0) → fs[k]? = some f → f.chk ≠ 0 → firstBad fs = f.chk
  | [], _, _, _, h, _ => by simp at h
  | g :: r, 0, f, _, h, hf => by
    simp only [List.getElem?_cons_zero, Option.some.injEq] at h
    subst h
    rw [firstBad, if_pos hf]
  | g :: r, k + 1, f, hg, h, hf => by
    rw [firstBad, if_neg (by simp [hg g (by simp)])]
    exact firstBad_at (k := k) (fun x hx => hg x (by rw [List.take_succ_cons]; exact List.mem_cons_of_mem _ hx)) (by simpa using h) hf

/-- frames that lie one behind the other, below B -/
def FrsAt (w : World) (B : Nat) (A : Option Addr) (fs : List Fr) : Prop :=
  (∀ f ∈ fs, f.At w B) ∧ ∀ (j : Nat) (f : Fr), fs[j]? = some f → ∃ b off, A = some ⟨b, off, none⟩ ∧ b < B ∧ ∀ (q : Nat) (u : Value), f.cs[q]? = some u → w.cell? ⟨b, off + j * 6 + q, none⟩ = some u
theorem FrsAt.below {w w' : World} {B : Nat} {A : Option Addr} {fs : List Fr} (h : FrsAt w B A fs) (hb : Below B w w') : FrsAt w' B A fs := by
  refine ⟨fun f hf => (h.1 f hf).below hb, fun j f hj => ?_⟩
  obtain ⟨b, off, e, hB, hc⟩ := h.2 j f hj
  exact ⟨b, off, e, hB, fun q u hq => (hb.cell (p := ⟨b, off + j * 6 + q, none⟩) hB).trans (hc q u hq)⟩
theorem FrsAt.mono {w : World} {B B' : Nat} {A : Option Addr} {fs : List Fr} (h : FrsAt w B A fs) (hB : B ≤ B') : FrsAt w B' A fs := by
  refine ⟨fun f hf => (h.1 f hf).mono hB, fun j f hj => ?_⟩
  obtain ⟨b, off, e, hB', hc⟩ := h.2 j f hj
  exact ⟨b, off, e, by omega, hc⟩
theorem FrsAt.six {w : World} {B : Nat} {A : Option Addr} {fs : List Fr} (h : FrsAt w B A fs) {j : Nat} {f : Fr} (hj : fs[j]? = some f) : ∃ b off, A = some ⟨b, off, none⟩ ∧ b < B ∧
    w.cell? ⟨b, off + j * 6, none⟩ = some (.int .i64 f.v) ∧ w.cell? ⟨b, off + j * 6 + 1, none⟩ = some (.int .i64 f.k) ∧ w.cell? ⟨b, off + j * 6 + 2, none⟩ = some (.int .u32 f.s) ∧ w.cell? ⟨b, off + j * 6 + 3, none⟩ = some (.int .i64 f.i) ∧
    w.cell? ⟨b, off + j * 6 + 4, none⟩ = some (.int .i64 f.c) ∧ w.cell? ⟨b, off + j * 6 + 5, none⟩ = some (.slice f.a f.zs.length f.cp) := by
  obtain ⟨b, off, e, hB, hc⟩ := h.2 j f hj
  exact ⟨b, off, e, hB, hc 0 _ rfl, hc 1 _ rfl, hc 2 _ rfl, hc 3 _ rfl, hc 4 _ rfl, hc 5 _ rfl⟩

/-- the segments' list, its first k filled -/
structure PkAt (w : World) (fs : List Fr) (n k : Nat) (wr : World) : Prop where
  below : Below w.heap.size w wr
  row : ∃ cs, wr.heap[w.heap.size]? = some (.cells cs 29 (0, 0)) ∧ cs.size = n ∧ ∀ (j : Nat) (f : Fr), j < k → fs[j]? = some f →
    ∃ Aj cj, cs[j]? = some (.slice Aj f.seg.length cj) ∧ f.seg.length ≤ cj ∧ NumsS .u8 wr (fun b => w.heap.size < b ∧ b < wr.heap.size) Aj f.seg
section
variable {w wr w2 : World} {fs : List Fr} {n k : Nat}
theorem PkAt.start (w : World) (fs : List Fr) (cs : Array Value) (hn : cs.size = n) : PkAt w fs n 0 (w.alloc (.cells cs 29)) :=
  ⟨(Below.refl _ w).alloc (Nat.le_refl _) _, cs, heap_alloc_new w _, hn, fun j f hj _ => by omega⟩
theorem PkAt.lt (h : PkAt w fs n k wr) : w.heap.size < wr.heap.size := by
  obtain ⟨cs, hh, _⟩ := h.row
  exact (Array.getElem?_eq_some_iff.1 hh).1
theorem PkAt.later (h : PkAt w fs n k wr) (hb : Below wr.heap.size wr w2) : PkAt w fs n k w2 := by
  have hlt := h.lt
  refine ⟨h.below.trans (hb.mono h.below.size), ?_⟩
  obtain ⟨cs, hh, hs, hc⟩ := h.row
  refine ⟨cs, (hb.block _ hlt).trans hh, hs, fun j f hj hf => ?_⟩
  obtain ⟨Aj, cj, h1, h2, h3⟩ := hc j f hj hf
  exact ⟨Aj, cj, h1, h2, (h3.keeps (KeepS.of_below hb fun k hk => hk.2)).more fun k hk => ⟨hk.1, Nat.lt_of_lt_of_le hk.2 hb.size⟩⟩
theorem PkAt.cell (h : PkAt w fs n k wr) {j : Nat} (hj : j < n) : (∃ u, wr.cell? ⟨w.heap.size, j, none⟩ = some u) ∧ wr.frozen? ⟨w.heap.size, j, none⟩ = false := by
  obtain ⟨cs, hh, hs, _⟩ := h.row
  exact ⟨⟨cs[j], by rw [cell_of_row wr _ j cs _ _ hh]; exact Array.getElem?_eq_getElem (by omega)⟩, frozen_of_row wr _ j cs _ hh⟩
theorem PkAt.put {w1 : World} {f : Fr} {A : Option Addr} {c : Nat} (h : PkAt w fs n k wr) (hk : k < n) (hf : fs[k]? = some f) (hm : MadeK 5 .u8 w1 wr f.seg (.slice A f.seg.length c)) (hw : w.heap.size < w1.heap.size) (hc : f.seg.length ≤ c) :
    PkAt w fs n (k + 1) (wr.setCell ⟨w.heap.size, k, none⟩ (.slice A f.seg.length c)) := by
  obtain ⟨cs, hh, hs, hr⟩ := h.row
  have hS : ∀ x, KeepS (fun b => w.heap.size < b ∧ b < wr.heap.size) wr (wr.setCell ⟨w.heap.size, k, none⟩ x) := fun x => ⟨by simp [World.setCell], fun j hj => Below.heap_setCell wr ⟨w.heap.size, k, none⟩ x j (fun e => by subst e; exact Nat.lt_irrefl _ hj.1)⟩
  have hz : (wr.setCell ⟨w.heap.size, k, none⟩ (.slice A f.seg.length c)).heap.size = wr.heap.size := by simp [World.setCell]
  refine ⟨h.below.setCell (Nat.le_refl _) _, _, setCell_at hh, by simpa using hs, fun j g hj hg => ?_⟩
  rw [Array.getElem?_setIfInBounds]
  by_cases hjk : k = j
  · subst hjk
    obtain rfl : f = g := Option.some.inj (hf.symm.trans hg)
    rw [if_pos rfl, if_pos (by omega)]
    refine ⟨A, c, rfl, hc, ?_⟩
    have h3 := (hm.numsS rfl).more (S' := fun b => w.heap.size < b ∧ b < wr.heap.size) fun b hb => ⟨by omega, hb.2⟩
    rw [hz]
    exact h3.keeps (hS _)
  · rw [if_neg hjk]
    obtain ⟨Aj, cj, h1, h2, h3⟩ := hr j g (by omega) hg
    rw [hz]
    exact ⟨Aj, cj, h1, h2, h3.keeps (hS _)⟩
theorem PkAt.list (h : PkAt w fs n k wr) (hk : fs.length ≤ k) : ListAt .u8 wr wr.heap.size (some ⟨w.heap.size, 0, none⟩) (fs.map Fr.seg) := fun j b hb => by
  rw [List.getElem?_map] at hb
  obtain ⟨f, hf, rfl⟩ := Option.map_eq_some_iff.1 hb
  obtain ⟨cs, hh, hs, hr⟩ := h.row
  have hj : j < fs.length := (List.getElem?_eq_some_iff.1 hf).1
  obtain ⟨Aj, cj, h1, h2, h3⟩ := hr j f (by omega) hf
  exact ⟨_, Aj, cj, rfl, h.lt, by rw [cell_of_row wr _ j cs _ _ hh]; exact h1, h2, h3.nums fun k hk => hk.2⟩
end
end Go.Proofs.YtbohdmconeebeaaDoor

namespace Go.Proofs.YtbohdmconeebeaaDoor
open Go.RowKit Go.Shelf
set_option maxRecDepth 100000
attribute [local go_sem] Oper.semAt_some

theorem make_lists (n : Nat) (hn : n ≤ 1000000) : ∃ cs : Array Value, cs.size = n ∧ ∀ W, (Instr.makeSlice 62 (.int .i64 (n : Int)) (.int .i64 (n : Int))).run Tryd.prog W = .ok (.slice (some ⟨W.heap.size, 0, none⟩) n n) (W.alloc (.cells cs 29)) := by
  obtain ⟨j0, hj, hj0, hj1, hj2⟩ := info_parts listInfo
  refine ⟨madeCells (Value.slice none 0 0).cells (n * j0.size), by rw [size_madeCells, hj1, Nat.mul_one], fun W => ?_⟩
  have h := run_make (P := Tryd.prog) W 62 29 j0 _ Tryd.underlying62 hj hj0 .i64 .i64 (n : Int) (n : Int) (by omega) (by omega) (by rw [hj2]; omega) (by omega)
  simpa using h

set_option maxHeartbeats 4000000 in
theorem fpack_any (b : Nat) (A : Option Addr) (n cp : Nat) (fs : List Fr) (w : World) (hc : CodAt w w.heap.size b) (hn : fs.length = n) (_hcp : n ≤ cp) (hl : n ≤ 1000) (h1 : FrsAt w w.heap.size A fs) :
    Calls Tryd.prog 13 #[.pointer (some ⟨b, 0, none⟩), .slice A n cp] w fun e w' => SegR w w' (firstBad fs) (Fc.wrap (fs.map Fr.seg)) e := by
  obtain ⟨cs0, hcs, hmk⟩ := make_lists n (by omega)
  have HN := Lib.hid hn
  have HC := Lib.hid hc
  have H1 := Lib.hid h1
  have H0 : Hid (PkAt w fs n 0 (w.alloc (.cells cs0 29))) := PkAt.start w fs cs0 hcs
  clear hn hc h1 hcs
  go_enter Tryd.func13, Tryd.ntmps13
  go_wp2
  go_loopw [7, 8, 9, 10, 18] (fun _ _ _ _ i wr => ∃ k : Nat, k ≤ n ∧ i = .int .i64 k ∧ Hid (PkAt w fs n k wr) ∧ Hid (∀ f ∈ fs.take k, f.chk = 0)) (fun _ _ _ _ i _ => n - (intOf i).toNat)
  case atStart => exact ⟨0, by omega, rfl, H0, fun f hf => by simp at hf⟩
  case round =>
    obtain ⟨k, hk, rfl, HP, HZ⟩ := hrel
    by_cases hlt : k < n
    · obtain ⟨f, hf⟩ : ∃ f, fs[k]? = some f := ⟨_, List.getElem?_eq_getElem (by rw [HN.out]; exact hlt)⟩
      have hbw := HP.out.below
      have hfa := (H1.out.below hbw)
      obtain ⟨g, off, rfl, hg, c0, c1, c2, c3, c4, c5⟩ := hfa.six hf
      have hat := hfa.1 f (List.mem_of_getElem? hf)
      have HF := Lib.hid hf
      have HA := Lib.hid hat
      have hlt' : (k : Int) < (n : Int) := by omega
      have HB := Lib.hid hbw
      have HSS : Hid (∀ W, Below wr.heap.size wr W → Calls Tryd.prog 26 #[.pointer (some ⟨b, 0, none⟩), .agg #[.int .i64 f.v, .int .i64 f.k, .int .u32 f.s, .int .i64 f.i, .int .i64 f.c, .slice f.a f.zs.length f.cp]] W fun e w' => SegR W w' f.chk f.seg e) := fun W hW => by
        have hW' := HB.out.trans (hW.mono HB.out.size)
        exact fsegment_any b f.v f.k f.s f.i f.c f.a f.zs.length f.cp f.zs ⟨HA.out.s0, HA.out.s1⟩ W ((HC.out.below hW').mono hW'.size) rfl HA.out.room HA.out.byte ((HA.out.nums.below (hW.mono HB.out.size)).mono hW'.size)
      clear hf hat hbw hfa
      have hb1 := (Below.refl wr.heap.size wr).alloc (Nat.le_refl _) (.cells #[.int .i64 f.v, .int .i64 f.k, .int .u32 f.s, .int .i64 f.i, .int .i64 f.c, .slice f.a f.zs.length f.cp] 31)
      have HB1 := Lib.hid hb1
      clear hb1
      go_wp2_with fail
      refine (HSS.out _ HB1.out).mono ?_
      rintro e w2 (⟨h0, rfl, hb2⟩ | ⟨h0, v2, rfl, hm2⟩)
      · have HB2 := Lib.hid (HB.out.trans ((HB1.out.trans (hb2.mono (by simp))).mono HB.out.size))
        have h0' : (f.chk != 0) = true := by simpa using h0
        have HR := Lib.hid (firstBad_at HZ.out HF.out h0)
        have H00 := Lib.hid h0
        clear h0 hb2
        go_wp2
        go_ret2
        exact .inl ⟨by rw [HR.out]; exact H00.out, by rw [HR.out]; rfl, HB2.out⟩
      · obtain ⟨A2, c2', rfl, hc2, -⟩ := hm2.slice
        have HP2 := Lib.hid (HP.out.later (HB1.out.trans (hm2.2.mono (by simp))))
        have HM2 := Lib.hid hm2
        obtain ⟨⟨u, hu⟩, hfz⟩ := HP2.out.cell hlt
        have hz : Hid (PkAt w fs n (k + 1) (w2.setCell ⟨w.heap.size, k, none⟩ (.slice A2 f.seg.length c2'))) := HP2.out.put hlt HF.out HM2.out (by have := HP.out.lt; simp; omega) hc2
        have HZ2 : Hid (∀ f ∈ fs.take (k + 1), f.chk = 0) := fun x hx => by
          rw [List.take_add_one, HF.out] at hx
          rcases List.mem_append.1 hx with h | h
          · exact HZ.out x h
          · simp at h; subst h; exact h0
        have h0' : (f.chk != 0) = false := by simpa using h0
        clear hm2 h0 hc2
        go_wp2
        go_roundw
        case rel => exact ⟨k + 1, by omega, by go_num, hz, HZ2⟩
        case measure => simp [intOf]; omega
    · have hkn : k = n := by omega
      have hz : ∀ f ∈ fs, f.chk = 0 := by
        have := HZ.out
        rwa [List.take_of_length_le (by rw [HN.out]; omega)] at this
      have HFB := Lib.hid (firstBad_zero hz)
      have HLs := Lib.hid (HP.out.list (by rw [HN.out]; omega))
      have hWl : (Fc.wrap (fs.map Fr.seg)).length ≤ 1000000 := by
        have hgen : ∀ l : List Fr, (∀ f ∈ l, f.chk = 0) → (Fc.wrap (l.map Fr.seg)).length ≤ l.length * 300 := by
          intro l
          induction l with
          | nil => intro _; simp [Fc.wrap]
          | cons f r ih =>
            intro h
            have h1 := ih fun g hg => h g (by simp [hg])
            have h2 := Fr.seg_len (h f (by simp))
            have h3 := (fchk_zero (h f (by simp))).2.2
            rw [List.map_cons, Fc.wrap_cons]
            simp only [List.length_cons, List.length_append]
            omega
        have := hgen fs hz
        have := HN.out
        omega
      have K := wrap_any (some ⟨w.heap.size, 0, none⟩) n n (fs.map Fr.seg) wr (by rw [List.length_map, HN.out]) (Nat.le_refl _) (by omega) hWl HLs.out
      clear hz hWl
      go_wp2_with fail
      refine K.mono ?_
      rintro e w2 ⟨v2, rfl, hm2⟩
      have HM2 := Lib.hid (hm2.since HP.out.below)
      clear hm2 K
      go_wp2
      go_ret2
      exact .inr ⟨HFB.out, _, rfl, HM2.out⟩
end Go.Proofs.YtbohdmconeebeaaDoor
