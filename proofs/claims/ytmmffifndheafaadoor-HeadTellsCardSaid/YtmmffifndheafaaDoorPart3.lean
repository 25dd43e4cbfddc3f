/-
  Proved: for every head h, the law HeadTells returns true and leaves h as it was. No condition but the row's own: the library's tables are as their text lays them, which the card ties to that text.
-/
import Derived.OwnWalkIn
import Derived.RangeFuncBox
import Derived.RangeFuncWrites
import Derived.RangeFuncNested
import Derived.ArgAppend
import Derived.Test.YtmmffifndheafaaDoorRows
import Derived.Test.YtmmffifndheafaaDoorCards
import Derived.Test.YtmmffifndheafaaDoorTie
import Derived.ChangeOld
import Derived.SevenTiedAt
import Derived.Test.YtmmffifndheafaaDoorPart2
namespace Go.Proofs.YtmmffifndheafaaDoor
open Go.RowKit

theorem run_append_any {P : Program} {w : World} (t ty : TypeId) (base : Nat) (e : TypeId) (i : TypeInfo) (z : Value) (bytes : Nat) (ht : P.underlying t = some (.slice e)) (hi : P.info? e = some i) (hz : i.zero = some z) (hsize : i.size = 1) (hby : i.bytes = bytes) (hzs : z.cells.size = 1)
    (k : IntKind) (n : Nat) (xs : List Value) (zs : List Int) (v : Value) (hown : w.ownsRow base e 1 v n xs) (A : Option Addr) (m c B : Nat) (hm : zs.length = m) (hn : Nums k w B A zs)
    (h63 : n + m ≤ maxLen) (hbytes : (n + m) * bytes ≤ 140737488355328) (hbase : base ≤ w.heap.size) :
    ∃ v' w', (Builtin.append_ #[t, t] ty #[v, .slice A m c]).run P w = .ok v' w' ∧ w'.ownsRow base e 1 v' (n + m) (xs ++ zs.map (Value.int k)) ∧ w.grownBy w' v.ownBlock := by
  subst hm
  by_cases hz0 : zs = []
  · subst hz0
    have hv : ∃ b n cap, v = .slice b n cap ∧ n ≤ cap := by
      rcases hown.2 with ⟨rfl, _⟩ | ⟨g, cap, cur, rfl, _, _, hle, _⟩
      · exact ⟨_, _, _, rfl, Nat.le_refl _⟩
      · exact ⟨_, _, _, rfl, hle⟩
    obtain ⟨b, q, cap, rfl, hle⟩ := hv
    refine ⟨_, _, run_append_nothing w t t ty e i ht hi b q cap hle _ ?_, by simpa using hown, ⟨rfl, rfl, rfl, Nat.le_refl _, fun _ _ _ => rfl⟩⟩
    cases A with
    | none => exact ⟨.inl ⟨e, ht⟩, fun _ => rfl, run_firstCells_none w i.size 0 0 c, run_firstCells_none w.drew i.size 0 0 c, by simp, fun _ h => by cases h⟩
    | some ad => exact Src.ofSlice w ht ad 0 c [] (by simp) (by simp) (fun _ h => by cases h)
  · obtain ⟨b1, o1, rfl, hb1, hc⟩ := hn hz0
    obtain ⟨v', w', h1, h2, h3, _⟩ := run_append_own (P := P) w base t ty e i z 1 bytes ht hi hz hsize hby hzs (by decide) v n xs hown ⟨b1, o1, none⟩ zs.length c (zs.map (Value.int k)) (by simp) (fun j u hj => by
      rw [List.getElem?_map] at hj
      obtain ⟨y, hy, rfl⟩ := Option.map_eq_some_iff.1 hj
      rw [Addr.add_lit]
      exact hc j y hy) (fun u hu => by obtain ⟨y, _, rfl⟩ := List.mem_map.1 hu; rfl) h63 hbytes hbase
    exact ⟨v', w', h1, h2, h3⟩

theorem wpListIn_append_any {F : Fence} {nF : Nat} {P : Program} {w : World} {ops : Array Oper} {rest : List Oper} {o : Oper} {a : Act} {Q : Exit → Act → World → Prop} (hg : o.guard = none) (s x : Operand) (t : TypeId)
    (hop : o.op = Op.call { callee := Callee.builtin Builtin.append, args := #[s, x], argTypes := #[t, t] })
    (base : Nat) (e : TypeId) (i : TypeInfo) (z : Value) (bytes : Nat) (ht : P.underlying t = some (.slice e)) (hi : P.info? e = some i) (hz : i.zero = some z) (hsize : i.size = 1) (hby : i.bytes = bytes) (hzs : z.cells.size = 1)
    (k : IntKind) (n : Nat) (xs : List Value) (zs : List Int) (v : Value) (hs : a.eval s = v) (hown : w.ownsRow base e 1 v n xs) (A : Option Addr) (m c B : Nat) (hx : a.eval x = .slice A m c) (hm : zs.length = m) (hn : Nums k w B A zs)
    (h63 : n + m ≤ maxLen) (hbytes : (n + m) * bytes ≤ 140737488355328) (hbase : base ≤ w.heap.size)
    (hK : ∀ v' w', w'.ownsRow base e 1 v' (n + m) (xs ++ zs.map (Value.int k)) → w.grownBy w' v.ownBlock → wpListIn F nF P ops Q rest (a.put o.dst v') w') :
    wpListIn F nF P ops Q (o :: rest) a w := by
  refine wpListIn_plain hg fun K hK' => ?_
  obtain ⟨v', w', hrun, r1, r2⟩ := run_append_any (P := P) (w := w) t o.type base e i z bytes ht hi hz hsize hby hzs k n xs zs v hown A m c B hm hn h63 hbytes hbase
  unfold Oper.wpIn
  refine ⟨?_, ?_⟩
  · simp [Oper.about, hop, resolve, Target.leads, Sem.run_pure]
  · rw [Oper.semAt_plain F _ _ (by rw [hop]; intro c hc'; cases hc')]
    simp [execOp, hop, resolve, invoke, builtin, hs, hx, hrun, Result.andThen]
    exact hK' _ _ (hK v' w' r1 r2)

/-- what has grown behind a new block has grown -/
theorem grown_of_alloc {W w1 : World} {o : Obj} {row : Option Nat} (h : (W.alloc o).grownBy w1 row) : W.grownBy w1 row :=
  ⟨h.os, h.tape, h.output, by have := h.size; rw [World.size_alloc] at this; omega, fun k hk hne => (h.block k (by rw [World.size_alloc]; omega) hne).trans (Below.heap_alloc W o k hk)⟩

/-- what a box that is appended to leaves -/
structure BoxApp (S : Nat → Prop) (base : Nat) (t e : TypeId) (Bo Bs : Nat) (v' u : Value) (m : Nat) (ys : List Value) (W W2 : World) : Prop where
  out : Boxed W2 Bo t v'
  src : Boxed W2 Bs t u
  row : W2.ownsRow base e 1 v' m ys
  others : KeepsOthers W W2
  below : Below base W W2
  keep : KeepS S W W2
theorem box_appended {W w1 : World} {base Bo Bs : Nat} {t e : TypeId} {v v' u : Value} {n m : Nat} {xs ys : List Value} {S : Nat → Prop} (hv : Boxed W Bo t v) (hs : Boxed W Bs t u) (hne : Bs ≠ Bo) (hte : t ≠ e) (hrow : W.ownsRow base e 1 v n xs) (hbase : base ≤ W.heap.size) (hBo : base ≤ Bo)
    (hS : ∀ k, S k → k < base ∨ k = Bs) (hown' : w1.ownsRow base e 1 v' m ys) (hg : W.grownBy w1 v.ownBlock) :
    Boxed w1 Bo t v ∧ BoxApp S base t e Bo Bs v' u m ys W (w1.setCell ⟨Bo, 0, none⟩ v') := by
  have hv1 : Boxed w1 Bo t v := hv.kept hg (hv.not_row hte hrow)
  have hs1 : Boxed w1 Bs t u := hs.kept hg (hs.not_row hte hrow)
  have hlt := hrow.lt
  have hSlt := hs.lt
  refine ⟨hv1, hv1.set v', hs1.other hne v', hown'.kept (grownBy_setCell' w1 Bo v') (.inr (hv1.not_row hte hown').symm), ?_, ?_, ?_⟩
  · refine (KeepsOthers.of_grownBy hg fun j o ej hj => ?_).trans (KeepsOthers.setCell _ _ _)
    rcases hrow.2 with ⟨rfl, _⟩ | ⟨g, cap, cur, rfl, _, hgb, _⟩
    · simp [Value.ownBlock] at ej
    · obtain rfl : g = j := by simpa [Value.ownBlock] using ej
      rw [hgb] at hj; cases hj; rfl
  · exact ((Below.refl base W).grown hg hbase (fun j ej => (hlt j ej).1)).setCell (p := ⟨Bo, 0, none⟩) hBo v'
  · refine KeepS.set (KeepS.grown (KeepS.refl S W) hg (fun k hk => ?_) (fun k hk hSk => ?_)) (fun h => ?_) v'
    · rcases hS k hk with h | h <;> omega
    · have h1 := (hlt k hk).1
      rcases hS k hSk with h | h
      · omega
      · subst h; exact hs.not_row hte hrow hk.symm
    · rcases hS Bo h with h | h <;> omega
end Go.Proofs.YtmmffifndheafaaDoor

namespace Go.Proofs.YtmmffifndheafaaDoor
open Go.RowKit
set_option maxRecDepth 100000

theorem exec_append {P : Program} {w w' : World} {o : Oper} {b : Act} {v1 v2 v' : Value} (s x : Operand) (t : TypeId) (hop : o.op = Op.call { callee := Callee.builtin Builtin.append, args := #[s, x], argTypes := #[t, t] })
    (hs : b.eval s = v1) (hx : b.eval x = v2) (hrun : (Builtin.append_ #[t, t] o.type #[v1, v2]).run P w = .ok v' w') : (execOp b.eval o).run P w = .ok (.value v') w' := by
  simp [execOp, hop, resolve, invoke, builtin, hs, hx, hrun, Result.andThen]
theorem owns_below {w w' : World} {base e n : Nat} {v : Value} {xs : List Value} (h : w.ownsRow base e 1 v n xs) (hb : Below w.heap.size w w') : w'.ownsRow base e 1 v n xs :=
  ⟨h.1, h.2.imp id fun ⟨g, cap, cur, hv, hg, hh, r⟩ => ⟨g, cap, cur, hv, hg, (hb.block g (Array.getElem?_eq_some_iff.1 hh).1).trans hh, r⟩⟩

/-- what the slots hold whose values are known by what they are good for -/
def FRb (B : Nat) (v k s : Int) (q : Tmp) (x : Value) (W : World) : Prop :=
  if q = 10 then ∃ g, x = .slice (some ⟨g, 0, none⟩) 2 2 ∧ W.heap[g]? = some (.cells #[.int .u8 v, .int .u8 k] 5 (0, 0))
  else if q = 13 then ∃ A c, x = .slice A 4 c ∧ Nums .u8 W W.heap.size A (wordL s 4)
  else W.ownsRow B 5 1 x 6 (([v, k] ++ wordL s 4).map (Value.int .u8))
theorem FRb.later {B : Nat} {v k s : Int} {q : Tmp} {x : Value} {W W' : World} (h : FRb B v k s q x W) (hb : Below W.heap.size W W') : FRb B v k s q x W' := by
  unfold FRb at *
  split
  · rename_i h1
    rw [if_pos h1] at h
    obtain ⟨g, e, hg⟩ := h
    exact ⟨g, e, (hb.block g (Array.getElem?_eq_some_iff.1 hg).1).trans hg⟩
  · rename_i h1
    rw [if_neg h1] at h
    split
    · rename_i h2
      rw [if_pos h2] at h
      obtain ⟨A, c, e, hn⟩ := h
      exact ⟨A, c, e, (hn.below hb).mono hb.size⟩
    · rename_i h2
      rw [if_neg h2] at h
      exact owns_below h hb

set_option maxHeartbeats 4000000 in
theorem rbytes_any (v k s i c : Int) (hv : 0 ≤ v ∧ v ≤ 255) (hk : 0 ≤ k ∧ k ≤ 255) (hi : 0 ≤ i ∧ i ≤ 255) (hc : 0 ≤ c ∧ c ≤ 255) (hs : 0 ≤ s ∧ s ≤ 4294967295) (w : World) :
    Calls Tryd.prog 14 #[hdV v k s i c] w fun e w' => ∃ x, e = .returned x ∧ MadeK 5 .u8 w w' (hdB v k s i c) x := by
  unfold hdV
  obtain ⟨i0, hi0, hz0, hz1, hz2⟩ := info_parts byteInfo
  obtain ⟨w0, hw0⟩ : ∃ w0, w.alloc (.cells #[.int .i64 v, .int .i64 k, .int .u32 s, .int .i64 i, .int .i64 c] 30) = w0 := ⟨_, rfl⟩
  have hs0 : w0.heap.size = w.heap.size + 1 := by rw [← hw0]; simp
  have hb0 : Below w.heap.size w w0 := by rw [← hw0]; exact (Below.refl _ w).alloc (Nat.le_refl _) _
  have hd : ∀ W, Below w0.heap.size w0 W → W.cell? ⟨w.heap.size, 0, none⟩ = some (.int .i64 v) ∧ W.cell? ⟨w.heap.size, 1, none⟩ = some (.int .i64 k) ∧ W.cell? ⟨w.heap.size, 2, none⟩ = some (.int .u32 s) ∧ W.cell? ⟨w.heap.size, 3, none⟩ = some (.int .i64 i) ∧ W.cell? ⟨w.heap.size, 4, none⟩ = some (.int .i64 c) := fun W hW => by
    rw [← hw0] at hW; exact hd_cells hW
  have HW := Lib.hid hw0
  clear hw0
  go_enter Tryd.func14, Tryd.ntmps14
  go_wp2_with fail
  rw [HW.out]
  refine wp_region_F 24 [10, 13, 14, 3] (FRb w0.heap.size v k s) (fun W => Below w0.heap.size w0 W) (by kernel_rfl) (by kernel_rfl) (by rfl) (by simp) (fun W W' h hb => h.trans (hb.mono h.size)) (fun q x W W' h hb => h.later hb) (Below.refl _ _).drew ?_
  refine wpF_pure rfl rfl ?_; go_big_quiet_step (fail); refine wpQuiet_nil ?_
  refine wpF_load (.int .i64 v) rfl (by rfl) (by rfl) (by rfl) (fun W hW => by have := (hd W hW).1; simp [Instr.loadAt, go_sem, this]) ?_
  simp only [Act.put, List.setIfInBounds_toArray, List.set_cons_succ, List.set_cons_zero]
  refine wpF_pure rfl rfl ?_; go_big_quiet_step (fail); refine wpQuiet_nil ?_
  refine wpF_pure rfl rfl ?_; go_big_quiet_step (fail); refine wpQuiet_nil ?_
  refine wpF_load (.int .i64 k) rfl (by rfl) (by rfl) (by rfl) (fun W hW => by have := (hd W hW).2.1; simp [Instr.loadAt, go_sem, this]) ?_
  simp only [Act.put, List.setIfInBounds_toArray, List.set_cons_succ, List.set_cons_zero]
  refine wpF_pure rfl rfl ?_; go_big_quiet_step (fail); refine wpQuiet_nil ?_
  refine wpF_src 10 (by simp) rfl rfl rfl (fun W hW => ⟨.slice (some ⟨W.heap.size, 0, none⟩) 2 2, W.alloc (.cells #[.int .u8 v, .int .u8 k] 5), ?_, ?_, (Below.refl _ _).alloc (Nat.le_refl _) _⟩) ?_
  · simp [go_sem]
  · unfold FRb; rw [if_pos rfl]; exact ⟨_, rfl, World.alloc_heap_new _ _⟩
  simp only [Act.put, List.setIfInBounds_toArray, List.set_cons_succ, List.set_cons_zero]
  refine wpF_pure rfl rfl ?_; go_big_quiet_step (fail); refine wpQuiet_nil ?_
  refine wpF_load (.int .u32 s) rfl (by rfl) (by rfl) (by rfl) (fun W hW => by have := (hd W hW).2.2.1; simp [Instr.loadAt, go_sem, this]) ?_
  simp only [Act.put, List.setIfInBounds_toArray, List.set_cons_succ, List.set_cons_zero]
  refine wpF_callsrc 13 (f := 25) (args := #[.int .u32 s, .int .i64 4]) (by simp) rfl rfl rfl (fun x => by first | rfl | (simp [go_sem]; done)) (fun W hW => (word_any s 4 W hs.1 hs.2 (by omega)).mono fun e W' ⟨x, he, hm⟩ => ?_) ?_
  · obtain ⟨A, cc, rfl, _, hn⟩ := MadeK.slice hm
    exact ⟨_, he, by unfold FRb; rw [if_neg (by decide), if_pos rfl]; exact ⟨A, cc, rfl, hn⟩, hm.2⟩
  simp only [Act.put, List.setIfInBounds_toArray, List.set_cons_succ, List.set_cons_zero]
  refine wpF_mix 14 [10, 13] (by simp) rfl (by kernel_rfl) (by kernel_rfl) (fun xs => by rfl) (fun xs W hW hx => ?_) ?_
  · have h10 := hx 10 (by simp)
    have h13 := hx 13 (by simp)
    unfold FRb at h10 h13
    rw [if_pos rfl] at h10
    rw [if_neg (by decide), if_pos rfl] at h13
    obtain ⟨g, e10, hg⟩ := h10
    obtain ⟨A, cc, e13, hn⟩ := h13
    obtain ⟨b1, o1, rfl, hb1, hcl⟩ := hn (by simp [wordL])
    obtain ⟨x', w', hrun, hown, hgr⟩ := run_append_arg_grows (P := Tryd.prog) (w := W) 25 25 5 i0 (.int .u8 0) 1 1 Tryd.underlying25 hi0 hz0 hz1 hz2 rfl (by decide)
      ⟨g, 0, none⟩ 2 2 [.int .u8 v, .int .u8 k] (by rfl) (fun j u hj => by rw [Addr.add_lit, Nat.zero_add]; simp [World.cell?, hg, ← hj]) ⟨b1, o1, none⟩ 4 cc ((wordL s 4).map (Value.int .u8)) (by rfl)
      (fun j u hj => by
        rw [List.getElem?_map] at hj
        obtain ⟨y, hy, rfl⟩ := Option.map_eq_some_iff.1 hj
        rw [Addr.add_lit]
        exact hcl j y hy) (by decide) (by decide) (by decide)
    refine ⟨x', w', ?_, ?_, ⟨hgr.os, hgr.tape, hgr.output, hgr.size, fun q hq => hgr.block q hq (by simp)⟩⟩
    · refine exec_append (.tmp 10) (.tmp 13) 25 rfl (by simp [fill, Act.put, Act.eval, e10]) (by simp [fill, Act.put, Act.eval, e13]) hrun
    · unfold FRb
      rw [if_neg (by decide), if_neg (by decide)]
      exact ⟨hown.1, hown.2.imp id fun ⟨g, cap, cur, hv, hg, r⟩ => ⟨g, cap, cur, hv, Nat.le_trans hW.size hg, r⟩⟩
  simp only [Act.put, List.setIfInBounds_toArray, List.set_cons_succ, List.set_cons_zero]
  refine wpF_mix 3 [14] (by simp) rfl (by kernel_rfl) (by kernel_rfl) (fun xs => by rfl) (fun xs W hW hx => ⟨xs 14, W, ?_, ?_, Below.refl _ _⟩) ?_
  · simp [execOp, fill, Act.put, Act.eval, go_sem]
  · have := hx 14 (by simp)
    unfold FRb at this ⊢
    simpa using this
  simp only [Act.put, List.setIfInBounds_toArray, List.set_cons_succ, List.set_cons_zero]
  intro xs W hW hx
  have h3 := hx 3 (by simp)
  unfold FRb at h3
  rw [if_neg (by decide), if_neg (by decide)] at h3
  simp only [fill, Act.put, List.setIfInBounds_toArray, List.set_cons_succ, List.set_cons_zero]
  obtain ⟨d0, d1, d2, d3, d4⟩ := hd W hW
  obtain ⟨L, hL⟩ : ∃ L, [v, k] ++ wordL s 4 = L := ⟨_, rfl⟩
  have hlen : L.length = 6 := by rw [← hL]; rfl
  rw [hL] at h3
  have HM : Hid (MadeK 5 .u8 w0 W L (xs 3)) := ⟨by rw [hlen]; exact h3, hW⟩
  have hfin : L ++ [i, c] = hdB v k s i c := by
    rw [← hL]
    simp only [wordL, hdB, List.cons_append, List.nil_append, List.cons.injEq, and_true, true_and]
    omega
  have HL := Lib.hid hlen
  have HF := Lib.hid hfin
  clear hL hlen h3 hx hfin
  generalize xs 3 = x3 at *
  generalize xs 10 = x10
  generalize xs 13 = x13
  generalize xs 14 = x14
  have HZ := Lib.hid (Nums.new .u8 W 5 [i, c] #[.int .u8 i, .int .u8 c] rfl)
  have HX1 : Hid (L.length + 2 ≤ maxLen) := by show _ ≤ _; unfold maxLen; rw [HL.out]; omega
  have HX2 : Hid ((L.length + 2) * 1 ≤ 140737488355328) := by show _ ≤ _; rw [HL.out]; omega
  have HX3 : Hid (w0.heap.size ≤ (W.alloc (.cells #[.int .u8 i, .int .u8 c] 5)).heap.size) := by show _ ≤ _; have := hW.size; rw [World.size_alloc]; omega
  have HB := Lib.hid hb0
  clear hb0 hW hs0 hd
  go_wp2_with (at_builtin; refine wpList_append_any rfl (.tmp 15) (.tmp 22) 25 rfl w0.heap.size 5 i0 (.int .u8 0) 1 Tryd.underlying25 hi0 hz0 hz1 hz2 rfl .u8 L [i, c] _ rfl (HM.out.1.alloc _) _ 2 2 _ rfl rfl HZ.out HX1.out HX2.out HX3.out ?_)
  intro v4 w4 hown hg
  have hm4 := (HM.out.later (.cells #[.int .u8 i, .int .u8 c] 5)).more (zs := [i, c]) (v' := v4) (by simpa using hown) hg
  rw [HF.out] at hm4
  have HM4 := Lib.hid (MadeK.since hm4 HB.out)
  clear hown hg hm4 HM HZ HX1 HX2 HX3
  go_wp2
  go_ret
  exact ⟨_, rfl, HM4.out⟩
end Go.Proofs.YtmmffifndheafaaDoor

namespace Go.Proofs.YtmmffifndheafaaDoor
open Go.RowKit
set_option maxRecDepth 100000

/-- the bytes of a head that may be are parsed as it was -/
theorem prs_hd {v k s i c : Int} (h : chk v k i c = 0) : prs (hdB v k s i c) = ((v, k, s, i, c), 0) := by
  have hle : le [s % 256, s / 256 % 256, s / 65536 % 256, s / 16777216] = s := by simp only [le]; omega
  unfold hdB
  rw [prs_8, if_pos h, hle]
theorem hd_bytes {v k s i c : Int} (h : chk v k i c = 0) (hs : 0 ≤ s ∧ s ≤ 4294967295) : Bytes (hdB v k s i c) := by
  have := chk_zero h
  intro z hz
  simp only [hdB, List.mem_cons, List.not_mem_nil, or_false] at hz
  omega

set_option maxHeartbeats 8000000 in
theorem tells_go (v k s i c : Int) (hv : -9223372036854775808 ≤ v ∧ v ≤ 9223372036854775807) (hk : -9223372036854775808 ≤ k ∧ k ≤ 9223372036854775807) (hi : -9223372036854775808 ≤ i ∧ i ≤ 9223372036854775807) (hc : -9223372036854775808 ≤ c ∧ c ≤ 9223372036854775807)
    (hs : 0 ≤ s ∧ s ≤ 4294967295) (w : World) (ht : Tens w w.heap.size) :
    Calls Tryd.prog 3 #[hdV v k s i c] w fun e w' => e = .returned (.bool true) ∧ Below w.heap.size w w' := by
  unfold hdV
  obtain ⟨w0, hw0⟩ : ∃ w0, w.alloc (.cells #[.int .i64 v, .int .i64 k, .int .u32 s, .int .i64 i, .int .i64 c] 24) = w0 := ⟨_, rfl⟩
  have hs0 : w0.heap.size = w.heap.size + 1 := by rw [← hw0]; simp
  have hb0 : Below w.heap.size w w0 := by rw [← hw0]; exact (Below.refl _ w).alloc (Nat.le_refl _) _
  have hH0 : w0.heap[w.heap.size]? = some (.cells #[.int .i64 v, .int .i64 k, .int .u32 s, .int .i64 i, .int .i64 c] 24 (0, 0)) := by rw [← hw0]; exact World.alloc_heap_new _ _
  have HW := Lib.hid hw0
  clear hw0
  by_cases h0 : chk v k i c = 0
  · have H0 := Lib.hid h0
    have hq := chk_zero h0
    have hz : (0 ≤ v ∧ v ≤ 255) ∧ (0 ≤ k ∧ k ≤ 255) ∧ (0 ≤ i ∧ i ≤ 255) ∧ (0 ≤ c ∧ c ≤ 255) := by omega
    have hc1 : 1 ≤ c ∧ c ≤ 255 := by omega
    clear h0 hq
    go_enter Tryd.func3, Tryd.ntmps3
    go_wp2_with fail
    rw [HW.out]
    have HC := hbytes_any v k s i c hs w0
    unfold hdV at HC
    refine HC.mono ?_
    rintro e w1 ⟨hr, hb1⟩
    clear HC
    obtain ⟨g, rfl, hn⟩ : ∃ g, e = .returned (.tuple #[.slice (some ⟨g, 0, none⟩) 8 8, .int .i64 0]) ∧ Nums .u8 w1 w1.heap.size (some ⟨g, 0, none⟩) (hdB v k s i c) := by
      rcases hr with ⟨h, _⟩ | ⟨_, g, _, h2, h3⟩
      · exact absurd H0.out h
      · exact ⟨g, h2, h3⟩
    clear hr
    have hb01 := hb0.trans (hb1.mono (by omega))
    have hH1 := (hb1.block w.heap.size (by omega)).trans hH0
    obtain ⟨d0, d1, d2, d3, d4⟩ := hd_block hH1
    have HB1 := Lib.hid hb01
    have HH1 := Lib.hid hH1
    have HN1 := Lib.hid hn
    clear hb1 hb01 hH1 hH0 hb0 hn
    go_wp2_with fail
    have HC := rcheck_any v k s i c w1
    unfold hdV at HC
    rw [H0.out] at HC
    refine HC.mono ?_
    rintro e w2 ⟨rfl, hb2⟩
    clear HC d0 d1 d2 d3 d4
    have HB2 := Lib.hid (HB1.out.trans (hb2.mono HB1.out.size))
    have HN2 := Lib.hid ((HN1.out.below hb2).mono hb2.size)
    have hl2 : w.heap.size < w2.heap.size := by have := (Array.getElem?_eq_some_iff.1 HH1.out).1; have := hb2.size; omega
    have hH2 := (hb2.block w.heap.size (Array.getElem?_eq_some_iff.1 HH1.out).1).trans HH1.out
    have hH : ∀ W, Below w2.heap.size w2 W → W.heap[w.heap.size]? = some (.cells #[.int .i64 v, .int .i64 k, .int .u32 s, .int .i64 i, .int .i64 c] 24 (0, 0)) := fun W hW => (hW.block _ hl2).trans hH2
    have HT : Hid (∀ W, Below w2.heap.size w2 W → Tens W w.heap.size) := fun W hW => (ht.below HB2.out).below (hW.mono (by omega))
    clear hb2 HB1 HH1 HN1
    go_wp2_with fail
    refine wp_region_F 76 [] (fun _ _ _ => False) (fun W => Below w2.heap.size w2 W) (by kernel_rfl) (by kernel_rfl) (by rfl) (by simp) (fun W W' h hb => h.trans (hb.mono h.size)) (fun s v W W' h hb => h) (Below.refl _ _).drew ?_
    refine wpF_load (.agg #[.int .i64 v, .int .i64 k, .int .u32 s, .int .i64 i, .int .i64 c]) rfl (by rfl) (by rfl) (by rfl) (fun W hW => by obtain ⟨a0, a1, a2, a3, a4⟩ := hd_block (hH W hW); simp [Instr.loadAt, go_sem, a0, a1, a2, a3, a4]) ?_
    simp only [Act.put, List.setIfInBounds_toArray, List.set_cons_succ, List.set_cons_zero]
    refine wpF_call (f := 8) (args := #[.agg #[.int .i64 v, .int .i64 k, .int .u32 s, .int .i64 i, .int .i64 c]]) (.int .i64 0) rfl rfl (fun x => by first | rfl | (simp [go_sem]; done)) (fun W hW => by have := check_any v k s i c W; rw [H0.out] at this; exact this) ?_
    simp only [Act.put, List.setIfInBounds_toArray, List.set_cons_succ, List.set_cons_zero]
    refine wpF_pure rfl rfl ?_; go_big_quiet_step (fail); refine wpQuiet_nil ?_
    refine wpF_pure rfl rfl ?_; go_big_quiet_step (fail); refine wpQuiet_nil ?_
    refine wpF_pure rfl rfl ?_; go_big_quiet_step (fail); refine wpQuiet_nil ?_
    refine wpF_pure rfl rfl ?_; go_big_quiet_step (fail); refine wpQuiet_nil ?_
    refine wpF_pure rfl rfl ?_; go_big_quiet_step (fail); refine wpQuiet_nil ?_
    refine wpF_pure rfl rfl ?_; go_big_quiet_step (fail); refine wpQuiet_nil ?_
    refine wpF_pure rfl rfl ?_; go_big_quiet_step (fail); refine wpQuiet_nil ?_
    refine wpF_pure rfl rfl ?_; go_big_quiet_step (fail); refine wpQuiet_nil ?_
    refine wpF_load (.agg #[.int .i64 v, .int .i64 k, .int .u32 s, .int .i64 i, .int .i64 c]) rfl (by rfl) (by rfl) (by rfl) (fun W hW => by obtain ⟨a0, a1, a2, a3, a4⟩ := hd_block (hH W hW); simp [Instr.loadAt, go_sem, a0, a1, a2, a3, a4]) ?_
    simp only [Act.put, List.setIfInBounds_toArray, List.set_cons_succ, List.set_cons_zero]
    refine wpF_call (f := 9) (args := #[.agg #[.int .i64 v, .int .i64 k, .int .u32 s, .int .i64 i, .int .i64 c]]) (.string (lineZ v k s i c)) rfl rfl (fun x => by first | rfl | (simp [go_sem]; done)) (fun W hW => hline_any v k s i c hv hk hi hc hs w.heap.size W (HT.out W hW) (by have := hW.size; omega)) ?_
    simp only [Act.put, List.setIfInBounds_toArray, List.set_cons_succ, List.set_cons_zero]
    refine wpF_load (.agg #[.int .i64 v, .int .i64 k, .int .u32 s, .int .i64 i, .int .i64 c]) rfl (by rfl) (by rfl) (by rfl) (fun W hW => by obtain ⟨a0, a1, a2, a3, a4⟩ := hd_block (hH W hW); simp [Instr.loadAt, go_sem, a0, a1, a2, a3, a4]) ?_
    simp only [Act.put, List.setIfInBounds_toArray, List.set_cons_succ, List.set_cons_zero]
    refine wpF_call (f := 10) (args := #[.agg #[.int .i64 v, .int .i64 k, .int .u32 s, .int .i64 i, .int .i64 c]]) (.string (lineZ v k s i c)) rfl rfl (fun x => by first | rfl | (simp [go_sem]; done)) (fun W hW => rline_any v k s i c hv hk hi hc hs W) ?_
    simp only [Act.put, List.setIfInBounds_toArray, List.set_cons_succ, List.set_cons_zero]
    refine wpF_pure rfl rfl ?_; go_big_quiet_step (fail); refine wpQuiet_nil ?_
    refine wpF_pure rfl rfl ?_; go_big_quiet_step (fail); refine wpQuiet_nil ?_
    intro xs W3 hW3 _
    simp only [fill]
    have KP := hparse_any (some ⟨g, 0, none⟩) 8 8 (hdB v k s i c) W3 rfl (hd_bytes H0.out hs) ((HN2.out.below hW3).mono hW3.size)
    rw [prs_hd H0.out] at KP
    simp only [hdP] at KP
    unfold hdV at KP
    have hs3 := hW3.size
    have hH3 := hH W3 hW3
    have HB3 := Lib.hid (HB2.out.trans (hW3.mono (by omega)))
    have HN3 := Lib.hid ((HN2.out.below hW3).mono hs3)
    clear hW3 hH hH2 HB2 HN2 HT
    go_wp2_with fail
    refine KP.mono ?_
    rintro e w4 ⟨rfl, hb4⟩
    clear KP
    go_wp2_with fail
    have hs4 := hb4.size
    have ha := (Below.refl _ w4).alloc (Nat.le_refl _) (.cells #[.int .i64 v, .int .i64 k, .int .u32 s, .int .i64 i, .int .i64 c] 24)
    have hX5 := World.alloc_heap_new w4 (.cells #[.int .i64 v, .int .i64 k, .int .u32 s, .int .i64 i, .int .i64 c] 24)
    have hH5 := (Below.heap_alloc w4 (.cells #[.int .i64 v, .int .i64 k, .int .u32 s, .int .i64 i, .int .i64 c] 24) w.heap.size (by omega)).trans ((hb4.block w.heap.size (by omega)).trans hH3)
    have HB5 := Lib.hid ((HB3.out.trans (hb4.mono (by omega))).trans (ha.mono (by omega)))
    have hn5 := (((HN3.out.below hb4).mono hb4.size).below ha).mono ha.size
    have hs5 : w4.heap.size < (w4.alloc (.cells #[.int .i64 v, .int .i64 k, .int .u32 s, .int .i64 i, .int .i64 c] 24)).heap.size := by simp
    generalize w4.alloc (.cells #[.int .i64 v, .int .i64 k, .int .u32 s, .int .i64 i, .int .i64 c] 24) = w5 at hX5 hH5 HB5 hn5 hs5 ⊢
    have hH : ∀ W, Below w5.heap.size w5 W → W.heap[w.heap.size]? = some (.cells #[.int .i64 v, .int .i64 k, .int .u32 s, .int .i64 i, .int .i64 c] 24 (0, 0)) := fun W hW => (hW.block _ (by omega)).trans hH5
    have hX : ∀ W, Below w5.heap.size w5 W → W.heap[w4.heap.size]? = some (.cells #[.int .i64 v, .int .i64 k, .int .u32 s, .int .i64 i, .int .i64 c] 24 (0, 0)) := fun W hW => (hW.block _ hs5).trans hX5
    have HT5 : Hid (∀ W, Below w5.heap.size w5 W → Tens W w.heap.size) := fun W hW => (ht.below HB5.out).below (hW.mono (by omega))
    have HN5 : Hid (∀ W, Below w5.heap.size w5 W → Nums .u8 W W.heap.size (some ⟨g, 0, none⟩) (hdB v k s i c)) := fun W hW => (hn5.below hW).mono hW.size
    clear hb4 ha hX5 hH5 hn5 HB3 HN3 hH3
    refine wp_region_F 76 [48] (fun _ x W => ∃ A cc, x = .slice A 8 cc ∧ Nums .u8 W W.heap.size A (hdB v k s i c)) (fun W => Below w5.heap.size w5 W) (by kernel_rfl) (by kernel_rfl) (by rfl) (by simp) (fun W W' h hb => h.trans (hb.mono h.size)) (fun q x W W' h hb => by obtain ⟨A, cc, e, hn⟩ := h; exact ⟨A, cc, e, (hn.below hb).mono hb.size⟩) (Below.refl _ _).drew ?_
    refine wpF_call (f := 11) (args := #[]) (.bool true) rfl rfl (fun x => by first | rfl | (simp [go_sem]; done)) (fun W hW => known_any w.heap.size W (HT5.out W hW) (by have := hW.size; omega)) ?_
    simp only [Act.put, List.setIfInBounds_toArray, List.set_cons_succ, List.set_cons_zero]
    refine wpF_pure rfl rfl ?_; go_big_quiet_step (fail); refine wpQuiet_nil ?_
    refine wpF_pure rfl rfl ?_; go_big_quiet_step (fail); refine wpQuiet_nil ?_
    refine wpF_load (.agg #[.int .i64 v, .int .i64 k, .int .u32 s, .int .i64 i, .int .i64 c]) rfl (by rfl) (by rfl) (by rfl) (fun W hW => by obtain ⟨a0, a1, a2, a3, a4⟩ := hd_block (hH W hW); simp [Instr.loadAt, go_sem, a0, a1, a2, a3, a4]) ?_
    simp only [Act.put, List.setIfInBounds_toArray, List.set_cons_succ, List.set_cons_zero]
    refine wpF_callsrc 48 (f := 14) (args := #[.agg #[.int .i64 v, .int .i64 k, .int .u32 s, .int .i64 i, .int .i64 c]]) (by simp) rfl rfl rfl (fun x => by first | rfl | (simp [go_sem]; done)) (fun W hW => (rbytes_any v k s i c hz.1 hz.2.1 hz.2.2.1 hz.2.2.2 hs W).mono fun e W' ⟨x, he, hm⟩ => by obtain ⟨A, cc, rfl, _, hn⟩ := MadeK.slice hm; exact ⟨_, he, ⟨A, cc, rfl, hn⟩, hm.2⟩) ?_
    simp only [Act.put, List.setIfInBounds_toArray, List.set_cons_succ, List.set_cons_zero]
    refine wpF_use 48 4 (f := 13) (fun x => #[.slice (some ⟨g, 0, none⟩) 8 8, x]) (.bool true) (by simp) rfl (by kernel_rfl) (by kernel_rfl) (by kernel_rfl) (fun _ => rfl) (fun x W => by first | rfl | (simp [go_sem]; done)) (fun x W hW hx => by
      obtain ⟨A, cc, rfl, hn⟩ := hx
      refine (same_len W.heap.size (some ⟨g, 0, none⟩) A 8 8 8 cc (hdB v k s i c) (hdB v k s i c) W rfl rfl rfl (by omega) (HN5.out W hW) hn).mono ?_
      rintro e W' ⟨he, d, hd⟩
      exact ⟨he, by rw [hd]; exact below_drewN (Below.refl _ _) d⟩) ?_
    simp only [Act.put, List.setIfInBounds_toArray, List.set_cons_succ, List.set_cons_zero]
    refine wpF_pure rfl rfl ?_; go_big_quiet_step (fail); refine wpQuiet_nil ?_
    refine wpF_pure rfl rfl ?_; go_big_quiet_step (fail); refine wpQuiet_nil ?_
    refine wpF_load (.agg #[.int .i64 v, .int .i64 k, .int .u32 s, .int .i64 i, .int .i64 c]) rfl (by rfl) (by rfl) (by rfl) (fun W hW => by obtain ⟨a0, a1, a2, a3, a4⟩ := hd_block (hX W hW); simp [Instr.loadAt, go_sem, a0, a1, a2, a3, a4]) ?_
    simp only [Act.put, List.setIfInBounds_toArray, List.set_cons_succ, List.set_cons_zero]
    refine wpF_load (.agg #[.int .i64 v, .int .i64 k, .int .u32 s, .int .i64 i, .int .i64 c]) rfl (by rfl) (by rfl) (by rfl) (fun W hW => by obtain ⟨a0, a1, a2, a3, a4⟩ := hd_block (hH W hW); simp [Instr.loadAt, go_sem, a0, a1, a2, a3, a4]) ?_
    simp only [Act.put, List.setIfInBounds_toArray, List.set_cons_succ, List.set_cons_zero]
    refine wpF_pure rfl rfl ?_; go_big_quiet_step (fail); refine wpQuiet_nil ?_
    refine wpF_pure rfl rfl ?_; go_big_quiet_step (fail); refine wpQuiet_nil ?_
    refine wpF_pure rfl rfl ?_; go_big_quiet_step (fail); refine wpQuiet_nil ?_
    refine wpF_pure rfl rfl ?_; go_big_quiet_step (fail); refine wpQuiet_nil ?_
    refine wpF_pure rfl rfl ?_; go_big_quiet_step (fail); refine wpQuiet_nil ?_
    refine wpF_pure rfl rfl ?_; go_big_quiet_step (fail); refine wpQuiet_nil ?_
    refine wpF_pure rfl rfl ?_; go_big_quiet_step (fail); refine wpQuiet_nil ?_
    refine wpF_pure rfl rfl ?_; go_big_quiet_step (fail); refine wpQuiet_nil ?_
    refine wpF_pure rfl rfl ?_; go_big_quiet_step (fail); refine wpQuiet_nil ?_
    refine wpF_pure rfl rfl ?_; go_big_quiet_step (fail); refine wpQuiet_nil ?_
    refine wpF_pure rfl rfl ?_; go_big_quiet_step (fail); refine wpQuiet_nil ?_
    refine wpF_pure rfl rfl ?_; go_big_quiet_step (fail); refine wpQuiet_nil ?_
    refine wpF_load (.agg #[.int .i64 v, .int .i64 k, .int .u32 s, .int .i64 i, .int .i64 c]) rfl (by rfl) (by rfl) (by rfl) (fun W hW => by obtain ⟨a0, a1, a2, a3, a4⟩ := hd_block (hH W hW); simp [Instr.loadAt, go_sem, a0, a1, a2, a3, a4]) ?_
    simp only [Act.put, List.setIfInBounds_toArray, List.set_cons_succ, List.set_cons_zero]
    refine wpF_call (f := 15) (args := #[.agg #[.int .i64 v, .int .i64 k, .int .u32 s, .int .i64 i, .int .i64 c]]) (.bool (i == c - 1)) rfl rfl (fun x => by first | rfl | (simp [go_sem]; done)) (fun W hW => last_any v k s i c hz.2.2.1 W) ?_
    simp only [Act.put, List.setIfInBounds_toArray, List.set_cons_succ, List.set_cons_zero]
    refine wpF_pure rfl rfl ?_; go_big_quiet_step (fail); refine wpQuiet_nil ?_
    refine wpF_load (.int .i64 i) rfl (by rfl) (by rfl) (by rfl) (fun W hW => by have := (hd_block (hH W hW)).2.2.2.1; simp [Instr.loadAt, go_sem, this]) ?_
    simp only [Act.put, List.setIfInBounds_toArray, List.set_cons_succ, List.set_cons_zero]
    refine wpF_pure rfl rfl ?_; go_big_quiet_step (fail); refine wpQuiet_nil ?_
    refine wpF_load (.int .i64 c) rfl (by rfl) (by rfl) (by rfl) (fun W hW => by have := (hd_block (hH W hW)).2.2.2.2; simp [Instr.loadAt, go_sem, this]) ?_
    simp only [Act.put, List.setIfInBounds_toArray, List.set_cons_succ, List.set_cons_zero]
    refine wpF_pure rfl rfl ?_; go_big_quiet_step (fail); refine wpQuiet_nil ?_
    refine wpF_pure rfl rfl ?_; go_big_quiet_step (fail); refine wpQuiet_nil ?_
    refine wpF_pure rfl rfl ?_; go_big_quiet_step (fail); refine wpQuiet_nil ?_
    refine wpF_pure rfl rfl ?_; go_big_quiet_step (fail); refine wpQuiet_nil ?_
    refine wpF_pure rfl rfl ?_; go_big_quiet_step (fail); refine wpQuiet_nil ?_
    intro xs W hW _
    simp only [fill, Act.put, List.setIfInBounds_toArray, List.set_cons_succ, List.set_cons_zero]
    have HF := Lib.hid (HB5.out.trans (hW.mono (by omega)))
    clear hW
    go_wp2
    go_ret
    exact ⟨rfl, HF.out⟩
  · have h1 : (chk v k i c != 0) = true := by simpa using h0
    have H0 := Lib.hid h0
    clear h0
    go_enter Tryd.func3, Tryd.ntmps3
    go_wp2_with fail
    rw [HW.out]
    have HC := hbytes_any v k s i c hs w0
    unfold hdV at HC
    refine HC.mono ?_
    rintro e w1 ⟨hr, hb1⟩
    clear HC
    obtain rfl : e = .returned (.tuple #[.slice none 0 0, .int .i64 (chk v k i c)]) := by
      rcases hr with ⟨_, e1⟩ | ⟨h, _⟩
      · exact e1
      · exact absurd h H0.out
    clear hr
    have hb01 := hb0.trans (hb1.mono (by omega))
    have hH1 := (hb1.block w.heap.size (by omega)).trans hH0
    obtain ⟨d0, d1, d2, d3, d4⟩ := hd_block hH1
    have HB1 := Lib.hid hb01
    have HH1 := Lib.hid hH1
    clear hb1 hb01 hH1 hH0 hb0
    go_wp2_with fail
    have HC := rcheck_any v k s i c w1
    unfold hdV at HC
    refine HC.mono ?_
    rintro e w2 ⟨rfl, hb2⟩
    clear HC d0 d1 d2 d3 d4
    have HB2 := Lib.hid (HB1.out.trans (hb2.mono HB1.out.size))
    have hl2 : w.heap.size < w2.heap.size := by have := (Array.getElem?_eq_some_iff.1 HH1.out).1; have := hb2.size; omega
    have hH2 := (hb2.block w.heap.size (Array.getElem?_eq_some_iff.1 HH1.out).1).trans HH1.out
    have hH : ∀ W, Below w2.heap.size w2 W → W.heap[w.heap.size]? = some (.cells #[.int .i64 v, .int .i64 k, .int .u32 s, .int .i64 i, .int .i64 c] 24 (0, 0)) := fun W hW => (hW.block _ hl2).trans hH2
    have HT : Hid (∀ W, Below w2.heap.size w2 W → Tens W w.heap.size) := fun W hW => (ht.below HB2.out).below (hW.mono (by omega))
    clear hb2 HB1 HH1
    go_wp2_with fail
    refine wp_region_F 76 [] (fun _ _ _ => False) (fun W => Below w2.heap.size w2 W) (by kernel_rfl) (by kernel_rfl) (by rfl) (by simp) (fun W W' h hb => h.trans (hb.mono h.size)) (fun s v W W' h hb => h) (Below.refl _ _).drew ?_
    refine wpF_load (.agg #[.int .i64 v, .int .i64 k, .int .u32 s, .int .i64 i, .int .i64 c]) rfl (by rfl) (by rfl) (by rfl) (fun W hW => by obtain ⟨a0, a1, a2, a3, a4⟩ := hd_block (hH W hW); simp [Instr.loadAt, go_sem, a0, a1, a2, a3, a4]) ?_
    simp only [Act.put, List.setIfInBounds_toArray, List.set_cons_succ, List.set_cons_zero]
    refine wpF_call (f := 8) (args := #[.agg #[.int .i64 v, .int .i64 k, .int .u32 s, .int .i64 i, .int .i64 c]]) (.int .i64 (chk v k i c)) rfl rfl (fun x => by first | rfl | (simp [go_sem]; done)) (fun W hW => check_any v k s i c W) ?_
    simp only [Act.put, List.setIfInBounds_toArray, List.set_cons_succ, List.set_cons_zero]
    refine wpF_pure rfl rfl ?_; go_big_quiet_step (fail); refine wpQuiet_nil ?_
    refine wpF_pure rfl rfl ?_; go_big_quiet_step (fail); refine wpQuiet_nil ?_
    refine wpF_pure rfl rfl ?_; go_big_quiet_step (fail); refine wpQuiet_nil ?_
    refine wpF_pure rfl rfl ?_; go_big_quiet_step (fail); refine wpQuiet_nil ?_
    refine wpF_pure rfl rfl ?_; go_big_quiet_step (fail); refine wpQuiet_nil ?_
    refine wpF_pure rfl rfl ?_; go_big_quiet_step (fail); refine wpQuiet_nil ?_
    refine wpF_pure rfl rfl ?_; go_big_quiet_step (fail); refine wpQuiet_nil ?_
    refine wpF_pure rfl rfl ?_; go_big_quiet_step (fail); refine wpQuiet_nil ?_
    refine wpF_load (.agg #[.int .i64 v, .int .i64 k, .int .u32 s, .int .i64 i, .int .i64 c]) rfl (by rfl) (by rfl) (by rfl) (fun W hW => by obtain ⟨a0, a1, a2, a3, a4⟩ := hd_block (hH W hW); simp [Instr.loadAt, go_sem, a0, a1, a2, a3, a4]) ?_
    simp only [Act.put, List.setIfInBounds_toArray, List.set_cons_succ, List.set_cons_zero]
    refine wpF_call (f := 9) (args := #[.agg #[.int .i64 v, .int .i64 k, .int .u32 s, .int .i64 i, .int .i64 c]]) (.string (lineZ v k s i c)) rfl rfl (fun x => by first | rfl | (simp [go_sem]; done)) (fun W hW => hline_any v k s i c hv hk hi hc hs w.heap.size W (HT.out W hW) (by have := hW.size; omega)) ?_
    simp only [Act.put, List.setIfInBounds_toArray, List.set_cons_succ, List.set_cons_zero]
    refine wpF_load (.agg #[.int .i64 v, .int .i64 k, .int .u32 s, .int .i64 i, .int .i64 c]) rfl (by rfl) (by rfl) (by rfl) (fun W hW => by obtain ⟨a0, a1, a2, a3, a4⟩ := hd_block (hH W hW); simp [Instr.loadAt, go_sem, a0, a1, a2, a3, a4]) ?_
    simp only [Act.put, List.setIfInBounds_toArray, List.set_cons_succ, List.set_cons_zero]
    refine wpF_call (f := 10) (args := #[.agg #[.int .i64 v, .int .i64 k, .int .u32 s, .int .i64 i, .int .i64 c]]) (.string (lineZ v k s i c)) rfl rfl (fun x => by first | rfl | (simp [go_sem]; done)) (fun W hW => rline_any v k s i c hv hk hi hc hs W) ?_
    simp only [Act.put, List.setIfInBounds_toArray, List.set_cons_succ, List.set_cons_zero]
    refine wpF_pure rfl rfl ?_; go_big_quiet_step (fail); refine wpQuiet_nil ?_
    refine wpF_pure rfl rfl ?_; go_big_quiet_step (fail); refine wpQuiet_nil ?_
    intro xs W hW _
    simp only [fill]
    go_wp2_with fail
    refine (known_any w.heap.size W (HT.out W hW) (by have := hW.size; omega)).mono ?_
    rintro e w4 ⟨rfl, hb4⟩
    have HF := Lib.hid (HB2.out.trans ((hW.trans (hb4.mono hW.size)).mono (by omega)))
    clear hb4 hW
    go_wp2
    go_ret
    exact ⟨rfl, HF.out⟩
end Go.Proofs.YtmmffifndheafaaDoor

namespace Go.Proofs.YtmmffifndheafaaDoor.headTells
open Go.ChangeShapes Go.WideShapes Go.ChangeAt Go.RowKit
set_option linter.unusedVariables false

set_option maxRecDepth 100000 in
theorem lifted (os : Os) (started : os.Started) (H : Type) (enc : TypeId × Value → H) :
    ReturnsInHanded {} Tryd.checked os 3 .any (fun w args => (Rows.headTellsSpec.pre enc Tryd.prog Tryd.f3 [] false w args ∧ laidMetH Tryd.prog laidL w) ∧ sizedMet enc Tryd.prog Tryd.f3 (OpenSpec.ofChange Rows.headTellsSpec) false w args)
      (Rows.headTellsSpec.post enc Tryd.prog Tryd.f3 false true false false) := by
  refine returnsInHanded_of_change_and (C := Tryd.checked) (X := fun w _ => laidMetH Tryd.prog laidL w) (fun _ _ _ hh h => h.of_heap hh) ownK started (by kernel_rfl) Tryd.func3
    (ChangeSpec.witness_shaped (enc := enc) (C := Tryd.checked) (os := os) (X := fun w _ => laidMetH Tryd.prog laidL w) false (World.doorLaid Tryd.prog 2000 os) #[hdV 0 0 0 0 0] 8 rfl (World.shaped_of_RefB (by kernel_rfl) (by kernel_rfl)) (by kernel_rfl) (by kernel_rfl) (by kernel_rfl) (door_met os _)) ?_
  intro W base args ds gs before hval0 hW _ _ hL _
  have hval : ∀ (j : Nat) t v, Tryd.f3.params[j]? = some t → args[j]? = some v → Value.okWide Tryd.prog W .any base t v := hval0
  have hW' := hW
  obtain ⟨p, q, hA0, hV, rfl, hfz, hnd⟩ := hW
  have hA : DataW.TrodAll enc Tryd.prog W 0 (fun _ => true) true Tryd.f3.params.toList args.toList ds p := hA0
  rw [Tryd.params3] at hA hval
  obtain ⟨v0, vs0, d0, ds0, p0, q0, hargs, rfl, rfl, h0, r0⟩ := trodAll_cons hA
  obtain ⟨rfl, rfl, rfl⟩ := trodAll_nil r0
  obtain rfl : args = #[v0] := by cases args; simp_all
  obtain ⟨rfl, rfl⟩ := trodVars_none hV
  have k0 := h0
  have lt0 : ∀ x ∈ p0, x.block < W.heap.size := by obtain ⟨m, hm⟩ := k0; exact DataW.trod_lt m _ _ _ hm
  obtain ⟨x0_1, x0_2, x0_3, x0_4, x0_5, rfl, y0_1, y0_2, y0_3, y0_4, y0_5⟩ := open_head (hval 0 24 v0 rfl rfl) h0
  have ht := tens_of_laid hL
  clear hA0 hval0
  refine (tells_go x0_1 x0_2 x0_3 x0_4 x0_5 (bounds_i64 y0_1) (bounds_i64 y0_2) (bounds_i64 y0_4) (bounds_i64 y0_5) (bounds_u32 y0_3) W ht).mono fun e W' ⟨he, bel⟩ => ?_
  subst he
  exact ⟨_, rfl, _, _, _, [], _, [], hW', trodAll_mk1 (shut_bool Tryd.underlying4 _), (trodAll_cons_mk (Below.trod lOut (by kernel_rfl) (of_decide_eq_true (by kernel_rfl)) k0 bel lt0) trodAll_mk0), rfl, bel.frame _, fun h => by cases h⟩

theorem over : Rows.HeadTellsSaid :=
  OpenClaim.holds_of_wide 3 Tryd.f3 rfl rfl rfl rfl rfl rfl rfl ⟨rfl, rfl, rfl, rfl, rfl⟩ rfl rfl rfl rfl rfl (by kernel_rfl) Tryd.func3 (by kernel_rfl)
    (of_decide_eq_true (by kernel_rfl)) (by unfold Func.isWrapper; first | (rw [if_pos (by decide +kernel)]; kernel_rfl) | (rw [if_neg (by decide +kernel)]; exact ⟨rfl, rfl⟩))
    (fun os started H enc _ => lifted os started H enc)

theorem proved : Rows.HeadTellsCardSaid :=
  Claim7.holds_tied_plain_at .later [] [.data, .data, .data] true (true, "cdd5a8a8e3109713c5d6e7cd33c81bd5b53ddc285bd31dd45d53f00591f0e4b4") false
    over (fun _ h => by cases h) (by kernel_rfl) (fun _ h => by cases h) headTells_row_tie rfl ⟨rfl, rfl⟩ (by kernel_rfl) rfl
    (fun f fn hf hfn => by
      obtain rfl : f = 3 := Option.some.inj ((show Tryd.prog.funcNamed "cuneiform/cuneiformlaw07.HeadTells" = some 3 by kernel_rfl).symm.trans hf) |>.symm
      obtain rfl : fn = Tryd.f3 := (Option.some.inj (Tryd.func3.symm.trans hfn)).symm
      exact ⟨by kernel_rfl, fun j t ht => by
        rw [Tryd.params3] at ht
        have hm : t ∈ [24] := by simpa using Array.mem_of_getElem? ht
        have hall : ([24].all fun u => !Tryd.prog.wantsStandIn u) = true := by kernel_rfl
        exact (show Tryd.prog.wantsStandIn t = false by simpa using List.all_eq_true.1 hall t hm)⟩)
    (by kernel_rfl)
#print axioms proved
end Go.Proofs.YtmmffifndheafaaDoor.headTells
