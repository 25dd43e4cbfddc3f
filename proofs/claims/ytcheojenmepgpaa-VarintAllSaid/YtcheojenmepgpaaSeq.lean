/-
  Contracts of layer 1: the iterator over the numbers of bytes: slices.Clone, varint.All and its closure.
-/
import Derived.Test.YtcheojenmepgpaaAll
import Derived.Test.YtcheojenmepgpaaPut
import Derived.WalkSpells
import Derived.RangeFuncNested
import Derived.RangeFuncBound
import Derived.RangeFuncCalls
import Derived.RangeFuncLeaves
import Derived.Shelf.Abstract
import Derived.Shelf.RegionOpen
import Derived.OwnWalkIn
import Derived.TacticsInMore
import Derived.LoopNIn
import Derived.LoopIn
namespace Go.Proofs.Ytcheojenmepgpaa
open Go.RowKit Go.Shelf
set_option maxRecDepth 100000

/-- the numbers zs lie at a, in a block from lo on, below hi -/
def NumsIn (k : IntKind) (w : World) (lo hi : Nat) (a : Option Addr) (zs : List Int) : Prop :=
  zs ≠ [] → ∃ b off, a = some ⟨b, off, none⟩ ∧ lo ≤ b ∧ b < hi ∧ ∀ j c, zs[j]? = some c → w.cell? ⟨b, off + j, none⟩ = some (.int k c)
/-- the blocks from lo on, below hi, are as they were -/
def Keeps (lo hi : Nat) (W W' : World) : Prop := W.heap.size ≤ W'.heap.size ∧ ∀ k, lo ≤ k → k < hi → W'.heap[k]? = W.heap[k]?
theorem Keeps.refl (lo hi : Nat) (W : World) : Keeps lo hi W W := ⟨Nat.le_refl _, fun _ _ _ => rfl⟩
theorem Keeps.trans {lo hi : Nat} {A B C : World} (h : Keeps lo hi A B) (k : Keeps lo hi B C) : Keeps lo hi A C := ⟨Nat.le_trans h.1 k.1, fun i h1 h2 => (k.2 i h1 h2).trans (h.2 i h1 h2)⟩
theorem Keeps.of_below {lo hi : Nat} {A B : World} (h : Below hi A B) : Keeps lo hi A B := ⟨h.size, fun k _ h2 => h.block k h2⟩
theorem Keeps.cell {lo hi : Nat} {A B : World} (h : Keeps lo hi A B) {p : Addr} (h1 : lo ≤ p.block) (h2 : p.block < hi) : B.cell? p = A.cell? p := World.cell?_of_block (h.2 p.block h1 h2)
theorem NumsIn.keeps {k : IntKind} {lo hi : Nat} {A B : World} {a : Option Addr} {zs : List Int} (h : NumsIn k A lo hi a zs) (hk : Keeps lo hi A B) : NumsIn k B lo hi a zs := fun hn => by
  obtain ⟨b, off, e, h1, h2, hc⟩ := h hn
  exact ⟨b, off, e, h1, h2, fun j c hj => (hk.cell (p := ⟨b, off + j, none⟩) h1 h2).trans (hc j c hj)⟩
theorem NumsIn.nums {k : IntKind} {lo hi : Nat} {A : World} {a : Option Addr} {zs : List Int} (h : NumsIn k A lo hi a zs) : Nums k A hi a zs := fun hn => by
  obtain ⟨b, off, e, _, h2, hc⟩ := h hn
  exact ⟨b, off, e, h2, hc⟩
theorem NumsIn.mono {k : IntKind} {lo hi hi' : Nat} {A : World} {a : Option Addr} {zs : List Int} (h : NumsIn k A lo hi a zs) (hh : hi ≤ hi') : NumsIn k A lo hi' a zs := fun hn => by
  obtain ⟨b, off, e, h1, h2, hc⟩ := h hn
  exact ⟨b, off, e, h1, by omega, hc⟩
theorem MadeK.numsIn {e : TypeId} {k : IntKind} {w w1 : World} {L : List Int} {A : Option Addr} {c : Nat} (h : MadeK e k w w1 L (.slice A L.length c)) : NumsIn k w1 w.heap.size w1.heap.size A L := fun hn => by
  obtain ⟨b, off, rfl, hb, hc⟩ := Nums.of_own h.1 hn
  exact ⟨b, off, rfl, (h.own_ge (g := b) rfl).1, hb, hc⟩

/-- slices.Clone of bytes -/
theorem clone_any (a : Option Addr) (cap : Nat) (zs : List Int) (w : World) (hl : zs.length ≤ 1000000) (h1 : Nums .u8 w w.heap.size a zs) :
    Calls Try.prog 22 #[.slice a zs.length cap] w fun e w' => ∃ v, e = .returned v ∧ MadeK 5 .u8 w w' zs v := by
  obtain ⟨i0, hi, hz0, hz1, hz2⟩ := info_parts byteInfo
  cases a with
  | none =>
    have : zs = [] := by
      apply Classical.byContradiction
      intro hn
      obtain ⟨b, off, e, _⟩ := h1 hn
      cases e
    subst this
    have hq := fun w => Lib.run_eql_slice_nil (P := Try.prog) w 23 5 none 0 cap 0 0 Try.underlying23
    go_enter Try.func22, Try.ntmps22
    go_wp2
    go_ret
    exact ⟨_, rfl, MadeK.nil _ _ (Below.refl _ _)⟩
  | some x =>
    have hq := fun w => Lib.run_eql_slice_nil (P := Try.prog) w 23 5 (some x) zs.length cap 0 0 Try.underlying23
    have hnews : ∀ j u, (zs.map (Value.int .u8))[j]? = some u → (w.alloc (.cells #[] 5)).cell? (x.add j) = some u := by
      intro j u hj
      rw [List.getElem?_map] at hj
      cases hc : zs[j]? with
      | none => rw [hc] at hj; simp at hj
      | some c =>
        rw [hc] at hj
        simp only [Option.map_some, Option.some.injEq] at hj
        subst hj
        obtain ⟨b, off, e, hb, hcell⟩ := h1.open hc
        injection e with e
        subst e
        have := (World.cell?_alloc_lt w (.cells #[] 5) ⟨b, off + j, none⟩ hb).trans hcell
        by_cases h0 : j = 0
        · subst h0; simpa [Addr.add] using this
        · simpa [Addr.add, h0] using this
    have hown : (w.alloc (.cells #[] 5)).ownsRow w.heap.size 5 1 (.slice (some ⟨w.heap.size, 0, none⟩) 0 0) 0 [] :=
      ⟨rfl, .inr ⟨w.heap.size, 0, #[], rfl, Nat.le_refl _, heap_alloc_new w _, Nat.le_refl _, by simp, rfl, rfl⟩⟩
    go_enter Try.func22, Try.ntmps22
    go_wp2_with (at_builtin; refine wpList_append_own _ rfl (.tmp 5) (.tmp 6) 23 rfl w.heap.size 5 i0 (.int .u8 0) 1 1 Try.underlying23 hi hz0 hz1 hz2 rfl (by decide) _ _ _ rfl hown x zs.length cap (zs.map (Value.int .u8)) rfl (by simp) hnews ?_ ?_ ?_ ?_ ?_; (intro u hu; simp at hu; obtain ⟨c, _, rfl⟩ := hu; rfl); (unfold maxLen; omega); omega; (simp); intro v' w1 hown1 hgrow1 _)
    go_ret
    refine ⟨_, rfl, by simpa using hown1, ?_⟩
    exact ((Below.refl w.heap.size w).alloc (Nat.le_refl _) _).grown hgrow1 (by simp) (fun g hk => by have hk : some w.heap.size = some g := hk; injection hk with hk; omega)

/-- what varint.All answers: a closure over a box with a copy of the bytes -/
structure Seq (w : World) (zs : List Int) (Bs : Nat) (A : Option Addr) (c : Nat) (w' : World) : Prop where
  lo : w.heap.size ≤ Bs
  hi : Bs < w'.heap.size
  box : w'.cell? ⟨Bs, 0, none⟩ = some (.slice A zs.length c)
  room : zs.length ≤ c
  nums : NumsIn .u8 w' w.heap.size w'.heap.size A zs
  below : Below w.heap.size w w'

theorem all_any (a : Option Addr) (cap n : Nat) (zs : List Int) (w : World) (hn : zs.length = n) (hl : zs.length ≤ 1000000) (h1 : Nums .u8 w w.heap.size a zs) :
    Calls Try.prog 19 #[.slice a n cap] w fun e w' => ∃ Bs A c, e = .returned (.func (.func 23) #[] #[.pointer (some ⟨Bs, 0, none⟩)]) ∧ Seq w zs Bs A c w' := by
  subst hn
  go_enter Try.func19, Try.ntmps19
  go_wp2_with fail
  refine (clone_any a cap zs w hl h1).mono ?_
  rintro e w1 ⟨v, rfl, hm⟩
  obtain ⟨A, c, rfl, hc, _⟩ := hm.slice
  go_wp2
  go_ret
  have hb := hm.2.size
  refine ⟨w1.heap.size, A, c, rfl, hb, by simp, by simp, hc, ?_, hm.2.alloc hb _⟩
  exact (hm.numsIn.keeps (Keeps.of_below ((Below.refl _ w1).alloc (Nat.le_refl _) _))).mono (by simp)

attribute [local go_sem] Oper.semAt_some

/-- a place and a number, as the closure hands them on -/
abbrev PN := { x : Nat × Nat // x.1 ≤ 1000000 ∧ x.2 ≤ 18446744073709551615 }
def bare (l : List PN) : List (Nat × Nat) := l.map fun x => x.1
theorem bare_append (a b : List PN) : bare (a ++ b) = bare a ++ bare b := by simp [bare]
theorem bare_length (a : List PN) : (bare a).length = a.length := by simp [bare]

set_option maxHeartbeats 2000000 in
/-- the closure: it hands each number and its place to the loop's body, till the body says no more, or no number is told -/
theorem closure_in (n : Nat) (hn : 1 ≤ n) (l lo hi Bs c : Nat) (A : Option Addr) (zs : List Int) (hl : zs.length ≤ 1000000) (hz : ∀ c ∈ zs, 0 ≤ c ∧ c ≤ 255) (hBl : lo ≤ Bs) (hBh : Bs < hi) (hc : zs.length ≤ c) (J Jx : List PN → World → Prop)
    (hY : ∀ pre x W, J pre W → pre.length < (Vi.tl zs 0).length → YieldAt Fence.wide (n - 1) Try.prog l #[.int .i64 (x.1.1 : Int), .int .u64 (x.1.2 : Int)] W fun e W' =>
      (e = .returned (.bool true) ∧ J (pre ++ [x]) W' ∧ Keeps lo hi W W') ∨ (e = .returned (.bool false) ∧ Jx (pre ++ [x]) W'))
    (W : World) (hBs : W.cell? ⟨Bs, 0, none⟩ = some (.slice A zs.length c)) (hN : NumsIn .u8 W lo hi A zs) (h0 : J [] W) :
    CallsIn Fence.wide n Try.prog 23 #[.func (.yield l) #[] #[], .pointer (some ⟨Bs, 0, none⟩)] W fun e W' => (∃ v, e = .returned v) ∧
      ((∃ ys, bare ys = Vi.tl zs 0 ∧ J ys W') ∨ (∃ pre, (bare pre <+: Vi.tl zs 0 ∧ pre ≠ []) ∧ Jx pre W')) := by
  refine callsIn_of_wp Try.func23 rfl trivial ?_ rfl
  simp only [Try.ntmps23, List.size_toArray, List.length_cons, List.length_nil, Nat.reduceAdd, Nat.reduceSub, Array.replicate_succ, Array.replicate_zero, List.push_toArray, List.append_toArray, List.nil_append, List.cons_append]
  gi_wp2
  gi_loopw [3] (fun i wr => ∃ (p : Nat) (pre : List PN), i = .int .i64 p ∧ Vi.Gone zs (bare pre) p ∧ J pre wr ∧ Keeps lo hi W wr)
    (fun i _ => zs.length - (intOf i).toNat)
  case atStart => exact ⟨0, [], rfl, Vi.gone_nil zs, h0, Keeps.refl _ _ _⟩
  case round =>
    obtain ⟨p, pre, rfl, hg, hJ, hk⟩ := hrel
    have hple := hg.1
    have hbox := (hk.cell (p := ⟨Bs, 0, none⟩) hBl hBh).trans hBs
    have hNr := hN.keeps hk
    by_cases hlt : p < zs.length
    · have hlt' : (p : Int) < (zs.length : Int) := by omega
      have hpc : (p : Int) ≤ (zs.length : Int) := by omega
      have hpc2 : (zs.length : Int) ≤ (c : Int) := by omega
      have hnd := hNr.nums.drop (i := p) hc
      rw [if_neg (by omega)] at hnd
      have hzd : ∀ c ∈ zs.drop p, 0 ≤ c ∧ c ≤ 255 := fun c hc => hz c (List.mem_of_mem_drop hc)
      have HZ := Lib.hid hz
      clear hz
      gi_wp2_with fail
      refine ⟨trivial, ?_⟩
      refine (callsIn_wide.2 (get_len hi _ _ _ (zs.drop p) wr (by simp) (by omega) hzd hnd)).mono ?_
      rintro e w1 ⟨rfl, rfl⟩
      by_cases hok : (Vi.get (zs.drop p)).2.2 = 0
      · have hmore := Vi.gone_more HZ.out hg hok
        have hle := (Vi.get_le (zs.drop p)).1
        have hcnt : pre.length < (Vi.tl zs 0).length := by
          have h2 := congrArg List.length hg.2.1
          rw [Vi.tl_ok hok, List.length_append, List.length_cons, bare_length] at h2
          omega
        generalize Vi.get (zs.drop p) = r at *
        obtain ⟨r1, r2, r3⟩ := r
        simp only at hok hmore hle
        subst hok
        have hx : p ≤ 1000000 ∧ r1 ≤ 18446744073709551615 := by omega
        have hG : Vi.Gone zs (bare (pre ++ [⟨(p, r1), hx⟩])) (p + r2) := by rw [bare_append]; exact hmore.1
        have hpre : bare (pre ++ [⟨(p, r1), hx⟩]) <+: Vi.tl zs 0 := ⟨_, hG.2.1.symm⟩
        have HM := Lib.hid hG
        have hp2 : 0 < r2 := hmore.2.2.1
        have hp3 : p + r2 ≤ zs.length := hmore.2.2.2
        clear hmore hnd hzd hG hle
        obtain ⟨fn, tmps, assign, body, hy, hR⟩ := hY pre ⟨(p, r1), hx⟩ wr hJ hcnt
        dsimp only at hy
        gi_wp2
        refine hR.mono ?_
        rintro e W3 (⟨rfl, hJ3, hk3⟩ | ⟨rfl, hJx3⟩)
        · gi_wp2
          go_roundw
          case rel => exact ⟨p + r2, _, by go_num, HM.out, hJ3, hk.trans hk3⟩
          case measure => simp [intOf]; omega
        · gi_wp2
          refine bodyPost_ret (results_none rfl _ _ _) rfl ?_
          exact ⟨⟨_, rfl⟩, .inr ⟨_, ⟨hpre, by simp⟩, hJx3⟩⟩
      · have hstop := Lib.hid (Vi.gone_stop hg hok)
        have h4 : ((((Vi.get (zs.drop p)).2.2 : Nat) : Int) != 0) = true := by simp; omega
        gi_wp2
        refine ⟨fun _ h => (by cases h), ?_⟩
        gi_wp2
        refine bodyPost_ret (results_none rfl _ _ _) rfl ?_
        exact ⟨⟨_, rfl⟩, .inl ⟨_, hstop.out.symm, hJ⟩⟩
    · have hend := Lib.hid (Vi.gone_end hg (by omega))
      gi_wp2
      go_end0
      exact ⟨⟨_, rfl⟩, .inl ⟨_, hend.out.1.symm, hJ⟩⟩

theorem closure_stops (n : Nat) (hn : 1 ≤ n) (w0 w : World) (zs : List Int) (Bs c : Nat) (A : Option Addr) (hl : zs.length ≤ 1000000) (hz : ∀ c ∈ zs, 0 ≤ c ∧ c ≤ 255) (h : Seq w0 zs Bs A c w) :
    SeqStopsK Fence.wide n Try.prog 23 #[.pointer (some ⟨Bs, 0, none⟩)] (fun x : PN => #[Value.int .i64 (x.1.1 : Int), Value.int .u64 (x.1.2 : Int)]) (Keeps w0.heap.size w.heap.size) (fun ys => bare ys = Vi.tl zs 0) (fun pre => bare pre <+: Vi.tl zs 0 ∧ pre ≠ []) (Vi.tl zs 0).length w := fun l J Jx W hW _ _ hY h0 =>
  closure_in n hn l w0.heap.size w.heap.size Bs c A zs hl hz h.lo h.hi h.room J Jx hY W ((hW.cell (p := ⟨Bs, 0, none⟩) h.hi).trans h.box) (h.nums.keeps (Keeps.of_below hW)) h0

theorem keeps_t {lo hi : Nat} {A B C : World} (h : Keeps lo hi A B) (k : Keeps lo hi B C) : Keeps lo hi A C := h.trans k
theorem keeps_b {lo hi : Nat} {w : World} (hh : hi ≤ w.heap.size) (W : World) (l : Nat) (o o' : Obj) (hl : w.heap.size ≤ l) (_ho : W.heap[l]? = some o) (_h1 : o.isCells = false) (_h2 : o.isWalk = false) : Keeps lo hi W (W.putObj l o') := by
  refine ⟨by simp [World.putObj], fun k _ h2 => ?_⟩
  simp only [World.putObj]
  rw [Array.getElem?_setIfInBounds]
  rw [if_neg (by omega)]

end Go.Proofs.Ytcheojenmepgpaa
