/-
  A part of the texts of one proof, put together: ScF, ScS, Same, SamA, ScK.
-/
import Derived.Test.YtcfgemdpnbimoaaRows
import Derived.WalkLawsBesides
import Derived.BigQuiet
import Derived.Deep.QuietTactic
import Derived.Deep.LoopGhost
import Derived.Lib.Hide
import Derived.WalkMore
import Derived.Test.YtcfgemdpnbimoaaMB2
namespace Go.Proofs.Ytcfgemdpnbimoaa
open Go.RowKit Go.Shelf
set_option maxRecDepth 100000
attribute [local go_sem] Oper.semAt_some

theorem ended_any (s : Option Addr) (a : Option Addr) (n c : Nat) (w : World) :
    Calls Try.prog 22 #[.pointer s, .slice a n c] w fun e w' => e = .returned (.func (.func 28) #[] #[.pointer (some ⟨w.heap.size, 0, none⟩), .pointer (some ⟨w.heap.size + 1, 0, none⟩)]) ∧
      w' = (w.alloc (.cells #[.pointer s] 23)).alloc (.cells #[.slice a n c] 25) := by
  go_enter Try.func22, Try.ntmps22
  go_wp2
  go_ret
  exact ⟨rfl, rfl⟩
/-- segments that lie there: their cells, one behind the other, and their bytes, in blocks of S -/
def SgsAt (w : World) (S : Nat → Prop) (A : Option Addr) (xs : List Sg) : Prop :=
  ∀ (j : Nat) (x : Sg), xs[j]? = some x → ∃ b off, A = some ⟨b, off, none⟩ ∧ S b ∧ (∀ (q : Nat) (u : Value), x.cs[q]? = some u → w.cell? ⟨b, off + j * 4 + q, none⟩ = some u) ∧ (held x.b).length ≤ x.cp ∧ NumsS .u8 w S x.a (held x.b)
theorem SgsAt.keeps {w w' : World} {S : Nat → Prop} {A : Option Addr} {xs : List Sg} (h : SgsAt w S A xs) (hk : KeepS S w w') : SgsAt w' S A xs := fun j x hx => by
  obtain ⟨b, off, e, hb, hc, hl, hn⟩ := h j x hx
  exact ⟨b, off, e, hb, fun q u hu => (hk.cell (p := ⟨b, off + j * 4 + q, none⟩) hb).trans (hc q u hu), hl, hn.keeps hk⟩
theorem SgsAt.more {w : World} {S S' : Nat → Prop} {A : Option Addr} {xs : List Sg} (h : SgsAt w S A xs) (hS : ∀ k, S k → S' k) : SgsAt w S' A xs := fun j x hx => by
  obtain ⟨b, off, e, hb, hc, hl, hn⟩ := h j x hx
  exact ⟨b, off, e, hS b hb, hc, hl, hn.more hS⟩
/-- the blocks that a Feed may tell of: new ones, and the row that was held -/
def FQ (lo h : Nat) (own0 : Option Nat) (k : Nat) : Prop := lo ≤ k ∧ (h ≤ k ∨ own0 = some k)
/-- where what a scanner has told lies: in blocks of Q that it doesn't hold -/
def Told (b : Nat) (Q : Nat → Prop) (own : Option Nat) (w : World) (k : Nat) : Prop := Q k ∧ k < w.heap.size ∧ k ≠ b ∧ own ≠ some k
/-- a row of segments that may be written to lies there -/
def SgRow (w : World) (A : Option Addr) : Prop := ∀ g o s, A = some ⟨g, o, s⟩ → ∃ cs, w.heap[g]? = some (.cells cs 44 (0, 0))
/-- what Feed leaves -/
def FeedR (w : World) (b lo : Nat) (v0 : Value) (p m : Nat) (now zs : List Int) (e : Ending) (w' : World) : Prop :=
  ∃ A c xs v, e = .returned (.slice A xs.length c) ∧ xs.length ≤ c ∧ xs.map Sg.pb = Fc.scan p now zs ∧ ScTo w w' b lo v0 v (p + m) (Fc.opn now zs) ∧ SgsAt w' (Told b (FQ lo w.heap.size v0.ownBlock) v.ownBlock w') A xs ∧ SgRow w' A
/-- the list in the box, at the end -/
theorem Fd.told {w w1 V : World} {b Bo lo j p : Nat} {Q : Nat → Prop} {v0 v : Value} {own0 : Option Nat} {full : List (Nat × List Int)} {now : List Int} (h : Fd w1 b Bo Q own0 full j V) (hat : ScanAt V b lo v p now) (hb : b < w1.heap.size) (hQ : ∀ g, w1.heap.size ≤ g → Q g) (h1 : Below w.heap.size w w1) (hBo : w.heap.size ≤ Bo) (h0 : v0.ownBlock = own0) :
    ∃ A c xs, Boxed V Bo 29 (.slice A xs.length c) ∧ xs.length ≤ c ∧ xs.map Sg.pb = full.take j ∧ ScTo w V b lo v0 v p now ∧ SgsAt V (Told b Q v.ownBlock V) A xs ∧ SgRow V A := by
  obtain ⟨vl, xs, k1, k2, k3, k4, k5⟩ := h.box
  have hs := h.off.size
  have hs1 := h1.size
  have hoS := hat.ownS
  have hto : ScTo w V b lo v0 v p now := by
    refine ⟨hat, ⟨h.off.os.trans h1.os, h.off.tape.trans h1.tape, h.off.output.trans h1.output, by omega, fun k hk hn => ?_⟩, ?_⟩
    · refine (h.off.block k (by omega) (fun e => ?_)).trans (h1.block k hk)
      rcases e with e | e | e
      · exact hn (.inl e)
      · omega
      · exact hn (.inr (h0.trans e))
    · rcases hv : v.ownBlock with _ | g
      · exact .inl rfl
      · rw [hv] at hoS
        rcases h.own g hoS with e | e
        · exact .inr (.inr ⟨g, rfl, by omega⟩)
        · exact .inr (.inl (e.symm.trans h0.symm))
  -- the list's own blocks
  have hrow : ∀ g, vl.ownBlock = some g → Told b Q v.ownBlock V g := fun g hg => by
    have hl := k2.lt g hg
    refine ⟨hQ g hl.1, hl.2, by omega, fun e => ?_⟩
    rcases k2.2 with ⟨rfl, _⟩ | ⟨q, cap, cu, rfl, _, hh, _⟩
    · simp [Value.ownBlock] at hg
    · simp only [Value.ownBlock, Option.some.injEq] at hg
      subst hg
      rcases hat.own.2 with ⟨rfl, _⟩ | ⟨q2, cap2, cu2, rfl, _, hh2, _⟩
      · simp [Value.ownBlock] at e
      · simp only [Value.ownBlock, Option.some.injEq] at e
        subst e
        rw [hh] at hh2
        injection hh2 with hh2
        injection hh2 with _ ht
        exact absurd ht (by decide)
  have hpay : ∀ x ∈ xs, (held x.b).length ≤ x.cp ∧ NumsS .u8 V (Told b Q v.ownBlock V) x.a (held x.b) := fun x hx => by
    obtain ⟨p1, p2⟩ := k5 x hx
    refine ⟨p1, fun hn => ?_⟩
    obtain ⟨g, cur, e1, e2, e3, e4, e5⟩ := p2 hn
    refine ⟨g, 0, e1, ⟨e2, (Array.getElem?_eq_some_iff.1 e3).1, fun e => ?_, fun e => e4 (hoS.trans e)⟩, fun j z hj => ?_⟩
    · subst e
      have := hat.blk
      rw [e3] at this
      injection this with this
      injection this with _ ht
      exact absurd ht (by decide)
    · rw [Nat.zero_add, cell_of_row V g j cur _ _ e3]; exact e5 j z hj
  rcases k2.2 with ⟨rfl, h9⟩ | ⟨g, cap, cur, rfl, hbg, hh, hle, _⟩
  · have hx0 := List.eq_nil_of_length_eq_zero h9
    subst hx0
    exact ⟨none, 0, [], k1, Nat.le_refl _, k4, hto, (fun j x hx => by simp at hx), fun g o s h => by cases h⟩
  · refine ⟨_, cap, xs, k1, hle, k4, hto, fun j x hx => ⟨g, 0, rfl, hrow g rfl, fun q u hq => ?_, hpay x (List.mem_of_getElem? hx)⟩, fun g' o s h => by injection h with h; injection h with h1; subst h1; exact ⟨cur, hh⟩⟩
    have h9 := k2.cells (g := g) rfl (j * 4 + q) u (flatS_at hx hq)
    rw [Addr.add_lit] at h9
    rw [Nat.add_assoc]
    exact h9
theorem segInfo : (Try.prog.info? 44).map (fun i => (i.zero, i.size, i.bytes)) = some (some (.agg (sgC (.slice none 0 0) false 0 0)), 4, 48) := by kernel_rfl
theorem ScanAt.same {w w' : World} {b lo p : Nat} {v : Value} {now : List Int} (h : ScanAt w b lo v p now) (hk : ∀ (k : Nat) (o : Obj), w.heap[k]? = some o → o.isCells = true → w'.heap[k]? = some o) : ScanAt w' b lo v p now := ⟨hk _ _ h.blk rfl, own_same h.own hk⟩
theorem same_put {W : World} {l : Nat} {o o' : Obj} (ho : W.heap[l]? = some o) (hc : o.isCells = false) : ∀ (k : Nat) (p : Obj), W.heap[k]? = some p → p.isCells = true → (W.putObj l o').heap[k]? = some p := fun k p hp hpc => (World.putObj_heap_other (fun e => by
    subst e
    rw [hp] at ho
    injection ho with ho
    subst ho
    rw [hpc] at hc; cases hc)).trans hp
theorem same_below {W W' : World} (hB : Below W.heap.size W W') : ∀ (k : Nat) (o : Obj), W.heap[k]? = some o → o.isCells = true → W'.heap[k]? = some o := fun k _ hp _ => (hB.block k (Array.getElem?_eq_some_iff.1 hp).1).trans hp
theorem SgP.same {w w' : World} {b : Nat} {Q : Nat → Prop} {x : Sg} (h : SgP b Q w x) (hk : ∀ (k : Nat) (o : Obj), w.heap[k]? = some o → o.isCells = true → w'.heap[k]? = some o) (hb : w'.heap[b]? = w.heap[b]?) : SgP b Q w' x := by
  obtain ⟨p1, p2⟩ := h
  refine ⟨p1, fun hn => ?_⟩
  obtain ⟨g, cur, e1, e2, e3, e4, e5⟩ := p2 hn
  exact ⟨g, cur, e1, e2, hk _ _ e3 rfl, by rw [ownS_of_block hb]; exact e4, e5⟩
/-- what was given, as a segment -/
theorem El1.sg {w : World} {b lo : Nat} {v : Value} {p : Nat} {bs : List Int} (h : El1 5 .u8 lo w v (held bs)) (h0 : ownS b w = none) (Q : Nat → Prop) (hQ : ∀ g, v.ownBlock = some g → lo ≤ g → Q g) : ∃ x : Sg, x.pb = (p, bs) ∧ v = .slice x.a (held x.b).length x.cp ∧ SgP b Q w x := by
  obtain ⟨A, c, rfl, hc, hcell⟩ := h
  refine ⟨⟨A, c, p, bs⟩, rfl, rfl, hc, fun hn => ?_⟩
  obtain ⟨g, cur, e1, e2, e3, e4⟩ := hcell hn
  exact ⟨g, cur, e1, hQ g (by rw [e1]; rfl) e2, e3, by rw [h0]; simp, e4⟩
/-- what the iterator's hands give -/
def itS (x : (Nat × List Int) × Value) : Array Value := #[.agg (sgC x.2 (decide (255 < x.1.2.length)) x.1.2.length (x.1.1 : Int))]
set_option maxHeartbeats 8000000 in
theorem feed_any {w : World} {bs lo p : Nat} {v0 : Value} {now : List Int} (hat : ScanAt w bs lo v0 p now) (hlo : lo ≤ w.heap.size) (a : Option Addr) (n c : Nat) (zs : List Int) (hn : zs.length = n) (hc : n ≤ c) (hl : n ≤ 1000000) (hz : Bytes zs) (hnp : now.length ≤ p) (hp : p ≤ 1000000000000)
    (hN : NumsS .u8 w (fun k => k < w.heap.size ∧ k ≠ bs ∧ v0.ownBlock ≠ some k) a zs) :
    Calls Try.prog 11 #[.pointer (some ⟨bs, 0, none⟩), .slice a n c] w fun e w' => FeedR w bs lo v0 p n now zs e w' := by
  have hblt := hat.lt
  obtain ⟨w0, hw0⟩ : ∃ w0, w.alloc (.cells #[.slice none 0 0] 29) = w0 := ⟨_, rfl⟩
  have hs0 : w0.heap.size = w.heap.size + 1 := by rw [← hw0]; simp
  have hb0 : Below w.heap.size w w0 := by rw [← hw0]; exact (Below.refl _ w).alloc (Nat.le_refl _) _
  have bL0 : Boxed w0 w.heap.size 29 (.slice none 0 0) := by rw [← hw0]; exact Boxed.new w _ _
  have K1 := ended_any (some ⟨bs, 0, none⟩) a n c w0
  obtain ⟨w1, hw1⟩ : ∃ w1, (w0.alloc (.cells #[.pointer (some ⟨bs, 0, none⟩)] 23)).alloc (.cells #[.slice a n c] 25) = w1 := ⟨_, rfl⟩
  have hs1 : w1.heap.size = w.heap.size + 3 := by rw [← hw1]; simp [hs0]
  have hb1 : Below w0.heap.size w0 w1 := by rw [← hw1]; exact ((Below.refl _ w0).alloc (Nat.le_refl _) _).alloc (by simp) _
  have bL1 : Boxed w1 w.heap.size 29 (.slice none 0 0) := (hb1.block _ (by omega)).trans bL0
  have bS1 : Boxed w1 (w.heap.size + 1) 23 (.pointer (some ⟨bs, 0, none⟩)) := by
    rw [← hw1, ← hs0]; exact (Boxed.new w0 _ _).alloc _
  have bB1 : Boxed w1 (w.heap.size + 2) 25 (.slice a n c) := by
    rw [← hw1]
    have := Boxed.new (w0.alloc (.cells #[.pointer (some ⟨bs, 0, none⟩)] 23)) 25 (.slice a n c)
    rwa [World.size_alloc, hs0] at this
  rw [hw1, hs0] at K1
  have hb01 := hb0.trans (hb1.mono (by omega))
  have hat1 := hat.below hb01
  have hown : ∀ g, v0.ownBlock = some g → g < w.heap.size := fun g hg => (hat.own.lt g hg).2
  clear hw1
  have HW0 := Lib.hid hw0
  clear hw0
  refine (callsIn_wide (n := 9)).1 ?_
  refine callsIn_of_wp_marks Try.func11 rfl trivial ?_ rfl
  simp only [Try.ntmps11, List.size_toArray, List.length_cons, List.length_nil, Nat.reduceAdd, Nat.reduceSub, Array.replicate_succ, Array.replicate_zero, List.push_toArray, List.append_toArray, List.nil_append, List.cons_append]
  gi_wp2_with fail
  rw [HW0.out]
  refine ⟨trivial, ?_⟩
  refine (callsIn_wide.2 K1).mono ?_
  rintro e w1' ⟨rfl, rfl⟩
  gi_wp2_with fail
  clear K1
  obtain ⟨SG, hSG⟩ : ∃ SG, Fc.scan p now zs = SG := ⟨_, rfl⟩
  have hBo : w.heap.size < w1'.heap.size := by omega
  have hbl : bs < w1'.heap.size := by omega
  have hneB : bs ≠ w.heap.size := by omega
  have h0g : ∀ g, v0.ownBlock = some g → g < w1'.heap.size ∧ g ≠ w.heap.size := fun g hg => by have := hown g hg; omega
  have hF0 : Fd w1' bs w.heap.size (FQ lo w.heap.size v0.ownBlock) v0.ownBlock SG 0 w1' :=
    ⟨⟨_, [], bL1, World.ownsRow_nil _ _ _ _, rfl, by simp, fun x hx => by cases hx⟩, Off.refl _ _, ⟨_, hat1.blk⟩, fun g hg => .inr (hat1.ownS ▸ hg)⟩
  refine range_stopb rfl (by omega) (gf := 28) (lb := #[.pointer (some ⟨w.heap.size + 1, 0, none⟩), .pointer (some ⟨w.heap.size + 1 + 1, 0, none⟩)]) rfl trivial (enters_of Try.func28 (by kernel_rfl) rfl)
    itS (fun _ => rfl)
    (fun j x V => Fd w1' bs w.heap.size (FQ lo w.heap.size v0.ownBlock) v0.ownBlock SG j V ∧ SG[j]? = some x.1 ∧ El1 5 .u8 lo V x.2 (held x.1.2) ∧ ownS bs V = none ∧ ∀ g, x.2.ownBlock = some g → w.heap.size ≤ g ∨ v0.ownBlock = some g)
    (fun j x q V => Fd w1' bs w.heap.size (FQ lo w.heap.size v0.ownBlock) v0.ownBlock SG j V ∧ SG[j]? = some x.1 ∧ ∃ sg : Sg, sg.pb = x.1 ∧ SgP bs (FQ lo w.heap.size v0.ownBlock) V sg ∧ V.heap[q]? = some (.cells sg.cs 44 (0, 0)))
    (fun j V => (j ≤ SG.length ∧ Fd w1' bs w.heap.size (FQ lo w.heap.size v0.ownBlock) v0.ownBlock SG j V ∧ (j = 0 → ScanAt V bs lo v0 p now)) ∨ (j = SG.length + 1 ∧ Fd w1' bs w.heap.size (FQ lo w.heap.size v0.ownBlock) v0.ownBlock SG SG.length V ∧ ∃ v, ScanAt V bs lo v (p + n) (Fc.opn now zs)))
    (fun _ _ => False) (KeepS (fun k => (k < w1'.heap.size ∧ k ≠ bs ∧ v0.ownBlock ≠ some k ∧ k ≠ w.heap.size) ∨ k = bs)) (SG.length + 1)
    (fun j x q V l o o' h hl ho hc' => by
      obtain ⟨h1, h2, sg, h3, h4, h5⟩ := h
      exact ⟨h1.putObj hbl hl ho hc', h2, sg, h3, h4.same (same_put ho hc') (World.putObj_heap_other (by omega)), same_put ho hc' _ _ h5 rfl⟩)
    (fun j V l o o' h hl ho hc' => by
      rcases h with ⟨h1, h2, h3⟩ | ⟨h1, h2, v, h3⟩
      · exact .inl ⟨h1, h2.putObj hbl hl ho hc', fun h0 => (h3 h0).same (same_put ho hc')⟩
      · exact .inr ⟨h1, h2.putObj hbl hl ho hc', v, h3.same (same_put ho hc')⟩)
    (fun _ _ _ _ _ h _ _ _ => h)
    (fun _ _ _ h k => h.trans k) (fun V l o o' hl ho hc' => ⟨by simp [World.putObj], fun k hk => World.putObj_heap_other (by rcases hk with h | h <;> omega)⟩)
    (fun o => by
      have hb : Below w1'.heap.size w1' ((w1'.alloc (.deferred (some []))).alloc o) := ((Below.refl w1'.heap.size w1').alloc (Nat.le_refl _) _).alloc (by simp) _
      exact .inl ⟨by omega, hF0.below hbl hb, fun _ => hat1.below hb⟩) ?round ?iter ?done ?stop
  case round =>
    rintro l j ⟨⟨xp, xb⟩, v⟩ V K ⟨hFd, hxj, hel, hoN, hfr⟩ hj hK
    simp only at hxj hel hfr
    obtain ⟨⟨sa, sc, sp, sb⟩, hpb, rfl, hsp⟩ := hel.sg (p := xp) hoN (FQ lo w.heap.size v0.ownBlock) (fun g h1 h2 => ⟨h2, hfr g h1⟩)
    obtain ⟨rfl, rfl⟩ : sp = xp ∧ sb = xb := by simpa [Sg.pb] using hpb
    simp only at hel ⊢
    have hVs := hFd.off.size
    have hK' := Lib.hid hK
    clear hK
    unfold itS sgC
    simp only
    gi_wp2_with fail
    have hbA : Below V.heap.size V (V.alloc (.cells #[.slice sa (held sb).length sc, .bool (decide (255 < sb.length)), .int .i64 sb.length, .int .u64 sp] 44)) := (Below.refl _ V).alloc (Nat.le_refl _) _
    refine hK'.out _ V.heap.size _ ⟨hFd.below hbl hbA, hxj, ⟨sa, sc, sp, sb⟩, rfl, hsp.same (same_below hbA) (hbA.block _ (by omega)), World.alloc_heap_new _ _⟩ ⟨by simp, fun q o _ ho _ => (Below.heap_alloc _ _ _ (Array.getElem?_eq_some_iff.1 ho).1).trans ho⟩ ⟨by simp, fun k hk => hbA.block k (by rcases hk with h | h <;> omega)⟩ ?_
    clear hbA hK' hFd hVs hsp hel hpb hoN hfr
    generalize V.heap.size = q
    clear V
    rintro l V hl ⟨hFd, _, ⟨sa, sc, sp', sb'⟩, hpb, hsp, hq⟩
    obtain ⟨rfl, rfl⟩ : sp' = sp ∧ sb' = sb := by simpa [Sg.pb] using hpb
    obtain ⟨vl, xs, k1, k2, k3, k4, k5⟩ := hFd.box
    have hVs := hFd.off.size
    obtain ⟨Av, cv, rfl, hcv⟩ := own_slice_le k2
    have hjl : j < SG.length := by
      rcases Nat.lt_or_ge j SG.length with h | h
      · exact h
      · rw [List.getElem?_eq_none h] at hxj; cases hxj
    have hlen : SG.length ≤ n := by rw [← hSG, ← hn]; exact Fc.scan_length _ _ _
    have hq' : V.heap[q]? = some (.cells (sgC (.slice sa (held sb').length sc) (decide (255 < sb'.length)) sb'.length (sp' : Int)) 44 (0, 0)) := hq
    obtain ⟨CS, hCS⟩ : ∃ CS, (Sg.mk sa sc sp' sb').cs = CS := ⟨_, rfl⟩
    have hCS' : sgC (.slice sa (held sb').length sc) (decide (255 < sb'.length)) sb'.length (sp' : Int) = CS := hCS
    obtain ⟨bl, hbl1⟩ : ∃ bl, decide (255 < sb'.length) = bl := ⟨_, rfl⟩
    obtain ⟨H, hH1⟩ : ∃ H, (held sb').length = H := ⟨_, rfl⟩
    obtain ⟨L, hL1⟩ : ∃ L, sb'.length = L := ⟨_, rfl⟩
    rw [hbl1, hH1, hL1] at hq' hCS'
    obtain ⟨d0, d1, d2, d3⟩ := sg_block hq'
    have HPU : Hid (∀ (V1 V4 : World) (vl' : Value), Below V.heap.size V V1 → V4.ownsRow w1'.heap.size 44 4 vl' (xs.length + 1) (flatS xs ++ CS.toList) → V1.grownBy V4 (Value.slice Av xs.length cv).ownBlock → _) := fun V1 V4 vl' hB hown hg => hFd.push hbl hBo hneB k1 k2 k3 k4 k5 hsp hxj hB (by rw [hCS]; exact hown) hg
    have hlen2 : xs.length ≤ 1000000 := by omega
    have HX := Lib.hid (show xs.length + 1 ≤ maxLen by unfold maxLen; omega)
    have HX2 := Lib.hid (show (xs.length + 1) * 48 ≤ 140737488355328 by omega)
    have kB := k1.cell
    have fB := k1.frozen
    have HK2 := Lib.hid k2
    have HVS := Lib.hid hVs
    have HJ := Lib.hid hjl
    have HCS := Lib.hid hCS'
    obtain ⟨i0, hi, hz0, hz1, hz2⟩ : ∃ i, Try.prog.info? 44 = some i ∧ i.zero = some (.agg (sgC (.slice none 0 0) false 0 0)) ∧ i.size = 4 ∧ i.bytes = 48 := by
      have := segInfo
      revert this
      generalize Try.prog.info? 44 = oi
      intro h
      cases oi with
      | none => cases h
      | some i => injection h with h; injection h with h1 h2; injection h2 with h2 h3; exact ⟨i, rfl, h1, h2, h3⟩
    clear hFd k1 k2 k3 k4 k5 hsp hxj hq hq' hpb hCS hCS' hjl hVs hbl1 hH1 hL1 hcv bL1 bS1 bB1 bL0
    gi_wp2_with (gi_at_builtin; refine wpListIn_append_own_at rfl (.tmp 11) (.tmp 13) 29 rfl w1'.heap.size 44 i0 (.agg (sgC (.slice none 0 0) false 0 0)) 4 48 Try.underlying29 hi hz0 hz1 hz2 rfl (by decide) _ xs.length (flatS xs) rfl (HK2.out.alloc _) ⟨V.heap.size, 0, none⟩ 1 1 CS.toList rfl ?c1 ?c2 ?c3 HX.out HX2.out ?c4 ?_)
    case c1 => rw [← HCS.out]; rfl
    case c2 =>
      intro j u hj
      rw [Addr.add_lit, Nat.zero_add, World.cell?_alloc_at _ _ _ _ rfl]
      rw [← HCS.out] at hj
      simpa [sgC] using hj
    case c3 => rw [← HCS.out]; intro u hu; simp [sgC] at hu; rcases hu with rfl | rfl | rfl | rfl <;> rfl
    case c4 => rw [World.size_alloc]; have := HVS.out; omega
    intro vl' V4 hown hg _
    obtain ⟨b4, f1, f2, f3⟩ := HPU.out _ V4 vl' ((Below.refl _ V).alloc (Nat.le_refl _) _) (by rw [hs1]; exact hown) hg
    obtain ⟨A4, c4, rfl, hc4⟩ := own_slice_le hown
    have kB4 := b4.cell
    have fB4 := b4.frozen
    have F1 := Lib.hid f1
    have F2 := Lib.hid f2
    have F3 := Lib.hid f3
    clear HPU f1 f2 f3 b4 hown hg
    gi_wp2_with fail
    exact ⟨F2.out, .inl ⟨by have := HJ.out; omega, F1.out, fun h => by omega⟩, F3.out _ (fun k hk => by rcases hk with h | h <;> omega)⟩
  case iter =>
    intro Bk X l V hBk hBlt hX hl2 hD hB hY
    rcases hD with ⟨_, hF, hsc⟩ | ⟨h, _⟩
    · have hsc := hsc rfl
      have hVs := hF.off.size
      have hkw : KeepS (fun k => k < w.heap.size ∧ k ≠ bs ∧ v0.ownBlock ≠ some k) w V := ⟨by omega, fun k hk => (hF.off.block k (by omega) (fun e => by
        rcases e with e | e | e
        · exact hk.2.1 e
        · omega
        · exact hk.2.2 e)).trans (hb01.block k hk.1)⟩
      have hbx : ∀ k v, w.heap.size < k → k < w1'.heap.size → w1'.cell? ⟨k, 0, none⟩ = some v → V.cell? ⟨k, 0, none⟩ = some v := fun k v h1 h2 h3 => hF.off.cell h3 (fun e => by
        rcases e with e | e | e
        · simp only at e; omega
        · simp only at e; omega
        · have := hown _ e; simp only at this; omega)
      have hSk : ∀ k, w.heap.size < k → k < w1'.heap.size → k < w1'.heap.size ∧ k ≠ bs ∧ v0.ownBlock ≠ some k ∧ k ≠ w.heap.size := fun k h1 h2 => ⟨h2, by omega, fun e => by have := hown k e; omega, by omega⟩
      refine (ended_in 8 (by omega) 7 l (w.heap.size + 1) (w.heap.size + 1 + 1) bs lo n c p (fun k => k < w1'.heap.size ∧ k ≠ bs ∧ v0.ownBlock ≠ some k ∧ k ≠ w.heap.size) V a zs now v0 hn hl hz hc hnp hp hsc (by omega) (fun k hk => ⟨by omega, hk.2.1, hk.2.2.1⟩)
        (hbx _ _ (by omega) (by omega) bS1.cell) (hbx _ _ (by omega) (by omega) bB1.cell) (hSk _ (by omega) (by omega)) ((hN.keeps hkw).more fun k hk => ⟨by omega, hk.2.1, hk.2.2, by omega⟩)
        (fun j V => Fd w1' bs w.heap.size (FQ lo w.heap.size v0.ownBlock) v0.ownBlock SG j V ∧ Bk V) X (fun j W W' hj ht => ⟨hj.1.tn hbl hneB h0g ht, hBk _ _ hj.2 ht.off.size (fun k h1 h2 => ht.off.block k (by have := hBlt _ hj.2; omega) (fun e => by
          rcases e with e | ⟨_, e⟩
          · omega
          · have := hown _ e; omega))⟩)
        (fun j x v W hj hk hx hs he hfr => ?_) ⟨hF, hB⟩).mono ?_
      · rw [hSG] at hx
        have hjl : j < SG.length := by
          rcases Nat.lt_or_ge j SG.length with h | h
          · exact h
          · rw [List.getElem?_eq_none h] at hx; cases hx
        refine (hY j (x, v) W ⟨hj.1, hx, he, hs.ownS, fun g hg => by
          rcases hfr g hg with h | h
          · exact .inl (by omega)
          · exact .inr h⟩ hj.2 (by omega)).mono ?_
        rintro e V2 (⟨rfl, ⟨hd, hb2⟩, hkk, _⟩ | ⟨rfl, hx, _⟩)
        · refine .inl ⟨rfl, ⟨?_, hb2⟩, hkk⟩
          rcases hd with ⟨_, h2, _⟩ | ⟨h1, _⟩
          · exact h2
          · omega
        · exact .inr ⟨rfl, hx⟩
      · rintro e W' ⟨hv, h⟩
        refine ⟨hv, ?_⟩
        rw [hSG] at h
        rcases h with ⟨v, h1, h2, _⟩ | h
        · exact .inl ⟨.inr ⟨rfl, h2.1, v, h1⟩, h2.2⟩
        · exact .inr h
    · omega
  case done =>
    rintro D V hD hDn hK
    rcases hDn with ⟨h, _⟩ | ⟨_, hF, v, hsc⟩
    · omega
    · have hF2 := hF.putObj (o' := .deferred none) hbl hD hK rfl
      have hsc2 := hsc.same (same_put (o' := .deferred none) hK rfl)
      obtain ⟨A, cA, xs, k1, k2, k3, k4, k5, k6⟩ := hF2.told (w := w) hsc2 hbl (fun g hg => ⟨by omega, .inl (by omega)⟩) hb01 (Nat.le_refl _) rfl
      have kB : V.cell? ⟨w.heap.size, 0, none⟩ = some (.slice A xs.length cA) := (World.cell?_of_block (a := ⟨w.heap.size, 0, none⟩) (show (V.putObj D (.deferred none)).heap[w.heap.size]? = V.heap[w.heap.size]? from World.putObj_heap_other (by omega))).symm.trans k1.cell
      have hfin : FeedR w bs lo v0 p n now zs (.returned (.slice A xs.length cA)) (V.putObj D (.deferred none)) := ⟨A, cA, xs, v, rfl, k2, by rw [k3, List.take_length, hSG], k4, k5, k6⟩
      have HF := Lib.hid hfin
      clear hF hsc hF2 hsc2 k1 k2 k3 k4 k5 k6 hfin bL1 bS1 bB1 bL0
      gi_wp2_with fail
      refine ⟨by simp, .inl ⟨_, _, rfl, run_takeDeferred hK, ?_⟩⟩
      refine ⟨_, results_tmp rfl _ _ _, ?_⟩
      exact HF.out
  case stop =>
    rintro D cd V _ h _
    exact h.elim
end Go.Proofs.Ytcfgemdpnbimoaa

namespace Go.Proofs.Ytcfgemdpnbimoaa
open Go.RowKit Go.Shelf
set_option maxRecDepth 100000

/-- segments that are the same -/
theorem seg1_same (B : Nat) (A1 A2 : Option Addr) (h c1 c2 : Nat) (bl : Bool) (l p : Int) (hs : List Int) (w : World) (hh : hs.length = h) (hz : Bytes hs) (h1 : Nums .u8 w B A1 hs) (h2 : Nums .u8 w B A2 hs) (hB : B ≤ w.heap.size) :
    Calls Try.prog 24 #[.agg (sgC (.slice A1 h c1) bl l p), .agg (sgC (.slice A2 h c2) bl l p)] w fun e w' => e = .returned (.bool true) ∧ Below w.heap.size w w' := by
  obtain ⟨w0, hw0⟩ : ∃ w0, (w.alloc (.cells (sgC (.slice A1 h c1) bl l p) 44)).alloc (.cells (sgC (.slice A2 h c2) bl l p) 44) = w0 := ⟨_, rfl⟩
  have hb : Below w.heap.size w w0 := by rw [← hw0]; exact ((Below.refl _ w).alloc (Nat.le_refl _) _).alloc (by simp) _
  have E := equal_any B A1 A2 h c1 h c2 hs hs w0 hh hh hz hz (h1.below (hb.mono hB)) (h2.below (hb.mono hB))
  rw [decide_eq_true rfl] at E
  have k1 : w0.heap[w.heap.size]? = some (.cells (sgC (.slice A1 h c1) bl l p) 44 (0, 0)) := by
    rw [← hw0]; exact (Below.heap_alloc _ _ _ (by simp)).trans (World.alloc_heap_new _ _)
  have k2 : w0.heap[w.heap.size + 1]? = some (.cells (sgC (.slice A2 h c2) bl l p) 44 (0, 0)) := by
    rw [← hw0]
    have := World.alloc_heap_new (w.alloc (.cells (sgC (.slice A1 h c1) bl l p) 44)) (.cells (sgC (.slice A2 h c2) bl l p) 44)
    rwa [World.size_alloc] at this
  obtain ⟨d0, d1, d2, d3⟩ := sg_block k1
  obtain ⟨e0, e1, e2, e3⟩ := sg_block k2
  have HB := Lib.hid hb
  have HW := Lib.hid hw0
  unfold sgC at HW ⊢
  clear hb hw0 k1 k2 h1 h2
  go_enter Try.func24, Try.ntmps24
  go_wp2_with (go_at_call 25; rw [HW.out]; refine E.mono ?_; rintro e w1 ⟨rfl, rfl⟩)
  go_ret
  exact ⟨by simp, HB.out⟩
/-- the same segments, of whichever place in memory -/
theorem SgsAt.at {w : World} {S : Nat → Prop} {A : Option Addr} {xs : List Sg} (h : SgsAt w S A xs) {j : Nat} {x : Sg} (hx : xs[j]? = some x) : ∃ b off, A = some ⟨b, off, none⟩ ∧ S b ∧
    w.cell? ⟨b, off + j * 4, none⟩ = some (.slice x.a (held x.b).length x.cp) ∧ w.cell? ⟨b, off + j * 4 + 1, none⟩ = some (.bool (decide (255 < x.b.length))) ∧ w.cell? ⟨b, off + j * 4 + 2, none⟩ = some (.int .i64 x.b.length) ∧ w.cell? ⟨b, off + j * 4 + 3, none⟩ = some (.int .u64 x.p) ∧ NumsS .u8 w S x.a (held x.b) ∧ (held x.b).length ≤ x.cp := by
  obtain ⟨b, off, e, hb, hc, hl, hn⟩ := h j x hx
  exact ⟨b, off, e, hb, hc 0 _ rfl, hc 1 _ rfl, hc 2 _ rfl, hc 3 _ rfl, hn, hl⟩
set_option maxHeartbeats 4000000 in
theorem eqf_any (B : Nat) (A1 A2 : Option Addr) (n c1 c2 : Nat) (S1 S2 : Nat → Prop) (xs ys : List Sg) (w : World) (hn1 : xs.length = n) (hl1 : n ≤ c1) (hl2 : n ≤ c2) (hn : n ≤ 1000000) (he : xs.map Sg.pb = ys.map Sg.pb) (hz : ∀ x ∈ xs, Bytes x.b) (h1 : SgsAt w S1 A1 xs) (h2 : SgsAt w S2 A2 ys) (hS1 : ∀ k, S1 k → k < B) (hS2 : ∀ k, S2 k → k < B) (hB : B ≤ w.heap.size) :
    Calls Try.prog 23 #[.slice A1 n c1, .slice A2 n c2, .func (.func 24) #[] #[]] w fun e w' => e = .returned (.bool true) ∧ Below w.heap.size w w' := by
  have HL := Lib.hid hn1
  have HE := Lib.hid he
  clear hn1 he
  go_enter Try.func23, Try.ntmps23
  go_wp2
  go_loopw [17] (fun v wr => ∃ k : Nat, k ≤ n ∧ v = .int .i64 (k : Int) ∧ Hid (Below w.heap.size w wr)) (fun v _ => n - (intOf v).toNat)
  case atStart => exact ⟨0, by omega, rfl, Below.refl _ _⟩
  case round =>
    obtain ⟨k, hk, rfl, HBe⟩ := hrel
    by_cases hlt : k < n
    · obtain ⟨x, hx⟩ : ∃ x, xs[k]? = some x := ⟨_, List.getElem?_eq_getElem (by rw [HL.out]; exact hlt)⟩
      obtain ⟨y, hy, hxy⟩ : ∃ y, ys[k]? = some y ∧ y.pb = x.pb := by
        have h3 := congrArg (·[k]?) HE.out
        simp only [List.getElem?_map, hx, Option.map_some] at h3
        cases hy : ys[k]? with
        | none => rw [hy] at h3; cases h3
        | some y => rw [hy] at h3; injection h3 with h3; exact ⟨y, rfl, h3.symm⟩
      obtain ⟨xa, xc, xp, xb⟩ := x
      obtain ⟨ya, yc, yp, yb⟩ := y
      obtain ⟨rfl, rfl⟩ : yp = xp ∧ yb = xb := by simpa [Sg.pb] using hxy
      have hbe := HBe.out
      have hzx := hz _ (List.mem_of_getElem? hx)
      simp only at hzx
      obtain ⟨b1, o1, rfl, hb1, d0, d1, d2, d3, hnx, _⟩ := h1.at hx
      obtain ⟨b2, o2, rfl, hb2, e0, e1, e2, e3, hny, _⟩ := h2.at hy
      have hbb1 := hS1 _ hb1
      have hbb2 := hS2 _ hb2
      obtain ⟨H, hH⟩ : ∃ H, (held yb).length = H := ⟨_, rfl⟩
      obtain ⟨bl, hbl⟩ : ∃ bl, decide (255 < yb.length) = bl := ⟨_, rfl⟩
      obtain ⟨L, hL⟩ : ∃ L, yb.length = L := ⟨_, rfl⟩
      simp only [hH, hbl] at d0 d1 e0 e1
      simp only [hL] at d2 e2
      have g0 := (hbe.cell (p := ⟨b1, o1 + k * 4, none⟩) (by simp only; omega)).trans d0
      have g1 := (hbe.cell (p := ⟨b1, o1 + k * 4 + 1, none⟩) (by simp only; omega)).trans d1
      have g2 := (hbe.cell (p := ⟨b1, o1 + k * 4 + 2, none⟩) (by simp only; omega)).trans d2
      have g3 := (hbe.cell (p := ⟨b1, o1 + k * 4 + 3, none⟩) (by simp only; omega)).trans d3
      have k0 := (hbe.cell (p := ⟨b2, o2 + k * 4, none⟩) (by simp only; omega)).trans e0
      have k1 := (hbe.cell (p := ⟨b2, o2 + k * 4 + 1, none⟩) (by simp only; omega)).trans e1
      have k2 := (hbe.cell (p := ⟨b2, o2 + k * 4 + 2, none⟩) (by simp only; omega)).trans e2
      have k3 := (hbe.cell (p := ⟨b2, o2 + k * 4 + 3, none⟩) (by simp only; omega)).trans e3
      have hsz := hbe.size
      have SM : ∀ V, Below wr.heap.size wr V → Calls Try.prog 24 #[.agg #[.slice xa H xc, .bool bl, .int .i64 (L : Int), .int .u64 (yp : Int)], .agg #[.slice ya H yc, .bool bl, .int .i64 (L : Int), .int .u64 (yp : Int)]] V fun e w' => e = .returned (.bool true) ∧ Below V.heap.size V w' := fun V hV =>
        seg1_same B xa ya H xc yc bl L yp (held yb) V hH (held_bytes hzx) (((hnx.nums hS1).below (hbe.mono hB)).below (hV.mono (by omega))) (((hny.nums hS2).below (hbe.mono hB)).below (hV.mono (by omega))) (by have := hV.size; omega)
      have HS := Lib.hid SM
      have hlt' : (k : Int) < (n : Int) := by omega
      have hlb1 : b1 < wr.heap.size := by omega
      have hlb2 : b2 < wr.heap.size := by omega
      have hbA : Below wr.heap.size wr (wr.alloc (.cells #[.slice xa H xc, .bool bl, .int .i64 (L : Int), .int .u64 (yp : Int)] 44)) := (Below.refl _ _).alloc (Nat.le_refl _) _
      have m0 := (hbA.cell (p := ⟨b2, o2 + k * 4, none⟩) hlb2).trans k0
      have m1 := (hbA.cell (p := ⟨b2, o2 + k * 4 + 1, none⟩) hlb2).trans k1
      have m2 := (hbA.cell (p := ⟨b2, o2 + k * 4 + 2, none⟩) hlb2).trans k2
      have m3 := (hbA.cell (p := ⟨b2, o2 + k * 4 + 3, none⟩) hlb2).trans k3
      clear hbA d0 d1 d2 d3 e0 e1 e2 e3 hnx hny SM hx hy hxy hH hbl hL hbe
      go_wp2_with (go_at_call 24; refine (HS.out _ (((Below.refl _ _).alloc (Nat.le_refl _) _).alloc (by simp) _)).mono ?_; rintro e w1 ⟨rfl, hb9⟩; have HB9 := Lib.hid hb9; clear hb9)
      go_roundw
      case rel =>
        have h9 := HB9.out
        rw [World.size_alloc, World.size_alloc] at h9
        exact ⟨k + 1, by omega, by go_num, HBe.out.trans (((((Below.refl wr.heap.size wr).alloc (Nat.le_refl _) _).alloc (by simp) _).trans (h9.mono (by omega))).mono HBe.out.size)⟩
      case measure => simp [intOf]; omega
    · have hkn : k = n := by omega
      subst hkn
      have hB2 := HBe.out
      go_wp2
      go_ret
      exact ⟨rfl, hB2⟩
theorem ssame_any (B : Nat) (A1 A2 : Option Addr) (n c1 c2 : Nat) (S1 S2 : Nat → Prop) (xs ys : List Sg) (w : World) (hn1 : xs.length = n) (hl1 : n ≤ c1) (hl2 : n ≤ c2) (hn : n ≤ 1000000) (he : xs.map Sg.pb = ys.map Sg.pb) (hz : ∀ x ∈ xs, Bytes x.b) (h1 : SgsAt w S1 A1 xs) (h2 : SgsAt w S2 A2 ys) (hS1 : ∀ k, S1 k → k < B) (hS2 : ∀ k, S2 k → k < B) (hB : B ≤ w.heap.size) :
    Calls Try.prog 12 #[.slice A1 n c1, .slice A2 n c2] w fun e w' => e = .returned (.bool true) ∧ Below w.heap.size w w' := by
  have E := eqf_any B A1 A2 n c1 c2 S1 S2 xs ys w hn1 hl1 hl2 hn he hz h1 h2 hS1 hS2 hB
  clear h1 h2 hz he hn1
  go_enter Try.func12, Try.ntmps12
  go_wp2_with (go_at_call 23; refine E.mono ?_; rintro e w1 ⟨rfl, hb⟩)
  go_ret
  exact ⟨rfl, hb⟩
end Go.Proofs.Ytcfgemdpnbimoaa

namespace Go.Proofs.Ytcfgemdpnbimoaa
open Go.RowKit
set_option maxRecDepth 100000

/-- Same, of lists that are the same -/
theorem same_eq (B : Nat) (a1 a2 : Option Addr) (c1 c2 : Nat) (zs : List Int) (w : World) (hl : zs.length ≤ 9223372036854775807) (h1 : Nums .u8 w B a1 zs) (h2 : Nums .u8 w B a2 zs) :
    Calls Try.prog 27 #[.slice a1 zs.length c1, .slice a2 zs.length c2] w fun e w' => e = .returned (.bool true) ∧ ∃ n, w' = w.drewN n := by
  go_enter Try.func27, Try.ntmps27
  go_wp2
  go_loopw [5] (fun i wr => ∃ k : Nat, k ≤ zs.length ∧ i = .int .i64 k ∧ ∃ n, wr = w.drewN n) (fun i _ => zs.length - (intOf i).toNat)
  case atStart => exact ⟨0, by omega, rfl, 0, rfl⟩
  case round =>
    obtain ⟨k, hk, rfl, n, rfl⟩ := hrel
    by_cases hlt : k < zs.length
    · obtain ⟨c, hc⟩ : ∃ c, zs[k]? = some c := ⟨_, List.getElem?_eq_getElem hlt⟩
      obtain ⟨b1, o1, rfl, hb1, hc1⟩ := h1.open hc
      obtain ⟨b2, o2, rfl, hb2, hc2⟩ := h2.open hc
      clear h1 h2 hc
      have hlt' : (k : Int) < (zs.length : Int) := by omega
      go_wp2
      go_quiet (fail)
      go_wp2
      go_roundw
      case rel => exact ⟨k + 1, by omega, by go_num, _, rfl⟩
      case measure => simp [intOf]; omega
    · go_wp2
      go_ret
      exact ⟨rfl, n, rfl⟩

theorem same_len (B : Nat) (a1 a2 : Option Addr) (n1 n2 c1 c2 : Nat) (x y : List Int) (w : World) (hxy : x = y) (hn1 : x.length = n1) (hn2 : y.length = n2) (hl : n1 ≤ 9223372036854775807) (h1 : Nums .u8 w B a1 x) (h2 : Nums .u8 w B a2 y) :
    Calls Try.prog 27 #[.slice a1 n1 c1, .slice a2 n2 c2] w fun e w' => e = .returned (.bool true) ∧ ∃ n, w' = w.drewN n := by
  subst hxy hn1 hn2; exact same_eq B a1 a2 c1 c2 x w hl h1 h2

end Go.Proofs.Ytcfgemdpnbimoaa

namespace Go.Proofs.Ytcfgemdpnbimoaa
open Go.RowKit
set_option maxRecDepth 100000

theorem same_lens (a1 a2 : Option Addr) (n1 n2 c1 c2 : Nat) (w : World) (h : n1 ≠ n2) :
    Calls Try.prog 27 #[.slice a1 n1 c1, .slice a2 n2 c2] w fun e w' => e = .returned (.bool false) ∧ ∃ n, w' = w.drewN n := by
  have h2 : ((n1 : Int) != (n2 : Int)) = true := by simp; omega
  have h3 : ¬ (n1 : Int) = (n2 : Int) := by omega
  go_enter Try.func27, Try.ntmps27
  go_wp2
  go_ret
  exact ⟨rfl, 0, rfl⟩

/-- Same of any two lists -/
theorem same_any (B : Nat) (a1 a2 : Option Addr) (n1 n2 c1 c2 : Nat) (xs ys : List Int) (w : World) (e1 : xs.length = n1) (e2 : ys.length = n2) (l1 : n1 ≤ 9223372036854775807) (h1 : Nums .u8 w B a1 xs) (h2 : Nums .u8 w B a2 ys) :
    Calls Try.prog 27 #[.slice a1 n1 c1, .slice a2 n2 c2] w fun e w' => e = .returned (.bool (decide (xs = ys))) ∧ ∃ n, w' = w.drewN n := by
  by_cases hl : n1 = n2
  · subst hl
    have HE1 := Lib.hid e1
    have HE2 := Lib.hid e2
    clear e1 e2
    go_enter Try.func27, Try.ntmps27
    go_wp2
    go_loopw [5] (fun i wr => ∃ k : Nat, k ≤ n1 ∧ i = .int .i64 k ∧ Hid (xs.take k = ys.take k) ∧ ∃ n, wr = w.drewN n) (fun i _ => n1 - (intOf i).toNat)
    case atStart => exact ⟨0, by omega, rfl, rfl, 0, rfl⟩
    case round =>
      obtain ⟨k, hk, rfl, HT, n, rfl⟩ := hrel
      by_cases hlt : k < n1
      · obtain ⟨x, hx⟩ : ∃ x, xs[k]? = some x := ⟨_, List.getElem?_eq_getElem (by rw [HE1.out]; exact hlt)⟩
        obtain ⟨y, hy⟩ : ∃ y, ys[k]? = some y := ⟨_, List.getElem?_eq_getElem (by rw [HE2.out]; exact hlt)⟩
        obtain ⟨b1, o1, rfl, hb1, hc1⟩ := h1.open hx
        obtain ⟨b2, o2, rfl, hb2, hc2⟩ := h2.open hy
        have HX := Lib.hid hx
        have HY := Lib.hid hy
        clear h1 h2 hx hy
        have hlt' : (k : Int) < (n1 : Int) := by omega
        by_cases hxy : x = y
        · have hq : (x != y) = false := by simp [hxy]
          have HQ : Hid (xs.take (k + 1) = ys.take (k + 1)) := by
            show _ = _
            rw [List.take_add_one, List.take_add_one, HT.out, HX.out, HY.out, hxy]
          subst hxy
          go_wp2
          go_quiet (fail)
          go_wp2
          go_roundw
          case rel => exact ⟨k + 1, by omega, by go_num, HQ, _, rfl⟩
          case measure => simp [intOf]; omega
        · have hq : (x != y) = true := by simp [hxy]
          have HQ : Hid (¬ xs = ys) := fun e => hxy (by
            have h3 := HX.out
            rw [e, HY.out] at h3
            exact (Option.some.inj h3).symm)
          have HN := Lib.hid hxy
          clear hxy
          go_wp2
          go_quiet (fail)
          go_wp2
          go_ret
          exact ⟨by rw [decide_eq_false HQ.out]; rfl, n + nq, by simp [World.drewN, Nat.add_assoc]⟩
      · have hk' : k = n1 := by omega
        have HQ : Hid (xs = ys) := by
          have h3 := HT.out
          rw [List.take_of_length_le (by rw [HE1.out]; omega), List.take_of_length_le (by rw [HE2.out]; omega)] at h3
          exact h3
        go_wp2
        go_ret
        exact ⟨by rw [decide_eq_true HQ.out]; rfl, n, rfl⟩
  · refine (same_lens a1 a2 n1 n2 c1 c2 w hl).mono ?_
    rintro e w' ⟨rfl, hd⟩
    exact ⟨by rw [decide_eq_false (fun e => hl (by rw [← e1, ← e2, e]))], hd⟩
end Go.Proofs.Ytcfgemdpnbimoaa

namespace Go.Proofs.Ytcfgemdpnbimoaa
open Go.RowKit Go.Shelf
set_option maxRecDepth 100000

/-- a literal's bytes, new -/
theorem lit_nums {w : World} {b : Nat} {own : Option Nat} (zs : List Int) (cs : Array Value) (h : cs = (zs.map (Value.int .u8)).toArray) (hb : b < w.heap.size) (ho : ∀ g, own = some g → g < w.heap.size) :
    NumsS .u8 (w.alloc (.cells cs 5)) (fun k => k < (w.alloc (.cells cs 5)).heap.size ∧ k ≠ b ∧ own ≠ some k) (some ⟨w.heap.size, 0, none⟩) zs := fun h0 => by
  obtain ⟨b1, o1, e, _, hc⟩ := Nums.new .u8 w 5 zs cs h h0
  injection e with e
  injection e with e1 e2
  subst e1 e2
  exact ⟨_, _, rfl, ⟨by simp, by omega, fun e => by have := ho _ e; omega⟩, hc⟩
theorem pb_nil {xs : List Sg} (h : xs.map Sg.pb = []) : xs = [] := by simpa using h
theorem pb_two {xs : List Sg} {x y : Nat × List Int} (h : xs.map Sg.pb = [x, y]) : ∃ a1 c1 a2 c2, xs = [⟨a1, c1, x.1, x.2⟩, ⟨a2, c2, y.1, y.2⟩] := by
  match xs, h with
  | [⟨a1, c1, p1, b1⟩, ⟨a2, c2, p2, b2⟩], h =>
    simp [Sg.pb] at h
    obtain ⟨h1, h2⟩ := h
    subst h1 h2
    exact ⟨a1, c1, a2, c2, rfl⟩
/-- what a turn of the scanner leaves below lo -/
theorem ScTo.below {w w' : World} {b lo p : Nat} {v v' : Value} {now n0 : List Int} {p0 : Nat} (h : ScTo w w' b lo v v' p now) (h0 : ScanAt w b lo v p0 n0) (hb : lo ≤ b) (hl : lo ≤ w.heap.size) : Below lo w w' :=
  h.off.below (fun k hk => by
    rcases hk with hk | hk
    · omega
    · exact (h0.own.lt k hk).1) hl
set_option maxHeartbeats 4000000 in
theorem scknown_any (w : World) : Calls Try.prog 17 #[] w fun e w' => e = .returned (.bool true) ∧ Below w.heap.size w w' := by
  go_enter Try.func17, Try.ntmps17
  go_wp2_with fail
  refine (snew_any w).mono ?_
  rintro e w1 ⟨rfl, hat, hb1, hs1⟩
  go_wp2_with fail
  obtain ⟨w2, hw2⟩ : ∃ w2, w1.alloc (.cells #[.int .u8 5, .int .u8 6] 5) = w2 := ⟨_, rfl⟩
  have hb2 : Below w1.heap.size w1 w2 := by rw [← hw2]; exact (Below.refl _ _).alloc (Nat.le_refl _) _
  have hs2 : w2.heap.size = w.heap.size + 2 := by rw [← hw2]; simp [hs1]
  have hn2 : NumsS .u8 w2 (fun k => k < w2.heap.size ∧ k ≠ w.heap.size ∧ (Value.slice none 0 0).ownBlock ≠ some k) (some ⟨w.heap.size + 1, 0, none⟩) [5, 6] := by
    rw [← hw2, ← hs1]; exact lit_nums (b := w.heap.size) (own := none) [5, 6] _ rfl (by omega) (fun g hg => by cases hg)
  have hat2 := hat.below hb2
  rw [hw2]
  refine (feed_any hat2 (by omega) (some ⟨w.heap.size + 1, 0, none⟩) 2 2 [5, 6] rfl (by omega) (by omega) (fun z hz => by simp at hz; omega) (by simp) (by omega) hn2).mono ?_
  rintro e w3 ⟨A, c, xs, v, rfl, _, hm, hto, _, _⟩
  have hx0 := pb_nil (hm.trans (by simp [Fc.scan]))
  subst hx0
  have hop : Fc.opn [] [5, 6] = [5, 6] := by simp [Fc.opn]
  rw [hop] at hto
  have hb23 := hto.below hat2 (Nat.le_refl _) (by omega)
  have hb3 := (hb1.trans (hb2.mono (by omega))).trans hb23
  have hs3 := hto.off.size
  have hat3 := hto.at'
  simp only [List.length_nil]
  have HAT := Lib.hid hat3
  have HB3 := Lib.hid hb3
  clear hw2 hn2 hat2 hto hm hop hb23 hb2 hat hb1 hat3 hb3
  go_wp2_with fail
  obtain ⟨w4, hw4⟩ : ∃ w4, w3.alloc (.cells #[.int .u8 0, .int .u8 7, .int .u8 0] 5) = w4 := ⟨_, rfl⟩
  have hb4 : Below w3.heap.size w3 w4 := by rw [← hw4]; exact (Below.refl _ _).alloc (Nat.le_refl _) _
  have hat3 := HAT.out
  have hn4 : NumsS .u8 w4 (fun k => k < w4.heap.size ∧ k ≠ w.heap.size ∧ v.ownBlock ≠ some k) (some ⟨w3.heap.size, 0, none⟩) [0, 7, 0] := by
    rw [← hw4]; exact lit_nums [0, 7, 0] _ rfl (by omega) (fun g hg => (hat3.own.lt g hg).2)
  have hs4 := hb4.size
  have hat4 := hat3.below hb4
  rw [hw4]
  refine (feed_any hat4 (by omega) (some ⟨w3.heap.size, 0, none⟩) 3 3 [0, 7, 0] rfl (by omega) (by omega) (fun z hz => by simp at hz; omega) (by simp) (by omega) hn4).mono ?_
  rintro e w5 ⟨A, c, xs, v', rfl, hc5, hm, hto, hsg, _⟩
  have hsc : Fc.scan (0 + 2) [5, 6] [0, 7, 0] = [(0, [5, 6]), (3, [7])] := by simp [Fc.scan]
  obtain ⟨a1, c1, a2, c2, rfl⟩ := pb_two (hm.trans hsc)
  have hb45 := hto.below hat4 (Nat.le_refl _) (by omega)
  have hb5 := HB3.out.trans ((hb4.mono (by omega)).trans hb45)
  have hs5 := hb5.size
  obtain ⟨g, o, rfl, hg, d0, d1, d2, d3, n1, _⟩ := SgsAt.at hsg (j := 0) rfl
  obtain ⟨g', o', e', hg', e0, e1, e2, e3, n2, _⟩ := SgsAt.at hsg (j := 1) rfl
  injection e' with e'
  injection e' with e5 e6
  subst e5 e6
  rw [show held [5, 6] = [5, 6] from rfl] at d0 n1
  rw [show held [7] = [7] from rfl] at e0 n2
  simp only [List.length_cons, List.length_nil, Nat.zero_mul, Nat.add_zero, Nat.reduceAdd, Nat.one_mul] at d0 d1 d2 d3 e0 e1 e2 e3 hc5 ⊢
  have HB5 := Lib.hid hb5
  have m1 := n1.nums (B := w5.heap.size) (fun k hk => hk.2.1)
  have m2 := n2.nums (B := w5.heap.size) (fun k hk => hk.2.1)
  clear hto hsg hat4 hat3 hn4 hw4 hb4 hb45 hm hsc n1 n2 HAT HB3 hb5
  have hgl := hg.2.1
  obtain ⟨w6, hw6⟩ : ∃ w6, w5.alloc (.cells #[.int .u8 5, .int .u8 6] 5) = w6 := ⟨_, rfl⟩
  have hb6 : Below w5.heap.size w5 w6 := by rw [← hw6]; exact (Below.refl _ _).alloc (Nat.le_refl _) _
  have l1 : Nums .u8 w6 w6.heap.size (some ⟨w5.heap.size, 0, none⟩) [5, 6] := by rw [← hw6, World.size_alloc]; exact Nums.new .u8 w5 5 [5, 6] _ rfl
  have S1 := same_len w6.heap.size a1 (some ⟨w5.heap.size, 0, none⟩) 2 2 c1 2 [5, 6] [5, 6] w6 rfl rfl rfl (by omega) ((m1.below hb6).mono hb6.size) l1
  rw [show ((0 : Nat) : Int) = 0 from rfl] at d3
  rw [show ((3 : Nat) : Int) = 3 from rfl] at e3
  rw [show ((1 : Nat) : Int) = 1 from rfl] at e2
  have HC7 : Hid (∀ w7, (∃ n, w7 = w6.drewN n) → Below w5.heap.size w5 w7 ∧ w7.cell? ⟨g, o + 3, none⟩ = some (.int .u64 0) ∧ w7.cell? ⟨g, o + 4, none⟩ = some (.slice a2 1 c2) ∧ w7.cell? ⟨g, o + 4 + 2, none⟩ = some (.int .i64 1) ∧ w7.cell? ⟨g, o + 4 + 3, none⟩ = some (.int .u64 3)) := by
    rintro w7 ⟨n, rfl⟩
    have hb := below_drewN hb6 n
    exact ⟨hb, (hb.cell (p := ⟨g, o + 3, none⟩) hgl).trans d3, (hb.cell (p := ⟨g, o + 4, none⟩) hgl).trans e0, (hb.cell (p := ⟨g, o + 4 + 2, none⟩) hgl).trans e2, (hb.cell (p := ⟨g, o + 4 + 3, none⟩) hgl).trans e3⟩
  have HW6 := Lib.hid hw6
  have HB6 := Lib.hid hb6
  clear hw6 hb6 l1 m1 d1 d2 d3 e0 e1 e2 e3
  go_wp2_with fail
  rw [HW6.out]
  refine S1.mono ?_
  rintro e w7 ⟨rfl, hw7⟩
  obtain ⟨hb7, d3, e0, e2, e3⟩ := HC7.out w7 hw7
  have hgl7 : g < w7.heap.size := by have := hb7.size; omega
  obtain ⟨w8, hw8⟩ : ∃ w8, w7.alloc (.cells #[.int .u8 7] 5) = w8 := ⟨_, rfl⟩
  have hb8 : Below w7.heap.size w7 w8 := by rw [← hw8]; exact (Below.refl _ _).alloc (Nat.le_refl _) _
  have hb58 := hb7.trans (hb8.mono hb7.size)
  have l2 : Nums .u8 w8 w8.heap.size (some ⟨w7.heap.size, 0, none⟩) [7] := by rw [← hw8, World.size_alloc]; exact Nums.new .u8 w7 5 [7] _ rfl
  have S2 := same_len w8.heap.size a2 (some ⟨w7.heap.size, 0, none⟩) 1 1 c2 1 [7] [7] w8 rfl rfl rfl (by omega) ((m2.below hb58).mono hb58.size) l2
  have HC9 : Hid (∀ w9, (∃ n, w9 = w8.drewN n) → Below w5.heap.size w5 w9 ∧ w9.cell? ⟨g, o + 4 + 2, none⟩ = some (.int .i64 1) ∧ w9.cell? ⟨g, o + 4 + 3, none⟩ = some (.int .u64 3)) := by
    rintro w9 ⟨n, rfl⟩
    have hb := below_drewN hb8 n
    exact ⟨hb7.trans (hb.mono hb7.size), (hb.cell (p := ⟨g, o + 4 + 2, none⟩) hgl7).trans e2, (hb.cell (p := ⟨g, o + 4 + 3, none⟩) hgl7).trans e3⟩
  have HW8 := Lib.hid hw8
  clear hw8 hb8 hb58 l2 m2 hb7 hw7
  go_wp2_with fail
  rw [HW8.out]
  refine S2.mono ?_
  rintro e w9 ⟨rfl, hw9⟩
  obtain ⟨hb9, e2, e3⟩ := HC9.out w9 hw9
  have HB9 := Lib.hid (HB5.out.trans (hb9.mono hs5))
  clear hb9 hw9 HC9 HC7
  go_wp2_with fail
  go_ret
  exact ⟨rfl, HB9.out⟩
end Go.Proofs.Ytcfgemdpnbimoaa
