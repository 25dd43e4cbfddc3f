/-
  A part of the texts of one proof, put together: TabA, SloB, TabK, SloP, TabO, FrV, SloQ, FrM, TabR, CutN, CutC, KpA, SloU, CutD, CutG, TabS, TabT, RhC, SerK, SerB, Q12.
-/
import Derived.Maps.AppendAt
import Derived.Deep.MidRow
import Derived.Test.YtfdbcfkjablnkaaGreatRows
import Derived.WalkLawsBesides
import Derived.WalkMore
import Derived.Lib.Hide
import Derived.Lib.MinMax
import Derived.Test.YtfdbcfkjablnkaaGreatMPPlaysProof3
namespace Go.Proofs.YtfdbcfkjablnkaaGreat
open Go.RowKit Go.Shelf
set_option maxRecDepth 100000

/-- what is told of a frame, as a value -/
def outC (A : Option Addr) (n cp : Nat) (wh ev : Bool) (old : Int) : Array Value := #[.slice A n cp, .bool wh, .bool ev, .int .u32 old]
def outV (A : Option Addr) (n cp : Nat) (wh ev : Bool) (old : Int) : Value := .agg (outC A n cp wh ev old)
theorem outInfo : (Tryz.prog.info? 54).map (·.size) = some 4 := by kernel_rfl
theorem out_one (A : Option Addr) (n cp : Nat) (wh ev : Bool) (old : Int) : (outC A n cp wh ev old).all (·.oneCell') = true := by simp [outC, Value.oneCell']
theorem out_block {W : World} {g : Nat} {A : Option Addr} {n cp : Nat} {wh ev : Bool} {old : Int} {t : TypeId} (h : W.heap[g]? = some (.cells (outC A n cp wh ev old) t (0, 0))) :
    W.cell? ⟨g, 0, none⟩ = some (.slice A n cp) ∧ W.cell? ⟨g, 1, none⟩ = some (.bool wh) ∧ W.cell? ⟨g, 2, none⟩ = some (.bool ev) ∧ W.cell? ⟨g, 3, none⟩ = some (.int .u32 old) := by
  refine ⟨?_, ?_, ?_, ?_⟩ <;> simp [World.cell?, h, outC]
section
variable {w w' : World} {S S' : Nat → Prop} {b r m n cp : Nat} {A : Option Addr} {X : List Sx}
/-- the table behind a new slot's coming -/
theorem TblAt.added {w1 w3 w5 : World} {y : Sx} {A' : Option Addr} {cp' : Nat} (h : TblAt w1 S b r m A n cp X) (hn : n < r) (hy : y.At w1) (hk : ∀ x ∈ X, x.s ≠ y.s) (hSy : S y.m) (hym : y.m ≠ m) (hyX : ∀ x ∈ X, x.m ≠ y.m)
    (hown : w3.ownsRow 0 22 1 (.slice A' (n + 1) cp') (n + 1) ((X.map Sx.s).map (Value.int .u32) ++ [.int .u32 y.s])) (hg : (w1.alloc (.cells #[.int .u32 y.s] 22)).grownBy w3 (Value.slice A n cp).ownBlock)
    (hat : (Value.slice A' (n + 1) cp').ownBlock = (Value.slice A n cp).ownBlock ∨ (Value.slice A' (n + 1) cp').ownBlock = some (w1.heap.size + 1))
    (hmap : TMapAt w5 m (X.map Sx.key ++ [y.key])) (ho5 : Off (fun q => q = m) (w3.setCell ⟨b, 1, none⟩ (.slice A' (n + 1) cp')) w5) :
    TOff S w1 w5 ∧ TblAt w5 (fun q => S q ∨ w1.heap.size ≤ q) b r m A' (n + 1) cp' (X ++ [y]) := by
  obtain ⟨hbm, hgn, hxs⟩ := h.apart
  have hpl := h.plain
  have hlt := h.lt
  have hgb : ∀ g, (Value.slice A n cp).ownBlock = some g → g ≠ b := fun g hg => (hgn g hg).1
  have hal := (Below.refl w1.heap.size w1).alloc (Nat.le_refl _) (.cells #[.int .u32 y.s] 22)
  have ho3 : Off (fun q => (Value.slice A n cp).ownBlock = some q) w1 w3 := by
    refine (Off.of_below hal).trans (S' := fun q => (Value.slice A n cp).ownBlock = some q) ⟨hg.os, hg.tape, hg.output, hg.size, fun k hk hn => hg.block k hk fun e => hn e.symm⟩ fun _ _ e => e
  have hr3 : w3.heap[b]? = some (.cells #[.int .i64 (r : Int), .slice A n cp, .map (some m)] 97 (0, 0)) := (ho3.block b hlt fun e => hgb b e rfl).trans h.row
  have hlt3 : b < w3.heap.size := (Array.getElem?_eq_some_iff.1 hr3).1
  have ho15 : Off (fun q => q = b ∨ q = m ∨ (Value.slice A n cp).ownBlock = some q) w1 w5 :=
    ((ho3.mono fun q _ e => .inr (.inr e)).setCell (p := ⟨b, 1, none⟩) (.inl rfl) _).trans ho5 fun q _ e => .inr (.inl e)
  have htoff : TOff (fun q => q = b ∨ q = m ∨ (Value.slice A n cp).ownBlock = some q) w1 w5 := Off.mono ho15 fun q _ hq => ⟨hq, hpl q hq⟩
  have ho35 : Off (fun q => q = b ∨ q = m) w3 w5 := ((Off.refl _ w3).setCell (p := ⟨b, 1, none⟩) (.inl rfl) _).trans ho5 fun q _ e => .inr e
  have hs3 : w1.heap.size < w3.heap.size := by have := hg.size; rw [World.size_alloc] at this; omega
  have hyb : y.m ≠ b := fun e => (SlotAt.map hy).not_cells _ _ _ (by rw [e]; exact h.row)
  have hyg : ∀ g, (Value.slice A n cp).ownBlock = some g → y.m ≠ g := fun g hg e => by
    obtain ⟨cs, hc⟩ := tord_row h.ord hg
    exact (SlotAt.map hy).not_cells _ _ _ (by rw [e]; exact hc)
  refine ⟨htoff.mono fun q _ hq => ?_, ?_, by simp [h.len], ?_, ?_, fun x hx => ?_, ?_, h.room, by omega, .inl h.inS.1, .inl h.inS.2.1, fun g hg' => ?_, fun x hx => .inl ?_⟩
  · rcases hq with e | e | e
    · rw [e]; exact h.inS.1
    · rw [e]; exact h.inS.2.1
    · exact h.inS.2.2.1 q e
  · refine (ho5.block b (by simpa [World.setCell] using hlt3) hbm).trans ?_
    rw [setCell_at hr3]
    rfl
  · rw [List.map_append, List.map_append]
    refine tord_off hown ho35 fun q hq e => ?_
    rcases hat with ha | ha
    · rw [ha] at hq
      obtain ⟨n1, n2⟩ := hgn q hq
      exact e.elim n1 n2
    · rw [ha] at hq
      have hq' : w1.heap.size + 1 = q := by simpa using hq
      have := h.map.lt
      rcases e with e | e <;> omega
  · rw [List.map_append]
    exact hmap
  · rcases List.mem_append.1 hx with hx | hx
    · obtain ⟨n1, n2, n3⟩ := hxs x hx
      refine (h.slots x hx).toff htoff fun e => ?_
      rcases e with e | e | e
      · exact n1 e
      · exact n2 e
      · exact n3 _ e rfl
    · obtain rfl := List.mem_singleton.1 hx
      refine hy.toff htoff fun e => ?_
      rcases e with e | e | e
      · exact hyb e
      · exact hym e
      · exact hyg _ e rfl
  · rw [List.map_append, ← List.cons_append, List.nodup_append]
    refine ⟨h.maps, by simp, fun a ha c hc => ?_⟩
    have hc' : c = y.m := by simpa using hc
    subst hc'
    rcases List.mem_cons.1 ha with rfl | ha
    · exact Ne.symm hym
    · obtain ⟨x, hx, rfl⟩ := List.mem_map.1 ha
      exact hyX x hx
  · rcases hat with ha | ha
    · rw [ha] at hg'
      exact .inl (h.inS.2.2.1 g hg')
    · rw [ha] at hg'
      have hq' : w1.heap.size + 1 = g := by simpa using hg'
      exact .inr (by omega)
  · rcases List.mem_append.1 hx with hx | hx
    · exact h.inS.2.2.2 x hx
    · obtain rfl := List.mem_singleton.1 hx
      exact hSy
/-- a block of another kind is turned -/
theorem TblAt.other {q : Nat} {cs : Array Value} {t : TypeId} (h : TblAt w S b r m A n cp X) (hq : w.heap[q]? = some (.cells cs t (0, 0))) (ht : t ≠ 97 ∧ t ≠ 22 ∧ t ≠ 5 ∧ t ≠ 147) (hf : Off (fun p => p = q) w w') : TblAt w' S b r m A n cp X := by
  have key : ∀ (p : Nat) (cs' : Array Value) (t' : TypeId), w.heap[p]? = some (.cells cs' t' (0, 0)) → t ≠ t' → ¬ p = q := fun p cs' t' h1 h2 e => by
    rw [e, hq] at h1
    injection h1 with h1
    injection h1 with _ h1
    exact h2 h1
  refine ⟨(hf.block b h.lt (key _ _ _ h.row ht.1)).trans h.row, h.len, tord_off h.ord hf fun g hg => ?_, h.map.off hf fun e => h.map.not_cells _ _ _ (by rw [e]; exact hq), fun x hx => (h.slots x hx).off hf (fun cs hc => key _ _ _ hc ht.2.2.2) (fun e => (SlotAt.map (h.slots x hx)).not_cells _ _ _ (by rw [e]; exact hq)) (fun g cs hc => key _ _ _ hc ht.2.2.1), h.maps, h.room, h.few, h.inS⟩
  obtain ⟨cs', hc⟩ := tord_row h.ord hg
  exact key _ _ _ hc ht.2.1
theorem grown_off3 {w1 w3 : World} {o : Obj} {row : Option Nat} (hg : (w1.alloc o).grownBy w3 row) : Off (fun q => row = some q) w1 w3 :=
  (Off.of_below ((Below.refl w1.heap.size w1).alloc (Nat.le_refl _) o)).trans (S' := fun q => row = some q) ⟨hg.os, hg.tape, hg.output, hg.size, fun k hk hn => hg.block k hk fun e => hn e.symm⟩ fun _ _ e => e
theorem out_stays {w1 w3 w5 : World} {q : Nat} {cs : Array Value} {v : Value} (h : TblAt w1 S b r m A n cp X) (hq : w1.heap[q]? = some (.cells cs 54 (0, 0))) (ho3 : Off (fun q => (Value.slice A n cp).ownBlock = some q) w1 w3) (ho5 : Off (fun q => q = m) (w3.setCell ⟨b, 1, none⟩ v) w5) :
    w5.heap[q]? = some (.cells cs 54 (0, 0)) := by
  have hlt := (Array.getElem?_eq_some_iff.1 hq).1
  have h15 : Off (fun q => q = b ∨ q = m ∨ (Value.slice A n cp).ownBlock = some q) w1 w5 :=
    ((ho3.mono fun q _ e => .inr (.inr e)).setCell (p := ⟨b, 1, none⟩) (.inl rfl) _).trans ho5 fun q _ e => .inr (.inl e)
  refine (h15.block q hlt fun e => ?_).trans hq
  rcases e with e | e | e
  · have := h.row
    rw [← e, hq] at this
    injection this with this
    injection this with _ this
    exact absurd this (by decide)
  · exact h.map.not_cells _ _ _ (by rw [← e]; exact hq)
  · obtain ⟨cs', hc⟩ := tord_row h.ord e
    rw [hq] at hc
    injection hc with hc
    injection hc with _ hc
    exact absurd hc (by decide)
theorem setRow_new {B g : Nat} (h : Below B w w') (hg : B ≤ g) (cs : Array Value) : Below B w (w'.setRow g cs) :=
  ⟨h.os, h.tape, h.output, by simpa [World.setRow] using h.size, fun k hk => (setRow_other _ _ _ _ (by omega)).trans (h.block k hk)⟩
theorem tset_new {g : Nat} (h : TOff S w w') (hg : w.heap.size ≤ g) (cs : Array Value) : TOff S w (w'.setRow g cs) :=
  ⟨h.os, h.tape, h.output, by simpa [World.setRow] using Off.size h, fun k hk hn => (setRow_other _ _ _ _ (by omega)).trans (Off.block h k hk hn)⟩
/-- what add leaves -/
def TAddR (w : World) (S : Nat → Prop) (b r m : Nat) (X : List Sx) (y : Sx) (e : Ending) (w' : World) : Prop :=
  (X.length = r ∧ Sr.after y.s (Sr.bst false (X.map Sx.s)) = false ∧ e = .returned (.tuple #[outV none 0 0 false false 0, .int .i64 18]) ∧ Below w.heap.size w w') ∨
  (∃ X' ev old, ((X.length ≠ r ∧ ev = false ∧ old = 0 ∧ X' = X ++ [y]) ∨ (X.length = r ∧ Sr.after y.s (Sr.bst false (X.map Sx.s)) = true ∧ ev = true ∧ old = Sr.bst false (X.map Sx.s) ∧ X' = (X.filter fun x => x.s != Sr.bst false (X.map Sx.s)) ++ [y])) ∧
    e = .returned (.tuple #[outV none 0 0 false ev old, .int .i64 0]) ∧ TOff S w w' ∧ ∃ A' cp', TblAt w' (fun q => S q ∨ w.heap.size ≤ q) b r m A' X'.length cp' X')
set_option maxHeartbeats 8000000 in
theorem tadd_any (h : TblAt w S b r m A n cp X) {y : Sx} (hy : y.At w) (hk : ∀ x ∈ X, x.s ≠ y.s) (hSy : S y.m) (hym : y.m ≠ m) (hyX : ∀ x ∈ X, x.m ≠ y.m) :
    Calls Tryz.prog 50 #[.pointer (some ⟨b, 0, none⟩), .int .u32 y.s, .pointer (some ⟨y.b, 0, none⟩)] w (TAddR w S b r m X y) := by
  obtain ⟨i0, hi0, hz0, hz1, hz2⟩ := info_parts wu32Info
  have hyw : 0 ≤ y.s ∧ y.s ≤ 4294967295 := SlotAt.word hy
  have hlen := h.len
  have hlt := h.lt
  obtain ⟨w0, hw0⟩ : ∃ w0, (w.alloc (.cells (outC none 0 0 false false 0) 54)).alloc (.cells (outC none 0 0 false false 0) 54) = w0 := ⟨_, rfl⟩
  have hs0 : w0.heap.size = w.heap.size + 2 := by rw [← hw0]; simp
  have hb0 : Below w.heap.size w w0 := by rw [← hw0]; exact ((Below.refl _ w).alloc (Nat.le_refl _) _).alloc (by simp) _
  have hR0 : w0.heap[w.heap.size]? = some (.cells (outC none 0 0 false false 0) 54 (0, 0)) := by rw [← hw0]; exact (Below.heap_alloc _ _ _ (by simp)).trans (World.alloc_heap_new _ _)
  have hO0 : w0.heap[w.heap.size + 1]? = some (.cells (outC none 0 0 false false 0) 54 (0, 0)) := by
    have := World.alloc_heap_new (w.alloc (.cells (outC none 0 0 false false 0) 54)) (.cells (outC none 0 0 false false 0) 54)
    rw [World.size_alloc, hw0] at this
    exact this
  have KL := fun d => tlen_any (h.below (below_drewN hb0 d))
  have c0 := (h.below hb0).cells.1
  have HT := Lib.hid h
  have HW0 := Lib.hid hw0
  have HKL := Lib.hid KL
  clear KL hw0 h
  generalize hG : TAddR w S b r m X y = G
  have HG := Lib.hid hG
  clear hG
  unfold outC at HW0
  go_enter Tryz.func50, Tryz.ntmps50
  go_wp2_with fail
  rw [HW0.out]
  have hR1 : ∀ nq, (w0.drewN nq).heap[w.heap.size]? = some (.cells (outC none 0 0 false false 0) 54 (0, 0)) := fun _ => hR0
  have hO1 : ∀ nq, (w0.drewN nq).heap[w.heap.size + 1]? = some (.cells (outC none 0 0 false false 0) 54 (0, 0)) := fun _ => hO0
  have hs1 : ∀ nq, w.heap.size + 2 ≤ (w0.drewN nq).heap.size := fun _ => Nat.le_of_eq hs0.symm
  have hb1 : ∀ nq, Below w.heap.size w (w0.drewN nq) := fun nq => below_drewN hb0 nq
  clear hR0 hO0 hs0 hb0
  have hn16 : n ≤ 16 := by have := HT.out.few; have := HT.out.room; omega
  by_cases hfull : n = r
  · have hnr : ((n : Int) == (r : Int)) = true := by rw [beq_iff_eq]; omega
    have HF := Lib.hid hfull
    have hrn : r ≤ n := by omega
    clear hfull
    go_quiet ((go_at_call 66; exact squiet_of (HKL.out _)))
    replace hR1 := hR1 nq
    replace hO1 := hO1 nq
    replace hs1 := hs1 nq
    replace hb1 := hb1 nq
    generalize w0.drewN nq = W1 at hR1 hO1 hs1 hb1 ⊢
    have hT1 := HT.out.below hb1
    obtain ⟨c0, c1, c2⟩ := hT1.cells
    have hU : Sr.U (X.map Sx.s) := fun z hz => by
      obtain ⟨x, hx, rfl⟩ := List.mem_map.1 hz
      have := HT.out.keys.2 x hx
      omega
    have KO := oldest_any n cp A (X.map Sx.s) W1 (by rw [List.length_map]; exact hlen) (by omega) hU hT1.room_ge hT1.nums
    have hold := Sr.bst_U (nw := false) hU
    have hn0 : decide (0 < n) = true := by rw [decide_eq_true_eq]; have := HT.out.room; omega
    rw [hn0] at KO
    obtain ⟨old, hold'⟩ : ∃ old, Sr.bst false (X.map Sx.s) = old := ⟨_, rfl⟩
    rw [hold'] at KO hold
    have HOLD := Lib.hid hold'
    have HT1 := Lib.hid hT1
    have HKO := Lib.hid KO
    have HU := Lib.hid hU
    clear KO hT1 hold' hU
    go_wp2_with fail
    refine HKO.out.mono ?_
    rintro e W2 ⟨rfl, hb2⟩
    have hb02 := hb1.trans (hb2.mono (by omega))
    have hR2 : W2.heap[w.heap.size]? = some (.cells (outC none 0 0 false false 0) 54 (0, 0)) := (hb2.block _ (by omega)).trans hR1
    have hO2 : W2.heap[w.heap.size + 1]? = some (.cells (outC none 0 0 false false 0) 54 (0, 0)) := (hb2.block _ (by omega)).trans hO1
    have KA := after_any y.s old W2 (by omega) (by omega)
    have hs2 : w.heap.size + 2 ≤ W2.heap.size := by have := hb2.size; omega
    have HB2 := Lib.hid hb02
    have HR2 := Lib.hid hR2
    have HO2 := Lib.hid hO2
    clear hb1 hb2 hb02 hR1 hO1 hR2 hO2 HT1 HKO c0 c1 c2
    cases haf : Sr.after y.s old with
    | false =>
      rw [haf] at KA
      have HFIN : Hid (G (.returned (.tuple #[.agg (outC none 0 0 false false 0), .int .i64 18])) (W2.setRow w.heap.size (outC none 0 0 false false 0))) := by
        rw [← HG.out]
        refine .inl ⟨by rw [hlen]; exact HF.out, by rw [HOLD.out]; exact haf, rfl, ?_⟩
        exact setRow_new HB2.out (Nat.le_refl _) _
      clear HB2 haf
      go_wp2_with fail
      refine KA.mono ?_
      rintro e W3 ⟨rfl, rfl⟩
      rename World => W3
      go_wp2_with (refine wpList_store_row rfl 54 (.tmp 6) (.tmp 30) rfl w.heap.size (outC none 0 0 false false 0) rfl rfl 54 _ HR2.out outInfo rfl (out_one ..) ?_)
      refine bodyPost_ret (results_row_tmp (P := Tryz.prog) (fn := Tryz.f50) rfl _ _ w.heap.size 54 (outC none 0 0 false false 0) _ (by rfl) (setRow_heap _ _ _ _ _ _ HR2.out) Tryz.underlying54 (by rfl) outInfo) rfl ?_
      exact HFIN.out
    | true =>
      rw [haf] at KA
      have hT2 := HT.out.below HB2.out
      have KD := tdrop_any hT2 (z := old) (by omega)
      have HKD := Lib.hid KD
      have HT2 := Lib.hid hT2
      clear KD hT2
      go_wp2_with fail
      refine KA.mono ?_
      rintro e W3 ⟨rfl, rfl⟩
      rename World => W3
      go_wp2_with fail
      refine HKD.out.mono ?_
      rintro e W4 (⟨hno, _, _⟩ | ⟨_, rfl, hoff4, hT4⟩)
      · exfalso
        have hne : (X.map Sx.ms) ≠ [] := by
          intro e
          have h1 := congrArg List.length e
          rw [List.length_map, hlen, List.length_nil] at h1
          have := HT.out.room
          omega
        obtain ⟨y', hy', hs'⟩ := Tb.old_mem hne
        obtain ⟨x, hx, rfl⟩ := List.mem_map.1 hy'
        refine hno x hx (hs'.trans ?_)
        unfold Tb.old
        rw [nums_ms]
        exact HOLD.out
      have hmem : ∀ q, (q = b ∨ q = m ∨ (Value.slice A n cp).ownBlock = some q) → q < w.heap.size := fun q hq => by
        rcases hq with e | e | e
        · rw [e]; exact hlt
        · rw [e]; exact HT.out.map.lt
        · exact (HT.out.ord.lt q e).2
      have hR4 : W4.heap[w.heap.size]? = some (.cells (outC none 0 0 false false 0) 54 (0, 0)) := (Off.block hoff4 _ (by omega) fun hq => by have := hmem _ hq.1; omega).trans HR2.out
      have hO4 : W4.heap[w.heap.size + 1]? = some (.cells (outC none 0 0 false false 0) 54 (0, 0)) := (Off.block hoff4 _ (by omega) fun hq => by have := hmem _ hq.1; omega).trans HO2.out
      obtain ⟨W5, hW5⟩ : ∃ W5, W4.setRow (w.heap.size + 1) (outC none 0 0 false true old) = W5 := ⟨_, rfl⟩
      have hof5 : Off (fun p => p = w.heap.size + 1) W4 W5 := by rw [← hW5]; exact (Off.refl (fun p => p = w.heap.size + 1) W4).setRow rfl _
      have hT5 : TblAt W5 S b r m A (n - 1) cp (X.filter fun x => x.s != old) := hT4.other hO4 ⟨by decide, by decide, by decide, by decide⟩ hof5
      have hR5' : W5.heap[w.heap.size]? = some (.cells (outC none 0 0 false false 0) 54 (0, 0)) := (hof5.block _ (Array.getElem?_eq_some_iff.1 hR4).1 (by omega)).trans hR4
      have hO5' : W5.heap[w.heap.size + 1]? = some (.cells (outC none 0 0 false true old) 54 (0, 0)) := by rw [← hW5]; exact setRow_heap _ _ _ _ _ _ hO4
      have hSo : ∀ q, q < w.heap.size → (q = b ∨ q = m ∨ (Value.slice A n cp).ownBlock = some q) → S q := fun q _ hq => by
        rcases hq with e | e | e
        · rw [e]; exact HT.out.inS.1
        · rw [e]; exact HT.out.inS.2.1
        · exact HT.out.inS.2.2.1 q e
      have hoff05 : TOff S w W5 := by
        have h4 : TOff S w W4 := (TOff.of_below HB2.out).trans hoff4 hSo
        rw [← hW5]
        exact tset_new h4 (by omega) _
      have hy4 : y.At W4 := by
        refine (hy.below HB2.out).toff hoff4 fun e => ?_
        have hym' := (SlotAt.map hy)
        rcases e with e | e | e
        · exact hym'.not_cells _ _ _ (by rw [e]; exact HT.out.row)
        · exact hym e
        · obtain ⟨cs, hc⟩ := tord_row HT.out.ord e
          exact hym'.not_cells _ _ _ hc
      have hy5 : y.At W5 := by
        refine SlotAt.off hy4 hof5 (fun e => ?_) (fun e => ?_) (fun g cs hg e => ?_)
        · have := SlotAt.row hy4
          rw [e, hO4] at this
          injection this with this
          injection this with _ this
          exact absurd this (by decide)
        · exact (SlotAt.map hy4).not_cells _ _ _ (by rw [e]; exact hO4)
        · rw [e, hO4] at hg
          injection hg with hg
          injection hg with _ hg
          exact absurd hg (by decide)
      have hk5 : ∀ x ∈ (X.filter fun x => x.s != old), x.s ≠ y.s := fun x hx => hk x (List.mem_filter.1 hx).1
      have hyX5 : ∀ x ∈ (X.filter fun x => x.s != old), x.m ≠ y.m := fun x hx => hyX x (List.mem_filter.1 hx).1
      have hlen5 := hT5.len
      have hszW5 : w.heap.size + 2 ≤ W5.heap.size := by have := (Array.getElem?_eq_some_iff.1 hO5').1; omega
      have HOF := Lib.hid hoff05
      have HAF := Lib.hid haf
      have HW5 := Lib.hid hW5
      have HO4 := Lib.hid hO4
      obtain ⟨X5, hX5⟩ : ∃ X5, (X.filter fun x => x.s != old) = X5 := ⟨_, rfl⟩
      rw [hX5] at hT5 hk5 hyX5 hlen5
      have HX5 := Lib.hid hX5
      obtain ⟨n5, hn5⟩ : ∃ n5, n - 1 = n5 := ⟨_, rfl⟩
      rw [hn5] at hT5 hlen5
      have hn5r : n5 < r := by have := HT.out.room; have := HF.out; omega
      have hn516 : n5 ≤ 16 := by omega
      clear hoff4 hy4 hT4 hR4 hO4 hW5 hof5 hoff05 haf hX5 hn5 hmem hSo HKD HT2 HR2 HO2 HB2
      have HW5S := Lib.hid (show (W4.setRow (w.heap.size + 1) (outC none 0 0 false true old)).heap.size = W4.heap.size by simp [World.setRow])
      have e5 := HW5.out
      subst e5
      clear HW5
      obtain ⟨c0, c1, c2⟩ := hT5.cells
      have f1 := hT5.thaw 1
      have HOW := Lib.hid (hT5.ord.alloc (.cells #[.int .u32 y.s] 22))
      have HX1 : Hid (n5 + 1 ≤ maxLen) := by show _ ≤ _; unfold maxLen; omega
      have HX2 : Hid ((n5 + 1) * 4 ≤ 140737488355328) := by show _ ≤ _; omega
      have HX3 : Hid (0 ≤ ((W4.setRow (w.heap.size + 1) (outC none 0 0 false true old)).alloc (.cells #[.int .u32 y.s] 22)).heap.size) := Nat.zero_le _
      have HNW : Hid (∀ (j : Nat) (u : Value), [Value.int .u32 y.s][j]? = some u → ((W4.setRow (w.heap.size + 1) (outC none 0 0 false true old)).alloc (.cells #[.int .u32 y.s] 22)).cell? ((⟨W4.heap.size, 0, none⟩ : Addr).add j) = some u) := by
        rw [← HW5S.out]
        exact cell_one_new _ _ _
      have HTT := Lib.hid hT5
      have HR1 := Lib.hid hR5'
      have HO1 := Lib.hid hO5'
      have HYY := Lib.hid hy5
      clear hT5 hR5' hO5' hy5
      go_wp2_with (first | (refine wpList_store_row rfl 54 (.tmp 8) (.tmp 35) rfl (w.heap.size + 1) (outC none 0 0 false true old) rfl rfl 54 _ HO4.out outInfo rfl (out_one ..) ?_) | (at_builtin; refine wpList_append_own_at _ rfl (.tmp 40) (.tmp 42) 95 rfl 0 22 i0 (.int .u32 0) 1 4 Tryz.underlying95 hi0 hz0 hz1 hz2 rfl (by decide) _ _ _ rfl HOW.out ⟨W4.heap.size, 0, none⟩ 1 1 [.int .u32 y.s] rfl rfl HNW.out (by simp [Value.oneCell']) HX1.out HX2.out HX3.out ?_))
      intro v3 w3 hown hg hnil hat
      obtain ⟨g3, cp3, rfl⟩ := ownsRow_succ hown
      have ho3 := grown_off3 hg
      have hapart := HTT.out.apart
      have hr3 : w3.heap[b]? = some (.cells #[.int .i64 (r : Int), .slice A n5 cp, .map (some m)] 97 (0, 0)) := (ho3.block b HTT.out.lt fun e => (hapart.2.1 b e).1 rfl).trans HTT.out.row
      have d1 : w3.cell? ⟨b, 1, none⟩ = some (.slice A n5 cp) := by simp [World.cell?, hr3]
      have d2 : w3.cell? ⟨b, 2, none⟩ = some (.map (some m)) := by simp [World.cell?, hr3]
      have f3 : w3.frozen? ⟨b, 1, none⟩ = false := by simp [World.frozen?, hr3]
      have hm3 : TMapAt (w3.setCell ⟨b, 1, none⟩ (.slice (some ⟨g3, 0, none⟩) (n5 + 1) cp3)) m (X5.map Sx.key) := (HTT.out.map.off ho3 fun e => (hapart.2.1 m e).2 rfl).off ((Off.refl (fun q => q = b) w3).setCell (p := ⟨b, 1, none⟩) rfl _) (Ne.symm hapart.1)
      obtain ⟨w5, hupd, hmap5, ho5, hs5⟩ := hm3.run_upd Tryz.underlying94 Tryz.underlying22 hyw y.b (te_none hk5)
      obtain ⟨hoff5, hT5⟩ := HTT.out.added (by omega) HYY.out hk5 hSy hym hyX5 (by rw [List.map_map]; exact hown) hg (by rw [HW5S.out]; exact hat) hmap5 ho5
      have hR5 : w5.heap[w.heap.size]? = some (.cells (outC none 0 0 false false 0) 54 (0, 0)) := out_stays HTT.out HR1.out ho3 ho5
      have hO5 : w5.heap[w.heap.size + 1]? = some (.cells (outC none 0 0 false true old) 54 (0, 0)) := out_stays HTT.out HO1.out ho3 ho5
      have HFIN : Hid (G (.returned (.tuple #[.agg (outC none 0 0 false true old), .int .i64 0])) (w5.setRow w.heap.size (outC none 0 0 false true old))) := by
        rw [← HG.out]
        refine .inr ⟨X5 ++ [y], true, old, .inr ⟨by rw [hlen]; exact HF.out, by rw [HOLD.out]; exact HAF.out, rfl, HOLD.out.symm, by rw [HOLD.out, HX5.out]⟩, rfl, ?_, some ⟨g3, 0, none⟩, cp3, ?_⟩
        · exact tset_new (TOff.trans HOF.out hoff5 fun _ _ h => h) (Nat.le_refl _) _
        · rw [List.length_append, hlen5]
          refine (hT5.other hR5 ⟨by decide, by decide, by decide, by decide⟩ ((Off.refl (fun p => p = w.heap.size) w5).setRow rfl _)).mono fun q hq => ?_
          exact hq.imp id fun h => by omega
      have HR5 := Lib.hid hR5
      have HO5 := Lib.hid hO5
      clear hown hg hnil hat ho3 hapart hr3 hm3 hmap5 ho5 hs5 hoff5 hT5 hR5 hO5 HTT HYY HR1 HO1 HOW c0 c1 c2 f1
      go_wp2_with (first
        | (refine wpList_load_row rfl 54 (.tmp 8) rfl (w.heap.size + 1) rfl 54 (outC none 0 0 false true old) (0, 0) _ HO5.out Tryz.underlying54 rfl outInfo ?_)
        | (refine wpList_store_row rfl 54 (.tmp 6) (.tmp 52) rfl w.heap.size (outC none 0 0 false true old) rfl rfl 54 _ HR5.out outInfo rfl (out_one ..) ?_))
      refine bodyPost_ret (results_row_tmp (P := Tryz.prog) (fn := Tryz.f50) rfl _ _ w.heap.size 54 (outC none 0 0 false true old) _ (by rfl) (setRow_heap _ _ _ _ _ _ HR5.out) Tryz.underlying54 (by rfl) outInfo) rfl ?_
      exact HFIN.out
  · have hnr : ((n : Int) == (r : Int)) = false := by rw [beq_eq_false_iff_ne]; omega
    go_quiet ((go_at_call 66; exact squiet_of (HKL.out _)))
    replace hR1 := hR1 nq
    replace hO1 := hO1 nq
    replace hs1 := hs1 nq
    replace hb1 := hb1 nq
    generalize w0.drewN nq = W1 at hR1 hO1 hs1 hb1 ⊢
    have hT1 := HT.out.below hb1
    have hy1 := hy.below hb1
    have hnlt : n < r := by have := HT.out.few; omega
    have HB1 := Lib.hid hb1
    clear hb1
    obtain ⟨c0, c1, c2⟩ := hT1.cells
    have f1 := hT1.thaw 1
    have HOW := Lib.hid (hT1.ord.alloc (.cells #[.int .u32 y.s] 22))
    have HX1 : Hid (n + 1 ≤ maxLen) := by show _ ≤ _; unfold maxLen; omega
    have HX2 : Hid ((n + 1) * 4 ≤ 140737488355328) := by show _ ≤ _; omega
    have HX3 : Hid (0 ≤ (W1.alloc (.cells #[.int .u32 y.s] 22)).heap.size) := Nat.zero_le _
    have HNW : Hid (∀ (j : Nat) (u : Value), [Value.int .u32 y.s][j]? = some u → (W1.alloc (.cells #[.int .u32 y.s] 22)).cell? ((⟨W1.heap.size, 0, none⟩ : Addr).add j) = some u) := by
      exact cell_one_new _ _ _
    have HTT := Lib.hid hT1
    have HR1 := Lib.hid hR1
    have HO1 := Lib.hid hO1
    have HYY := Lib.hid hy1
    clear hT1 hR1 hO1 hy1
    go_wp2_with (first | (at_builtin; refine wpList_append_own_at _ rfl (.tmp 40) (.tmp 42) 95 rfl 0 22 i0 (.int .u32 0) 1 4 Tryz.underlying95 hi0 hz0 hz1 hz2 rfl (by decide) _ _ _ rfl HOW.out ⟨W1.heap.size, 0, none⟩ 1 1 [.int .u32 y.s] rfl rfl HNW.out (by simp [Value.oneCell']) HX1.out HX2.out HX3.out ?_))
    intro v3 w3 hown hg hnil hat
    obtain ⟨g3, cp3, rfl⟩ := ownsRow_succ hown
    have ho3 := grown_off3 hg
    have hapart := HTT.out.apart
    have hr3 : w3.heap[b]? = some (.cells #[.int .i64 (r : Int), .slice A n cp, .map (some m)] 97 (0, 0)) := (ho3.block b HTT.out.lt fun e => (hapart.2.1 b e).1 rfl).trans HTT.out.row
    have d1 : w3.cell? ⟨b, 1, none⟩ = some (.slice A n cp) := by simp [World.cell?, hr3]
    have d2 : w3.cell? ⟨b, 2, none⟩ = some (.map (some m)) := by simp [World.cell?, hr3]
    have f3 : w3.frozen? ⟨b, 1, none⟩ = false := by simp [World.frozen?, hr3]
    have hm3 : TMapAt (w3.setCell ⟨b, 1, none⟩ (.slice (some ⟨g3, 0, none⟩) (n + 1) cp3)) m (X.map Sx.key) := (HTT.out.map.off ho3 fun e => (hapart.2.1 m e).2 rfl).off ((Off.refl (fun q => q = b) w3).setCell (p := ⟨b, 1, none⟩) rfl _) (Ne.symm hapart.1)
    obtain ⟨w5, hupd, hmap5, ho5, hs5⟩ := hm3.run_upd Tryz.underlying94 Tryz.underlying22 hyw y.b (te_none hk)
    obtain ⟨hoff5, hT5⟩ := HTT.out.added (by omega) HYY.out hk hSy hym hyX (by rw [List.map_map]; exact hown) hg (hat) hmap5 ho5
    have hR5 : w5.heap[w.heap.size]? = some (.cells (outC none 0 0 false false 0) 54 (0, 0)) := out_stays HTT.out HR1.out ho3 ho5
    have hO5 : w5.heap[w.heap.size + 1]? = some (.cells (outC none 0 0 false false 0) 54 (0, 0)) := out_stays HTT.out HO1.out ho3 ho5
    have HFIN : Hid (G (.returned (.tuple #[.agg (outC none 0 0 false false 0), .int .i64 0])) (w5.setRow w.heap.size (outC none 0 0 false false 0))) := by
      rw [← HG.out]
      refine .inr ⟨X ++ [y], false, 0, .inl ⟨by rw [hlen]; exact hfull, rfl, rfl, rfl⟩, rfl, ?_, some ⟨g3, 0, none⟩, cp3, ?_⟩
      · exact tset_new (TOff.trans (TOff.of_below HB1.out) hoff5 fun _ _ h => h) (Nat.le_refl _) _
      · rw [List.length_append, hlen]
        refine (hT5.other hR5 ⟨by decide, by decide, by decide, by decide⟩ ((Off.refl (fun p => p = w.heap.size) w5).setRow rfl _)).mono fun q hq => ?_
        exact hq.imp id fun h => by omega
    have HR5 := Lib.hid hR5
    have HO5 := Lib.hid hO5
    clear hown hg hnil hat ho3 hapart hr3 hm3 hmap5 ho5 hs5 hoff5 hT5 hR5 hO5 HTT HYY HR1 HO1 HOW c0 c1 c2 f1
    go_wp2_with (first
      | (refine wpList_load_row rfl 54 (.tmp 8) rfl (w.heap.size + 1) rfl 54 (outC none 0 0 false false 0) (0, 0) _ HO5.out Tryz.underlying54 rfl outInfo ?_)
      | (refine wpList_store_row rfl 54 (.tmp 6) (.tmp 52) rfl w.heap.size (outC none 0 0 false false 0) rfl rfl 54 _ HR5.out outInfo rfl (out_one ..) ?_))
    refine bodyPost_ret (results_row_tmp (P := Tryz.prog) (fn := Tryz.f50) rfl _ _ w.heap.size 54 (outC none 0 0 false false 0) _ (by rfl) (setRow_heap _ _ _ _ _ _ HR5.out) Tryz.underlying54 (by rfl) outInfo) rfl ?_
    exact HFIN.out
end
end Go.Proofs.YtfdbcfkjablnkaaGreat

namespace Go.Proofs.YtfdbcfkjablnkaaGreat
open Go.RowKit
set_option maxRecDepth 100000

theorem slot_look {w : World} {b m : Nat} {v k s c : Int} {E : List Pl} (h : SlotAt w b m v k s c E) (i : Nat) (hi : i ≤ 255) :
    ∃ A n cp, (Instr.lookup 145 (.map (some m)) (.int .i64 (i : Int)) false).run Tryz.prog w = .ok (.slice A n cp) w ∧ (Sl.at' (E.map Pl.ct) i).length = n ∧ Nums .u8 w w.heap.size A (Sl.at' (E.map Pl.ct) i) := by
  have hz : (zeroValue 40).run Tryz.prog w = .ok (.slice none 0 0) w := by kernel_rfl
  have hlook := h.map.run_look (P := Tryz.prog) (t := 145) false Tryz.underlying145 Tryz.underlying3 hz (i := i) (by omega)
  have hct := Pl.at_ct h.map.keys.1 i
  cases hp : Pl.at E i with
  | none =>
    rw [hp] at hlook hct
    exact ⟨none, 0, 0, hlook, by rw [hct]; rfl, by rw [hct]; exact Nums.nil⟩
  | some p =>
    rw [hp] at hlook hct
    have hm := (Pl.at_mem hp).1
    exact ⟨p.a, p.zs.length, p.cp, hlook, by rw [hct]; rfl, by rw [hct]; exact (h.pays p hm).nums⟩
/-- what Bytes answers -/
def BytesR (w : World) (c : Int) (E : List Pl) (e : Ending) (w' : World) : Prop :=
  Below w.heap.size w w' ∧ (((E.length : Int) ≠ c ∧ e = .returned (.tuple #[.slice none 0 0, .bool false])) ∨
    ((E.length : Int) = c ∧ ∃ A cp, e = .returned (.tuple #[.slice A (Sl.cat (E.map Pl.ct) E.length).length cp, .bool true]) ∧ (Sl.cat (E.map Pl.ct) E.length).length ≤ cp ∧ Nums .u8 w' w'.heap.size A (Sl.cat (E.map Pl.ct) E.length)))
/-- .. in memory of its own -/
def BytesM (w : World) (c : Int) (E : List Pl) (e : Ending) (w' : World) : Prop :=
  Below w.heap.size w w' ∧ (((E.length : Int) ≠ c ∧ e = .returned (.tuple #[.slice none 0 0, .bool false])) ∨
    ((E.length : Int) = c ∧ ∃ A cp, e = .returned (.tuple #[.slice A (Sl.cat (E.map Pl.ct) E.length).length cp, .bool true]) ∧ (Sl.cat (E.map Pl.ct) E.length).length ≤ cp ∧ MadeK 5 .u8 w w' (Sl.cat (E.map Pl.ct) E.length) (.slice A (Sl.cat (E.map Pl.ct) E.length).length cp)))
set_option maxHeartbeats 8000000 in
theorem sbytes_new {w : World} {b m : Nat} {v k s c : Int} {E : List Pl} (h : SlotAt w b m v k s c E) :
    Calls Tryz.prog 81 #[.pointer (some ⟨b, 0, none⟩)] w (BytesM w c E) := by
  obtain ⟨i0, hi, hz0, hz1, hz2⟩ := info_parts byteInfo
  have K := sfull_any h
  obtain ⟨n, rfl, n1, n2, hEn, _⟩ := h.count
  have hmost := h.most
  have HS := Lib.hid h
  clear h
  generalize hG : BytesM w (n : Int) E = G
  have HG := Lib.hid hG
  clear hG
  by_cases hf : E.length = n
  · have e1 : ((E.length : Int) == (n : Int)) = true := by rw [hf]; simp
    rw [e1] at K
    have HF := Lib.hid hf
    clear hf e1 hEn
    go_enter Tryz.func81, Tryz.ntmps81
    go_wp2_with fail
    refine K.mono ?_
    rintro e w1 ⟨rfl, d, rfl⟩
    have hb1 : Below w.heap.size w (w.drewN d) := below_drewN (Below.refl _ _) d
    have HB1 := Lib.hid hb1
    obtain ⟨c0, c1, c2, c3, c4, c5⟩ := (HS.out.below hb1).cells
    generalize w.drewN d = w1 at *
    clear K hb1
    go_wp2
    go_loopw [4, 14] (fun u i wr => ∃ j : Nat, j ≤ n ∧ i = .int .i64 (j : Int) ∧ Hid (MadeK 5 .u8 w wr (Sl.cat (E.map Pl.ct) j) u)) (fun _ i _ => n - (intOf i).toNat)
    case atStart => exact ⟨0, by omega, rfl, MadeK.nil _ _ HB1.out⟩
    case round =>
      obtain ⟨j, hj, rfl, HM⟩ := hrel
      have hsl := HS.out.below HM.out.2
      obtain ⟨d0, d1, d2, d3, d4, d5⟩ := hsl.cells
      by_cases hjn : j < n
      · obtain ⟨A, q, cp, hlook, hq, hnum⟩ := slot_look hsl j (by omega)
        have hql := Sl.at_len (E.map Pl.ct) j
        have hcl := Sl.cat_len (E.map Pl.ct) j
        have hcb : (Sl.cat (E.map Pl.ct) j).length ≤ 48960 := by
          have : j * Sl.tot (E.map Pl.ct) ≤ 255 * 192 := Nat.mul_le_mul (by omega) hmost
          omega
        have HQ := Lib.hid hq
        have HNM := Lib.hid hnum
        have hX1 : (Sl.cat (E.map Pl.ct) j).length + q ≤ maxLen := by unfold maxLen; omega
        have hX2 : ((Sl.cat (E.map Pl.ct) j).length + q) * 1 ≤ 140737488355328 := by omega
        have HX1 := Lib.hid hX1
        have HX2 := Lib.hid hX2
        have hbs := HM.out.2.size
        clear hsl hq hnum hX1 hX2 hql hcl hcb
        go_wp2_with (at_builtin; refine wpList_append_any rfl (.tmp 17) (.tmp 23) 40 rfl w.heap.size 5 i0 (.int .u8 0) 1 Tryz.underlying40 hi hz0 hz1 hz2 rfl .u8 (Sl.cat (E.map Pl.ct) j) (Sl.at' (E.map Pl.ct) j) _ rfl HM.out.1 A q cp _ rfl HQ.out HNM.out HX1.out HX2.out hbs ?_)
        intro v2 w2 hown hg
        have HM2 : Hid (MadeK 5 .u8 w w2 (Sl.cat (E.map Pl.ct) (j + 1)) v2) := by rw [Sl.cat_succ]; exact HM.out.more hown hg
        clear hown hg
        go_wp2
        go_roundw
        case rel => exact ⟨j + 1, by omega, by go_num, HM2⟩
        case measure => simp [intOf]; omega
      · have hjn' : j = n := by omega
        subst hjn'
        have hbs := HM.out.2
        obtain ⟨A, cp, hv, hcp, _⟩ := HM.out.slice
        subst hv
        have HFIN : Hid (G (.returned (.tuple #[.slice A (Sl.cat (E.map Pl.ct) E.length).length cp, .bool true])) wr) := by
          rw [← HG.out]
          exact ⟨hbs, .inr ⟨by rw [HF.out], A, cp, rfl, by rw [HF.out]; exact hcp, by rw [HF.out]; exact HM.out⟩⟩
        rw [HF.out] at HFIN
        clear hsl hbs hcp HM
        go_wp2
        exact HFIN.out
  · have e1 : ((E.length : Int) == (n : Int)) = false := by simp; omega
    rw [e1] at K
    have HF := Lib.hid hf
    clear hf e1 hEn
    go_enter Tryz.func81, Tryz.ntmps81
    go_wp2_with fail
    refine K.mono ?_
    rintro e w1 ⟨rfl, d, rfl⟩
    have HFIN : Hid (G (.returned (.tuple #[.slice none 0 0, .bool false])) (w.drewN d)) := by
      rw [← HG.out]
      exact ⟨below_drewN (Below.refl _ _) d, .inl ⟨by have := HF.out; omega, rfl⟩⟩
    clear K
    go_wp2
    exact HFIN.out
theorem sbytes_any {w : World} {b m : Nat} {v k s c : Int} {E : List Pl} (h : SlotAt w b m v k s c E) :
    Calls Tryz.prog 81 #[.pointer (some ⟨b, 0, none⟩)] w (BytesR w c E) :=
  (sbytes_new h).mono fun e w' ⟨hb, hor⟩ => ⟨hb, hor.imp (fun h => h) fun ⟨h1, A, cp, h2, h3, h4⟩ => ⟨h1, A, cp, h2, h3, by
    obtain ⟨A', cp', e', _, hn⟩ := h4.slice
    injection e' with e'
    rw [e']
    exact hn⟩⟩
end Go.Proofs.YtfdbcfkjablnkaaGreat

namespace Go.Proofs.YtfdbcfkjablnkaaGreat
open Go.RowKit Go.Shelf
set_option maxRecDepth 100000

section
variable {w w' : World} {S S' : Nat → Prop} {b r m n cp : Nat} {A : Option Addr} {X : List Sx}
/-- what came leaves -/
def TCameR (w : World) (S : Nat → Prop) (b r m : Nat) (A : Option Addr) (n cp : Nat) (X : List Sx) (x : Sx) (ev : Bool) (old : Int) (e : Ending) (w' : World) : Prop :=
  ((x.E.length : Int) ≠ x.c ∧ e = .returned (outV none 0 0 false ev old) ∧ Below w.heap.size w w') ∨
  ((x.E.length : Int) = x.c ∧ ∃ A2 c2, e = .returned (outV A2 (Sl.cat (x.E.map Pl.ct) x.E.length).length c2 true ev old) ∧ (Sl.cat (x.E.map Pl.ct) x.E.length).length ≤ c2 ∧
    NumsS .u8 w' (fun g => w.heap.size ≤ g ∧ g < w'.heap.size) A2 (Sl.cat (x.E.map Pl.ct) x.E.length) ∧ TOff S w w' ∧ TblAt w' S b r m A (n - 1) cp (X.filter fun y => y.s != x.s))
theorem two_boxes48 {w w1 : World} {c1 c2 : Array Value} {t : TypeId} (hw : (w.alloc (.cells c1 t)).alloc (.cells c2 t) = w1) :
    Below w.heap.size w w1 ∧ w.heap.size + 2 ≤ w1.heap.size ∧ w1.heap[w.heap.size]? = some (.cells c1 t (0, 0)) ∧ w1.heap[w.heap.size + 1]? = some (.cells c2 t (0, 0)) := by
  subst hw
  refine ⟨((Below.refl _ w).alloc (Nat.le_refl _) _).alloc (by simp) _, by simp, (Below.heap_alloc _ _ _ (by simp)).trans (World.alloc_heap_new _ _), ?_⟩
  have := World.alloc_heap_new (w.alloc (.cells c1 t)) (.cells c2 t)
  rw [World.size_alloc] at this
  exact this
set_option maxHeartbeats 8000000 in
theorem tcame_any (h : TblAt w S b r m A n cp X) {x : Sx} (hx : x ∈ X) (ev : Bool) (old : Int) :
    Calls Tryz.prog 51 #[.pointer (some ⟨b, 0, none⟩), .int .u32 x.s, outV none 0 0 false ev old] w (TCameR w S b r m A n cp X x ev old) := by
  have hxw := h.keys.2 x hx
  have hlt := h.lt
  obtain ⟨w0, hw0⟩ : ∃ w0, (w.alloc (.cells (outC none 0 0 false ev old) 54)).alloc (.cells (outC none 0 0 false false 0) 54) = w0 := ⟨_, rfl⟩
  obtain ⟨hb0, hs0, hO0, hR0⟩ := two_boxes48 hw0
  have hT0 := h.below hb0
  obtain ⟨c0, c1, c2⟩ := hT0.cells
  have hlook := hT0.look false hxw
  rw [te_of hT0 hx] at hlook
  simp only [teVal] at hlook
  have KB := sbytes_new (hT0.slots x hx)
  have HX := Lib.hid hx
  have HT0 := Lib.hid hT0
  have HB0 := Lib.hid hb0
  have HKB := Lib.hid KB
  have HXW := Lib.hid hxw
  have HM := Lib.hid h
  have hmem : ∀ q, (q = b ∨ q = m ∨ (Value.slice A n cp).ownBlock = some q) → q < w.heap.size := fun q hq => by
    rcases hq with e | e | e
    · rw [e]; exact hlt
    · rw [e]; exact h.map.lt
    · exact (h.ord.lt q e).2
  have HMEM := Lib.hid hmem
  clear hmem
  clear h hT0 KB hx hxw hb0
  subst hw0
  generalize hG : TCameR w S b r m A n cp X x ev old = G
  have HG := Lib.hid hG
  clear hG
  unfold outV
  unfold outC at c0 c1 c2 hlook HKB hs0 ⊢
  go_enter Tryz.func51, Tryz.ntmps51
  go_wp2_with fail
  refine HKB.out.mono ?_
  rintro e w2 ⟨hb2, hor⟩
  have hb02 : Below w.heap.size w w2 := HB0.out.trans (hb2.mono HB0.out.size)
  have hO2 : w2.heap[w.heap.size]? = some (.cells (outC none 0 0 false ev old) 54 (0, 0)) := (hb2.block _ (by omega)).trans hO0
  have hR2 : w2.heap[w.heap.size + 1]? = some (.cells (outC none 0 0 false false 0) 54 (0, 0)) := (hb2.block _ (by omega)).trans hR0
  have hT2 := HT0.out.below hb2
  have hs2 : w.heap.size + 2 ≤ w2.heap.size := Nat.le_trans hs0 hb2.size
  obtain ⟨e0, e1, _, _⟩ := out_block hO2
  have f0 : w2.frozen? ⟨w.heap.size, 0, none⟩ = false := by simp [World.frozen?, hO2]
  have f1 : w2.frozen? ⟨w.heap.size, 1, none⟩ = false := by simp [World.frozen?, hO2]
  have key : ∀ (u v : Value), ((w2.setCell ⟨w.heap.size, 0, none⟩ u).setCell ⟨w.heap.size, 1, none⟩ v).heap[w.heap.size]? = some (.cells #[u, v, .bool ev, .int .u32 old] 54 (0, 0)) ∧ ((w2.setCell ⟨w.heap.size, 0, none⟩ u).setCell ⟨w.heap.size, 1, none⟩ v).heap[w.heap.size + 1]? = some (.cells (outC none 0 0 false false 0) 54 (0, 0)) ∧ Off (fun q => q = w.heap.size) w2 ((w2.setCell ⟨w.heap.size, 0, none⟩ u).setCell ⟨w.heap.size, 1, none⟩ v) := fun u v => by
    have hoff : Off (fun q => q = w.heap.size) w2 ((w2.setCell ⟨w.heap.size, 0, none⟩ u).setCell ⟨w.heap.size, 1, none⟩ v) := ((Off.refl (fun q => q = w.heap.size) w2).setCell (p := ⟨w.heap.size, 0, none⟩) rfl u).setCell (p := ⟨w.heap.size, 1, none⟩) rfl v
    refine ⟨?_, (hoff.block _ (by omega) (by omega)).trans hR2, hoff⟩
    rw [setCell_at (setCell_at hO2)]
    rfl
  have HKEY := Lib.hid key
  have HO2 := Lib.hid hO2
  have HT2 := Lib.hid hT2
  have HB02 := Lib.hid hb02
  clear hb2 hb02 hO2 hR2 hT2 key hO0 hR0 hs0 HT0 HB0 HKB c0 c1 c2 hlook
  rcases hor with ⟨hne, rfl⟩ | ⟨heq, A2, cp2, rfl, hcp2, hmk⟩
  · obtain ⟨k1, k2, k3⟩ := HKEY.out (.slice none 0 0) (.bool false)
    have d1 : ((w2.setCell ⟨w.heap.size, 0, none⟩ (.slice none 0 0)).setCell ⟨w.heap.size, 1, none⟩ (.bool false)).cell? ⟨w.heap.size, 1, none⟩ = some (.bool false) := by simp only [World.cell?, k1]; rfl
    have HFIN : Hid (G (.returned (.agg (outC none 0 0 false ev old))) (((w2.setCell ⟨w.heap.size, 0, none⟩ (.slice none 0 0)).setCell ⟨w.heap.size, 1, none⟩ (.bool false)).setRow (w.heap.size + 1) (outC none 0 0 false ev old))) := by
      rw [← HG.out]
      exact .inl ⟨hne, rfl, setRow_new (HB02.out.trans (k3.below (fun q hq => by omega) (by omega))) (by omega) _⟩
    have H1 := Lib.hid k1
    have H2 := Lib.hid k2
    clear k1 k2 k3 hne HKEY HB02
    go_wp2_with (first
      | (refine wpList_load_row rfl 54 (.tmp 5) rfl w.heap.size rfl 54 (outC none 0 0 false ev old) (0, 0) _ H1.out Tryz.underlying54 rfl outInfo ?_)
      | (refine wpList_store_row rfl 54 (.tmp 6) (.tmp 24) rfl (w.heap.size + 1) (outC none 0 0 false ev old) rfl rfl 54 _ H2.out outInfo rfl (out_one ..) ?_))
    refine bodyPost_ret (results_cell_row (P := Tryz.prog) (fn := Tryz.f51) rfl _ _ (w.heap.size + 1) 54 (outC none 0 0 false ev old) (0, 0) _ (by rfl) (setRow_heap _ _ _ _ _ _ H2.out) Tryz.underlying54 (by rfl) outInfo) rfl ?_
    exact HFIN.out
  · have hnum : NumsS .u8 w2 (fun g => w.heap.size + 2 ≤ g ∧ g < w2.heap.size) A2 (Sl.cat (x.E.map Pl.ct) x.E.length) := by
      obtain ⟨A', c', e', _, hn⟩ := hmk.slice
      have hge := fun g (hg : (Value.slice A2 (Sl.cat (x.E.map Pl.ct) x.E.length).length cp2).ownBlock = some g) => (hmk.1.lt g hg)
      intro h0
      injection e' with e'
      subst e'
      obtain ⟨g, off, rfl, hlt2, hc⟩ := hn h0
      have := hge g rfl
      simp only [World.size_alloc] at this
      exact ⟨g, off, rfl, ⟨by omega, hlt2⟩, hc⟩
    obtain ⟨zs, hzs⟩ : ∃ zs, Sl.cat (x.E.map Pl.ct) x.E.length = zs := ⟨_, rfl⟩
    rw [hzs] at hnum hcp2 ⊢
    obtain ⟨q, hq⟩ : ∃ q, zs.length = q := ⟨_, rfl⟩
    rw [hq] at hcp2 ⊢
    have HQ := Lib.hid hq
    have HZ := Lib.hid hzs
    obtain ⟨k1, k2, k3⟩ := HKEY.out (.slice A2 q cp2) (.bool true)
    have d1 : ((w2.setCell ⟨w.heap.size, 0, none⟩ (.slice A2 q cp2)).setCell ⟨w.heap.size, 1, none⟩ (.bool true)).cell? ⟨w.heap.size, 1, none⟩ = some (.bool true) := by simp only [World.cell?, k1]; rfl
    have hT3 := HT2.out.other (cs := outC none 0 0 false ev old) (q := w.heap.size) (t := 54) (w' := (w2.setCell ⟨w.heap.size, 0, none⟩ (.slice A2 q cp2)).setCell ⟨w.heap.size, 1, none⟩ (.bool true)) HO2.out ⟨by decide, by decide, by decide, by decide⟩ k3
    have KD := tdrop_any hT3 HXW.out
    have HKD := Lib.hid KD
    have HN := Lib.hid hnum
    have H1 := Lib.hid k1
    have H2 := Lib.hid k2
    have H3 := Lib.hid k3
    have HEQ := Lib.hid heq
    clear KD hnum k1 k2 k3 heq hmk hT3 hq hzs
    go_wp2_with fail
    refine HKD.out.mono ?_
    rintro e w4 (⟨hno, _, _⟩ | ⟨_, rfl, hoff4, hT4⟩)
    · exact absurd rfl (hno x HX.out)
    have hO4 : w4.heap[w.heap.size]? = some (.cells (outC A2 q cp2 true ev old) 54 (0, 0)) := (Off.block hoff4 _ (by simp [World.setCell]; omega) fun hq => by have := HMEM.out _ hq.1; omega).trans H1.out
    have hR4 : w4.heap[w.heap.size + 1]? = some (.cells (outC none 0 0 false false 0) 54 (0, 0)) := (Off.block hoff4 _ (by simp [World.setCell]; omega) fun hq => by have := HMEM.out _ hq.1; omega).trans H2.out
    have HFIN : Hid (G (.returned (.agg (outC A2 q cp2 true ev old))) (w4.setRow (w.heap.size + 1) (outC A2 q cp2 true ev old))) := by
      rw [← HG.out]
      have hTO : TOff (fun q => q = b ∨ q = m ∨ (Value.slice A n cp).ownBlock = some q) w w4 := by
        refine TOff.trans (S' := fun q => q = b ∨ q = m ∨ (Value.slice A n cp).ownBlock = some q) (TOff.of_below ?_) hoff4 fun _ _ h => h
        exact HB02.out.trans (H3.out.below (fun q hq => by omega) (by omega))
      have hsz4 : w2.heap.size ≤ w4.heap.size := Nat.le_trans H3.out.size (TOff.size hoff4)
      refine .inr ⟨HEQ.out, A2, cp2, by rw [HZ.out, HQ.out]; rfl, by rw [HZ.out, HQ.out]; exact hcp2, ?_, ?_, ?_⟩
      · rw [HZ.out]
        have h24 : Off (fun q => q < w.heap.size + 2) w2 (w4.setRow (w.heap.size + 1) (outC A2 q cp2 true ev old)) := by
          have h23 : Off (fun q => q < w.heap.size + 2) w2 ((w2.setCell ⟨w.heap.size, 0, none⟩ (.slice A2 q cp2)).setCell ⟨w.heap.size, 1, none⟩ (.bool true)) := H3.out.mono fun q _ e => by omega
          exact Off.setRow (h23.trans hoff4 fun q _ hq => by have := HMEM.out _ hq.1; omega) (by omega) _
        intro h0
        obtain ⟨g, off, e, ⟨hg1, hg2⟩, hc⟩ := HN.out h0
        exact ⟨g, off, e, ⟨by omega, by simp [World.setRow]; omega⟩, fun j c hj => h24.cell (hc j c hj) (by show ¬ g < _; omega)⟩
      · refine tset_new (hTO.mono fun q _ hq => ?_) (by omega) _
        rcases hq with e | e | e
        · rw [e]; exact HM.out.inS.1
        · rw [e]; exact HM.out.inS.2.1
        · exact HM.out.inS.2.2.1 q e
      · exact hT4.other hR4 ⟨by decide, by decide, by decide, by decide⟩ ((Off.refl (fun p => p = w.heap.size + 1) w4).setRow rfl _)
    have HO4 := Lib.hid hO4
    have HR4 := Lib.hid hR4
    clear hoff4 hT4 hO4 hR4 HKD HN H1 H2 H3 HKEY HT2 HM HB02 HMEM HX HXW d1
    go_wp2_with (first
      | (refine wpList_load_row rfl 54 (.tmp 5) rfl w.heap.size rfl 54 (outC A2 q cp2 true ev old) (0, 0) _ HO4.out Tryz.underlying54 rfl outInfo ?_)
      | (refine wpList_store_row rfl 54 (.tmp 6) (.tmp 24) rfl (w.heap.size + 1) (outC A2 q cp2 true ev old) rfl rfl 54 _ HR4.out outInfo rfl (out_one ..) ?_))
    refine bodyPost_ret (results_cell_row (P := Tryz.prog) (fn := Tryz.f51) rfl _ _ (w.heap.size + 1) 54 (outC A2 q cp2 true ev old) (0, 0) _ (by rfl) (setRow_heap _ _ _ _ _ _ HR4.out) Tryz.underlying54 (by rfl) outInfo) rfl ?_
    exact HFIN.out
end
end Go.Proofs.YtfdbcfkjablnkaaGreat

namespace Go.Proofs.YtfdbcfkjablnkaaGreat
open Go.RowKit
set_option maxRecDepth 100000

section
variable {P : Program} {l : List Oper} {fs : List Tmp} {FS : Tmp → Value → World → Prop} {I : World → Prop} {E : Act → Prop} {o : Oper} {rest : List Oper} {a : Act}
/-- XQ7's last operation may be a store into a map -/
theorem wpFS_upd {St : (Tmp → Value) → World → World → Prop} {t : TypeId} {x y z : Operand} (ho : o.op = .mapUpdate t x y z) (hd : o.dst = none) (hg : o.guard = none)
    (hrun : ∀ xs w, I w → (∀ s ∈ fs, FS s (xs s) w) → ∃ w', (Instr.mapUpdate t ((fill fs xs a).eval x) ((fill fs xs a).eval y) ((fill fs xs a).eval z)).run P w = .ok () w' ∧ St xs w w') (h : wpFS P l.toArray I fs FS St E none rest a) : wpFS P l.toArray I fs FS St E (some 0) (o :: rest) a := by
  refine ⟨⟨hd, fun xs w hI hs => ⟨by simp [Region.wanted, hg], ?_⟩⟩, h⟩
  obtain ⟨w', hr, hst⟩ := hrun xs w hI hs
  unfold execOp
  simp only [ho]
  rw [Sem.run_bind, hr]
  exact hst
end
theorem MadeK.pay {w w1 : World} {zs : List Int} {v : Value} (h : MadeK 5 .u8 w w1 zs v) (hz : zs ≠ []) (hb : Bytes zs) (i : Nat) : ∃ A c, v = .slice A zs.length c ∧ PayAt w1 ⟨i, A, c, zs⟩ := by
  have h1 := h.1
  obtain ⟨hl, h2⟩ := h1
  rcases h2 with ⟨rfl, h0⟩ | ⟨g, cap, cur, rfl, hg, hh, hn, _, hs, ht⟩
  · exact absurd (List.eq_nil_of_length_eq_zero h0) hz
  · refine ⟨_, cap, rfl, hn, hz, hb, g, cur, rfl, hh, fun j c hj => ?_⟩
    have h3 : (zs.map (Value.int .u8))[j]? = some (.int .u8 c) := by
      have hj' : zs[j]? = some c := hj
      rw [List.getElem?_map, hj']
      rfl
    rw [← ht, List.getElem?_take] at h3
    split at h3
    · simpa using h3
    · cases h3
/-- what Put leaves -/
def PutR (w : World) (b m : Nat) (v k s c : Int) (E : List Pl) (i : Nat) (zs : List Int) (er : Int) (e : Ending) (w' : World) : Prop :=
  e = .returned (.int .i64 er) ∧ Off (fun q => q = m) w w' ∧ ((er ≠ 0 ∧ SlotAt w' b m v k s c E) ∨ (er = 0 ∧ ∃ p : Pl, p.i = i ∧ p.zs = zs ∧ SlotAt w' b m v k s c (E ++ [p])))
set_option maxHeartbeats 8000000 in
theorem sput_any {w : World} {b m : Nat} {v k s c : Int} {E : List Pl} (h : SlotAt w b m v k s c E) (v' k' s' i' c' : Int) (a : Option Addr) (n cp : Nat) (zs : List Int) (hn : zs.length = n) (hz : Bytes zs) (h1 : Nums .u8 w w.heap.size a zs) :
    Calls Tryz.prog 49 #[.pointer (some ⟨b, 0, none⟩), frV v' k' s' i' c' (.slice a n cp)] w (PutR w b m v k s c E i'.toNat zs (sErr v k s c v' k' s' i' c' (E.map Pl.ct) zs)) := by
  obtain ⟨w1, hw1⟩ : ∃ w1, w.alloc (.cells (frC v' k' s' i' c' (.slice a n cp)) 42) = w1 := ⟨_, rfl⟩
  have hlt := h.size
  have hbm : b ≠ m := fun e => h.map.not_cells _ _ _ (by rw [← e]; exact h.row)
  have hb1 : Below w.heap.size w w1 := by rw [← hw1]; exact (Below.refl _ w).alloc (Nat.le_refl _) _
  have hs1 : w1.heap.size = w.heap.size + 1 := by rw [← hw1]; simp
  have hbx : w1.heap[w.heap.size]? = some (.cells (frC v' k' s' i' c' (.slice a n cp)) 42 (0, 0)) := by rw [← hw1]; exact World.alloc_heap_new _ _
  obtain ⟨d0, d1, d2, d3, d4, d5⟩ := fr_block hbx
  have K1 := scheck_any (h.below hb1) v' k' s' i' c' a n cp zs hn
  have HS0 := Lib.hid h
  have HN := Lib.hid h1
  have HW1 : Hid (w.alloc (.cells #[.int .i64 v', .int .i64 k', .int .u32 s', .int .i64 i', .int .i64 c', .slice a n cp] 42) = w1) := Lib.hid hw1
  have HB1 := Lib.hid hb1
  have HZ : Hid (sErr v k s c v' k' s' i' c' (E.map Pl.ct) zs = 0 → _) := Lib.hid (sErr_zero (v := v) (k := k) (s := s) (c := c) (v' := v') (k' := k') (s' := s') (i' := i') (c' := c') (C := E.map Pl.ct) (zs := zs))
  have HNL := Lib.hid hn
  have HBY := Lib.hid hz
  have HBX := Lib.hid hbx
  generalize sErr v k s c v' k' s' i' c' (E.map Pl.ct) zs = SE at *
  clear h h1 hb1 hz hn hw1 hbx
  unfold frV frC at K1 ⊢
  have HG : Hid (∀ e w', _ → PutR w b m v k s c E i'.toNat zs SE e w') := Lib.hid (fun e w' (h : e = .returned (.int .i64 SE) ∧ Off (fun q => q = m) w w' ∧ ((SE ≠ 0 ∧ SlotAt w' b m v k s c E) ∨ (SE = 0 ∧ ∃ p : Pl, p.i = i'.toNat ∧ p.zs = zs ∧ SlotAt w' b m v k s c (E ++ [p])))) => h)
  generalize PutR w b m v k s c E i'.toNat zs SE = G at *
  go_enter Tryz.func49, Tryz.ntmps49
  go_wp2_with fail
  rw [HW1.out]
  go_wp2_with fail
  refine K1.mono ?_
  rintro e w2 ⟨rfl, hb2⟩
  have hb2w := HB1.out.trans (hb2.mono HB1.out.size)
  by_cases h0 : SE = 0
  · subst h0
    obtain ⟨⟨rfl, rfl, rfl, rfl⟩, hi0, hi1, hzs, hhas, htot⟩ := HZ.out rfl
    obtain ⟨j, rfl⟩ := Int.eq_ofNat_of_zero_le (a := i') hi0
    rw [Int.toNat_natCast] at hhas HG
    have hS2 := HS0.out.below hb2w
    have hnone : Pl.at E j = none := by
      have := Pl.has_ct E j
      rw [hhas] at this
      cases h9 : Pl.at E j with
      | none => rfl
      | some p => rw [h9] at this; cases this
    obtain ⟨nc, hnc, nc1, nc2, hEl, _⟩ := hS2.count
    have hjb : j ≤ 9223372036854775807 := by omega
    have hbx2 := (hb2.block _ (by omega)).trans HBX.out
    have SL : ∀ V, Below w2.heap.size w2 V → SlotAt V b m v k s c E := fun V hV => hS2.below hV
    have L1 : ∀ V, Below w2.heap.size w2 V → (Instr.loadAt 145 (.pointer (some ⟨b, 5, none⟩))).run Tryz.prog V = .ok (.map (some m)) V := fun V hV => by
      obtain ⟨d0, d1, d2, d3, d4, d5⟩ := (SL V hV).cells
      simp [Instr.loadAt, go_sem, d5]
    have BX : ∀ V, Below w2.heap.size w2 V → V.cell? ⟨w.heap.size, 3, none⟩ = some (.int .i64 (j : Int)) ∧ V.cell? ⟨w.heap.size, 5, none⟩ = some (.slice a n cp) := fun V hV => by
      obtain ⟨_, _, _, d3, _, d5⟩ := fr_block ((hV.block w.heap.size (by have := hb2.size; omega)).trans hbx2)
      exact ⟨d3, d5⟩
    have L2 : ∀ V, Below w2.heap.size w2 V → (Instr.loadAt 3 (.pointer (some ⟨w.heap.size, 3, none⟩))).run Tryz.prog V = .ok (.int .i64 (j : Int)) V := fun V hV => by
      have d3 := (BX V hV).1
      simp [Instr.loadAt, go_sem, d3]
    have L3 : ∀ V, Below w2.heap.size w2 V → (Instr.loadAt 40 (.pointer (some ⟨w.heap.size, 5, none⟩))).run Tryz.prog V = .ok (.slice a n cp) V := fun V hV => by
      have d5 := (BX V hV).2
      simp [Instr.loadAt, go_sem, d5]
    have HB2 := Lib.hid hb2w
    have HSL := Lib.hid SL
    have HHAS := Lib.hid (And.intro hi1 (And.intro hzs htot))
    have hn192 : n ≤ 192 := by have := HNL.out; omega
    have HNO := Lib.hid hnone
    clear K1 d0 d1 d2 d3 d4 d5 hb2 hb2w hS2 hbx2 BX SL hhas hzs htot hnone hi0 hi1 hEl hnc nc1 nc2
    go_wp2_with fail
    refine wp_region_FS 22 10 4 [21] (fun _ x V => ∃ A c2, x = .slice A n c2 ∧ PayAt V ⟨j, A, c2, zs⟩) (fun V => Below w2.heap.size w2 V) (fun xs V V' => ∃ A c2, xs 21 = .slice A n c2 ∧ PayAt V ⟨j, A, c2, zs⟩ ∧ MapAt V' m (E ++ [⟨j, A, c2, zs⟩]) ∧ Off (fun q => q = m) V V') (by kernel_rfl) (by kernel_rfl) (by rfl) (by kernel_rfl) (by rfl) (by simp) (fun W W' h hb => h.trans (hb.mono h.size)) (fun q x W W' ⟨A, c2, h1, h2⟩ hb => ⟨A, c2, h1, h2.below hb⟩) (Below.refl _ _).drew ?_
    repeat (first | (refine wpFS_step (wpF_nil rfl rfl rfl rfl ?_); simp only [wpF, Act.put, List.setIfInBounds_toArray, List.set_cons_succ, List.set_cons_zero]) | (refine wpFS_step (wpF_pure rfl rfl ?_); go_big_quiet_step (fail); refine wpQuiet_nil ?_; simp only [wpF]))
    refine wpFS_step (wpF_load _ rfl (by rfl) (by rfl) (by rfl) L1 ?_)
    simp only [wpF, Act.put, List.setIfInBounds_toArray, List.set_cons_succ, List.set_cons_zero]
    repeat (refine wpFS_step (wpF_pure rfl rfl ?_); go_big_quiet_step (fail); refine wpQuiet_nil ?_; simp only [wpF])
    refine wpFS_step (wpF_load _ rfl (by rfl) (by rfl) (by rfl) L2 ?_)
    simp only [wpF, Act.put, List.setIfInBounds_toArray, List.set_cons_succ, List.set_cons_zero]
    repeat (refine wpFS_step (wpF_pure rfl rfl ?_); go_big_quiet_step (fail); refine wpQuiet_nil ?_; simp only [wpF])
    refine wpFS_step (wpF_load _ rfl (by rfl) (by rfl) (by rfl) L3 ?_)
    simp only [wpF, Act.put, List.setIfInBounds_toArray, List.set_cons_succ, List.set_cons_zero]
    refine wpFS_step (wpF_callsrc 21 (f := 78) (args := #[.slice a n cp]) (by simp) rfl rfl rfl (fun x => by first | rfl | (simp [go_sem]; done)) (fun V hV => (clone_any a n cp zs V HNL.out (by omega) ((HN.out.below (HB2.out.trans (hV.mono HB2.out.size))).mono (HB2.out.trans (hV.mono HB2.out.size)).size)).mono fun e V' ⟨x, he, hm⟩ => ?_) ?_)
    · obtain ⟨A, c2, rfl, hp⟩ := hm.pay HHAS.out.2.1 HBY.out j
      exact ⟨_, he, ⟨A, c2, by rw [HNL.out], hp⟩, hm.2⟩
    simp only [wpF, Act.put, List.setIfInBounds_toArray, List.set_cons_succ, List.set_cons_zero]
    refine wpFS_upd rfl rfl rfl (fun xs V hV hx => ?_) ?_
    · obtain ⟨A, c2, e21, hp⟩ := hx 21 (by simp)
      obtain ⟨V', hrun, hmap, hoff, _⟩ := (HSL.out V hV).map.run_upd (P := Tryz.prog) (t := 145) Tryz.underlying145 Tryz.underlying3 ⟨j, A, c2, zs⟩ hjb HNO.out
      refine ⟨V', ?_, A, c2, e21, hp, hmap, hoff⟩
      simp only [Pl.val, HNL.out] at hrun
      simp only [fill, Act.put, Act.eval, e21]
      exact hrun
    simp only [wpFS]
    rintro xs V V' hV hx ⟨A, c2, e21, hp, hmap, hoff⟩
    have hSV := HSL.out V hV
    have hbV := HB2.out.trans (hV.mono HB2.out.size)
    have hncell : ∀ g cs, V.heap[g]? = some (.cells cs 5 (0, 0)) → ¬ (g = m) := fun g cs hg e => hSV.map.not_cells _ _ _ (by rw [← e]; exact hg)
    have hfin : SlotAt V' b m v k s c (E ++ [⟨j, A, c2, zs⟩]) := by
      refine ⟨(hoff.block b hSV.size hbm).trans hSV.row, hmap, fun q hq => ?_, fun q hq => ?_, hSV.good, ?_, hSV.word⟩
      · rcases List.mem_append.1 hq with hq | hq
        · exact (hSV.pays q hq).off hoff hncell
        · obtain rfl := List.mem_singleton.1 hq
          exact hp.off hoff hncell
      · rcases List.mem_append.1 hq with hq | hq
        · exact hSV.few q hq
        · obtain rfl := List.mem_singleton.1 hq
          exact HHAS.out.1
      · rw [List.map_append, List.map_singleton, Sl.tot_push]
        exact HHAS.out.2.2
    have HFIN := Lib.hid (HG.out (.returned (.int .i64 0)) V' ⟨rfl, (Off.of_below hbV).trans hoff (fun q _ hq => hq), .inr ⟨trivial, _, rfl, rfl, hfin⟩⟩)
    clear hp hmap hoff hSV hbV hncell hfin hV hx
    simp only [fill]
    generalize xs 21 = x21
    go_wp2
    exact HFIN.out
  · have hS2 := HS0.out.below hb2w
    have HFIN := Lib.hid (HG.out (.returned (.int .i64 SE)) w2 ⟨rfl, Off.of_below hb2w, .inl ⟨h0, hS2⟩⟩)
    clear K1 hS2 d0 d1 d2 d3 d4 d5 hb2 hb2w
    go_wp2
    exact HFIN.out
end Go.Proofs.YtfdbcfkjablnkaaGreat

namespace Go.Proofs.YtfdbcfkjablnkaaGreat
open Go.RowKit
set_option maxRecDepth 100000
namespace Tb
section
variable {T : List Ms} {n : Int} {x y : Ms} {f : Fr} {r : Nat}
theorem find_put1 (h : find T f.s = some x) : find (put1 T f) f.s = some (x.push f) := by
  unfold find put1
  rw [List.find?_map]
  have : ((fun y : Ms => y.s == f.s) ∘ fun x => if x.s = f.s then x.push f else x) = fun x => x.s == f.s := by
    funext x
    simp only [Function.comp]
    split <;> rfl
  rw [this]
  unfold find at h
  rw [h, Option.map_some, if_pos (find_mem h).2]
theorem find_app (h : find T n = none) (hy : y.s = n) : find (T ++ [y]) n = some y := by
  unfold find at h ⊢
  rw [List.find?_append, h]
  simp [hy]
theorem find_drop {k : Int} (h : find T n = none) : find (drop T k) n = none := by
  rw [find_none] at h ⊢
  exact fun x hx => h x (List.mem_filter.1 hx).1
theorem came_full {ev : Bool} {old : Int} (h : find T n = some x) (hf : (x.C.length : Int) = x.c) : came T n ev old = (drop T n, ⟨Sl.cat x.C x.C.length, true, ev, old⟩) := by
  unfold came
  rw [h]
  exact if_pos (by simp [Ms.full, hf])
theorem came_part {ev : Bool} {old : Int} (h : find T n = some x) (hf : (x.C.length : Int) ≠ x.c) : came T n ev old = (T, ⟨[], false, ev, old⟩) := by
  unfold came
  rw [h]
  exact if_neg (by simp [Ms.full, hf])
theorem put_head (h : chk f.v f.k f.i f.c ≠ 0) : put r T f = ⟨chk f.v f.k f.i f.c, T, .no⟩ := if_pos h
theorem put_short (h : chk f.v f.k f.i f.c = 0) (hz : f.zs = []) : put r T f = ⟨13, T, .no⟩ := by
  unfold put
  rw [if_neg (by simpa using h), if_pos hz]
theorem put_there (h : chk f.v f.k f.i f.c = 0) (hz : f.zs ≠ []) (hx : find T f.s = some x) : put r T f = if x.err f ≠ 0 then ⟨x.err f, T, .no⟩ else .ok (came (put1 T f) f.s false 0) := by
  unfold put
  rw [if_neg (by simpa using h), if_neg hz, hx]
theorem put_new (h : chk f.v f.k f.i f.c = 0) (hz : f.zs ≠ []) (hx : find T f.s = none) : put r T f = if (Ms.new f).err f ≠ 0 then ⟨(Ms.new f).err f, T, .no⟩
    else if T.length = r then (if Sr.after f.s (old T) = true then .ok (came (drop T (old T) ++ [(Ms.new f).push f]) f.s true (old T)) else ⟨18, T, .no⟩)
    else .ok (came (T ++ [(Ms.new f).push f]) f.s false 0) := by
  unfold put
  rw [if_neg (by simpa using h), if_neg hz, hx]
end
end Tb
theorem nodup_same {α β : Type} {g : α → β} : ∀ {l : List α} {x y : α}, (l.map g).Nodup → x ∈ l → y ∈ l → g x = g y → x = y
  | [], x, y, _, hx, _, _ => by cases hx
  | z :: r, x, y, hn, hx, hy, e => by
    rw [List.map_cons, List.nodup_cons] at hn
    rcases List.mem_cons.1 hx with rfl | hx2
    · rcases List.mem_cons.1 hy with rfl | hy2
      · rfl
      · exact absurd (List.mem_map.2 ⟨y, hy2, e.symm⟩) hn.1
    · rcases List.mem_cons.1 hy with rfl | hy2
      · exact absurd (List.mem_map.2 ⟨x, hx2, e⟩) hn.1
      · exact nodup_same hn.2 hx2 hy2 e
/-- a table of these messages -/
def TblOf (w : World) (S : Nat → Prop) (b r : Nat) (T : List Tb.Ms) : Prop := ∃ m A n cp X, TblAt w S b r m A n cp X ∧ X.map Sx.ms = T
/-- what Put leaves -/
def TPutR (w : World) (S : Nat → Prop) (b r : Nat) (T : List Tb.Ms) (f : Fr) (e : Ending) (w' : World) : Prop :=
  ∃ A2 c2, e = .returned (.tuple #[outV A2 (Tb.put r T f).o.zs.length c2 (Tb.put r T f).o.wh (Tb.put r T f).o.ev (Tb.put r T f).o.old, .int .i64 (Tb.put r T f).e]) ∧ (Tb.put r T f).o.zs.length ≤ c2 ∧
    NumsS .u8 w' (fun g => w.heap.size ≤ g ∧ g < w'.heap.size) A2 (Tb.put r T f).o.zs ∧ TOff S w w' ∧ TblOf w' (fun q => S q ∨ w.heap.size ≤ q) b r (Tb.put r T f).T
section
variable {w w' : World} {S S' : Nat → Prop} {b r m n cp : Nat} {A : Option Addr} {X : List Sx}
/-- a refused frame -/
theorem TPutR.no {f : Fr} {er : Int} (h : TblAt w' S b r m A n cp X) (ho : TOff S w w') (hp : Tb.put r (X.map Sx.ms) f = ⟨er, X.map Sx.ms, .no⟩) : TPutR w S b r (X.map Sx.ms) f (.returned (.tuple #[outV none 0 0 false false 0, .int .i64 er])) w' := by
  unfold TPutR
  rw [hp]
  exact ⟨none, 0, rfl, Nat.le_refl _, NumsS.nil, ho, m, A, n, cp, X, h.mono fun _ h => .inl h, rfl⟩
/-- the table behind a slot's Put -/
theorem TblAt.put1 {x x' : Sx} (h : TblAt w S b r m A n cp X) (hx : x ∈ X) (hx' : x'.b = x.b ∧ x'.m = x.m ∧ x'.s = x.s) (hat : x'.At w') (ho : Off (fun q => q = x.m) w w') :
    TOff S w w' ∧ TblAt w' S b r m A n cp (X.map fun y => if y.s = x.s then x' else y) := by
  obtain ⟨hbm, hgn, hxs⟩ := h.apart
  obtain ⟨n1, n2, n3⟩ := hxs x hx
  have hxm := SlotAt.map (h.slots x hx)
  have hto : TOff (fun q => q = x.m) w w' := TOff.one ho rfl (fun cs => hxm.not_cells _ _ _) (fun cs => hxm.not_cells _ _ _)
  have huniq : ∀ y ∈ X, y.s = x.s → y = x := fun y hy e => nodup_same h.keys.1 hy hx e
  have hs : ((X.map fun y => if y.s = x.s then x' else y).map Sx.s) = X.map Sx.s := by
    rw [List.map_map]
    refine List.map_congr_left fun y hy => ?_
    simp only [Function.comp]
    split
    · rename_i e; rw [hx'.2.2, e]
    · rfl
  have hkey : ((X.map fun y => if y.s = x.s then x' else y).map Sx.key) = X.map Sx.key := by
    rw [List.map_map]
    refine List.map_congr_left fun y hy => ?_
    simp only [Function.comp]
    split
    · rename_i e
      have := huniq y hy e
      subst this
      simp [Sx.key, hx']
    · rfl
  have hm : ((X.map fun y => if y.s = x.s then x' else y).map Sx.m) = X.map Sx.m := by
    rw [List.map_map]
    refine List.map_congr_left fun y hy => ?_
    simp only [Function.comp]
    split
    · rename_i e
      have := huniq y hy e
      subst this
      exact hx'.2.1
    · rfl
  refine ⟨hto.mono fun q _ e => by rw [e]; exact h.inS.2.2.2 x hx, (ho.block b h.lt (Ne.symm n1)).trans h.row, by rw [List.length_map]; exact h.len, ?_, ?_, fun y hy => ?_, by rw [hm]; exact h.maps, h.room, h.few, h.inS.1, h.inS.2.1, h.inS.2.2.1, fun y hy => ?_⟩
  · rw [hs]
    exact tord_off h.ord ho fun g hg e => n3 g hg e.symm
  · rw [hkey]
    exact h.map.off ho (Ne.symm n2)
  · obtain ⟨z, hz, e⟩ := List.mem_map.1 hy
    split at e
    · subst e
      exact hat
    · rename_i hne
      subst e
      refine (h.slots z hz).toff hto fun e => hne ?_
      rw [nodup_same (List.nodup_cons.1 h.maps).2 hz hx e]
  · obtain ⟨z, hz, e⟩ := List.mem_map.1 hy
    split at e
    · subst e
      rw [hx'.2.1]
      exact h.inS.2.2.2 x hx
    · subst e
      exact h.inS.2.2.2 z hz
/-- a map that is none of the table's is turned -/
theorem TblAt.strange {q : Nat} (h : TblAt w S b r m A n cp X) (hq : ∀ cs t x, w.heap[q]? ≠ some (.cells cs t x)) (hm : m ≠ q) (hX : ∀ x ∈ X, x.m ≠ q) (hf : Off (fun p => p = q) w w') : TblAt w' S b r m A n cp X := by
  refine ⟨(hf.block b h.lt fun e => hq _ _ _ (by rw [← e]; exact h.row)).trans h.row, h.len, tord_off h.ord hf fun g hg e => ?_, h.map.off hf hm, fun x hx => (h.slots x hx).off hf (fun cs hc e => hq _ _ _ (by rw [← e]; exact hc)) (hX x hx) (fun g cs hc e => hq _ _ _ (by rw [← e]; exact hc)), h.maps, h.room, h.few, h.inS⟩
  obtain ⟨cs', hc⟩ := tord_row h.ord hg
  exact hq _ _ _ (by rw [← e]; exact hc)
theorem TOff.keep {q : Nat} (h : TOff S w w') (hq : q < w.heap.size) (hn : ¬ S q) : w'.heap[q]? = w.heap[q]? := Off.block h q hq fun e => hn e.1
theorem TblAt.small (h : TblAt w S b r m A n cp X) : TblAt w (fun q => S q ∧ q < w.heap.size) b r m A n cp X :=
  ⟨h.row, h.len, h.ord, h.map, h.slots, h.maps, h.room, h.few, ⟨h.inS.1, h.lt⟩, ⟨h.inS.2.1, h.map.lt⟩, fun g hg => ⟨h.inS.2.2.1 g hg, (h.ord.lt g hg).2⟩, fun x hx => ⟨h.inS.2.2.2 x hx, (SlotAt.map (h.slots x hx)).lt⟩⟩
theorem TblAt.kept1 {x : Sx} (h : TblAt w S b r m A n cp X) (hx : x ∈ X) (hat : x.At w') (ho : Off (fun q => q = x.m) w w') : TOff S w w' ∧ TblAt w' S b r m A n cp X := by
  obtain ⟨h1, h2⟩ := h.put1 hx (x' := x) ⟨rfl, rfl, rfl⟩ hat ho
  have : (X.map fun y => if y.s = x.s then x else y) = X := by
    conv => rhs; rw [← List.map_id X]
    refine List.map_congr_left fun y hy => ?_
    split
    · rename_i e
      exact (nodup_same h.keys.1 hy hx e).symm
    · rfl
  rw [this] at h2
  exact ⟨h1, h2⟩
theorem ms_put1 {x x' : Sx} {f : Fr} (hk : (X.map Sx.s).Nodup) (hx : x ∈ X) (hs : x.s = f.s) (hm : x'.ms = x.ms.push f) : (X.map fun y => if y.s = x.s then x' else y).map Sx.ms = Tb.put1 (X.map Sx.ms) f := by
  unfold Tb.put1
  rw [List.map_map, List.map_map]
  refine List.map_congr_left fun y hy => ?_
  simp only [Function.comp]
  by_cases e : y.s = x.s
  · rw [if_pos e, hm, nodup_same hk hy hx e, if_pos (show x.ms.s = f.s from hs)]
  · rw [if_neg e, if_neg (show ¬ y.ms.s = f.s from fun e2 => e (e2.trans hs.symm))]
/-- the end of each way on which the frame came -/
theorem tput_end {W4 W5 : World} {S4 : Nat → Prop} {X' : List Sx} {x' : Sx} {ev : Bool} {old : Int} {T : List Tb.Ms} {f : Fr} {q0 : Nat} {e : Ending} (hp : Tb.put r T f = .ok (Tb.came (X'.map Sx.ms) x'.s ev old)) (hT4 : TblAt W4 S4 b r m A n cp X') (hx' : x' ∈ X')
    (h04 : TOff S w W4) (hS4 : ∀ q, S4 q → S q ∨ w.heap.size ≤ q) (hR : W4.heap[q0]? = some (.cells (outC none 0 0 false false 0) 54 (0, 0))) (hq0 : w.heap.size ≤ q0) (hq1 : ¬ S4 q0) (hcame : TCameR W4 S4 b r m A n cp X' x' ev old e W5) :
    ∃ A2 q cp2 wh, e = .returned (.agg (outC A2 q cp2 wh ev old)) ∧ W5.heap[q0]? = some (.cells (outC none 0 0 false false 0) 54 (0, 0)) ∧ TPutR w S b r T f (.returned (.tuple #[.agg (outC A2 q cp2 wh ev old), .int .i64 0])) (W5.setRow q0 (outC A2 q cp2 wh ev old)) := by
  have hlt := (Array.getElem?_eq_some_iff.1 hR).1
  have hsz := TOff.size h04
  have hfind := hT4.find hx'
  rcases hcame with ⟨hne, rfl, hb⟩ | ⟨heq, A2, c2, rfl, hc2, hnum, hto, hT5⟩
  · have hR5 := (hb.block _ hlt).trans hR
    refine ⟨none, 0, 0, false, rfl, hR5, ?_⟩
    have hc := Tb.came_part (ev := ev) (old := old) hfind (by show ((x'.E.map Pl.ct).length : Int) ≠ x'.c; rw [List.length_map]; exact hne)
    rw [hc] at hp
    unfold TPutR
    rw [hp]
    refine ⟨none, 0, rfl, Nat.le_refl _, NumsS.nil, tset_new (TOff.trans (S' := S) h04 (TOff.of_below hb) fun _ _ h => h) hq0 _, m, A, n, cp, X', ?_, rfl⟩
    exact ((hT4.below hb).other hR5 ⟨by decide, by decide, by decide, by decide⟩ ((Off.refl (fun p => p = q0) W5).setRow rfl _)).mono hS4
  · have hR5 := (TOff.keep hto hlt hq1).trans hR
    refine ⟨A2, _, c2, true, rfl, hR5, ?_⟩
    have hc := Tb.came_full (ev := ev) (old := old) hfind (by show ((x'.E.map Pl.ct).length : Int) = x'.c; rw [List.length_map]; exact heq)
    rw [hc] at hp
    have hlen : (Sx.ms x').C.length = x'.E.length := by show (x'.E.map Pl.ct).length = _; rw [List.length_map]
    unfold TPutR
    rw [hp]
    have hsz5 := TOff.size hto
    refine ⟨A2, c2, ?_, ?_, ?_, tset_new (TOff.trans (S' := S4) h04 hto fun q hq h => (hS4 q h).resolve_right (by omega)) hq0 _, m, A, n - 1, cp, X'.filter fun y => y.s != x'.s, ?_, (filter_ms _ _).symm⟩
    · simp only [Tb.Res.ok, hlen]
      rfl
    · simp only [Tb.Res.ok, hlen]
      exact hc2
    · simp only [Tb.Res.ok, hlen]
      intro h0
      obtain ⟨g, off, e, ⟨hg1, hg2⟩, hcl⟩ := hnum h0
      refine ⟨g, off, e, ⟨by omega, by simp [World.setRow]; omega⟩, fun j c hj => ?_⟩
      exact (World.cell?_of_block (setRow_other _ _ _ _ (by show g ≠ q0; omega))).trans (hcl j c hj)
    · exact (hT5.other hR5 ⟨by decide, by decide, by decide, by decide⟩ ((Off.refl (fun p => p = q0) W5).setRow rfl _)).mono hS4
end
end Go.Proofs.YtfdbcfkjablnkaaGreat

namespace Go.Proofs.YtfdbcfkjablnkaaGreat
open Go.RowKit Go.Shelf
set_option maxRecDepth 100000

/-- the cells of frames, one behind the other -/
def flatF (fs : List Fr) : List Value := fs.flatMap fun f => f.cs.toList
theorem flatF_len (fs : List Fr) : (flatF fs).length = fs.length * 6 := by
  induction fs with
  | nil => rfl
  | cons f r ih => unfold flatF at *; rw [List.flatMap_cons, List.length_append, ih, List.length_cons]; have : f.cs.toList.length = 6 := rfl; omega
theorem flatF_push (fs : List Fr) (f : Fr) : flatF (fs ++ [f]) = flatF fs ++ f.cs.toList := by unfold flatF; simp
theorem flatF_at : ∀ {fs : List Fr} {j q : Nat} {f : Fr} {u : Value}, fs[j]? = some f → f.cs[q]? = some u → (flatF fs)[j * 6 + q]? = some u
  | [], _, _, _, _, h, _ => by simp at h
  | g :: r, 0, q, f, u, h, hq => by
    simp only [List.getElem?_cons_zero, Option.some.injEq] at h
    subst h
    have hlt : q < 6 := (Array.getElem?_eq_some_iff.1 hq).1
    unfold flatF
    rw [List.flatMap_cons, List.getElem?_append_left (by show 0 * 6 + q < 6; omega), Nat.zero_mul, Nat.zero_add, Array.getElem?_toList]
    exact hq
  | g :: r, j + 1, q, f, u, h, hq => by
    have ih := flatF_at (fs := r) (j := j) (q := q) (f := f) (u := u) (by simpa using h) hq
    unfold flatF at *
    have h6 : g.cs.toList.length = 6 := rfl
    rw [List.flatMap_cons, List.getElem?_append_right (by rw [h6]; omega), h6, show (j + 1) * 6 + q - 6 = j * 6 + q by omega]
    exact ih
/-- two rows of unlike types lie apart -/
theorem own_apart {W : World} {base e e2 size size2 n m : Nat} {v u : Value} {xs ys : List Value} (h : W.ownsRow base e size v n xs) (h2 : W.ownsRow base e2 size2 u m ys) (hne : e ≠ e2) : v.ownBlock = none ∨ v.ownBlock ≠ u.ownBlock := by
  rcases h.2 with ⟨rfl, _⟩ | ⟨g, cap, cur, rfl, _, hh, _⟩
  · exact .inl rfl
  · right
    rcases h2.2 with ⟨rfl, _⟩ | ⟨g2, cap2, cur2, rfl, _, hh2, _⟩
    · simp [Value.ownBlock]
    · intro e3
      simp only [Value.ownBlock, Option.some.injEq] at e3
      subst e3
      rw [hh] at hh2
      injection hh2 with hh2
      injection hh2 with _ ht
      exact hne ht
theorem own_below6 {W W' : World} {base e size n : Nat} {v : Value} {xs : List Value} (h : W.ownsRow base e size v n xs) (hb : Below W.heap.size W W') : W'.ownsRow base e size v n xs := by
  refine ⟨h.1, ?_⟩
  rcases h.2 with h | ⟨g, cap, cur, hv, hg, hh, r⟩
  · exact .inl h
  · exact .inr ⟨g, cap, cur, hv, hg, (hb.block g (Array.getElem?_eq_some_iff.1 hh).1).trans hh, r⟩
/-- frames that lie there, their payloads with them -/
def FrsIn (w : World) (B : Nat) (A : Option Addr) (fs : List Fr) : Prop :=
  ∀ (j : Nat) (f : Fr), fs[j]? = some f → ∃ b, A = some ⟨b, 0, none⟩ ∧ b < B ∧ (∀ (q : Nat) (u : Value), f.cs[q]? = some u → w.cell? ⟨b, j * 6 + q, none⟩ = some u) ∧ f.zs.length ≤ f.cp ∧ Nums .u8 w B f.a f.zs
theorem FrsIn.below {w w' : World} {B : Nat} {A : Option Addr} {fs : List Fr} (h : FrsIn w B A fs) (hb : Below B w w') : FrsIn w' B A fs := fun j f hj => by
  obtain ⟨b, e, hB, hc, hl, hn⟩ := h j f hj
  exact ⟨b, e, hB, fun q u hq => (hb.cell (p := ⟨b, j * 6 + q, none⟩) hB).trans (hc q u hq), hl, hn.below hb⟩
theorem FrsIn.mono {w : World} {B B' : Nat} {A : Option Addr} {fs : List Fr} (h : FrsIn w B A fs) (hB : B ≤ B') : FrsIn w B' A fs := fun j f hj => by
  obtain ⟨b, e, hb, hc, hl, hn⟩ := h j f hj
  exact ⟨b, e, by omega, hc, hl, hn.mono hB⟩

/-- a row of frames, a row of numbers; the payloads in neither -/
structure FL (tf ti : TypeId) (base : Nat) (W : World) (v u : Value) (fs : List Fr) (es : List Int) : Prop where
  out : W.ownsRow base tf 6 v fs.length (flatF fs)
  err : W.ownsRow base ti 1 u es.length (es.map (Value.int .i64))
  pay : ∀ f ∈ fs, f.zs.length ≤ f.cp ∧ NumsS .u8 W (fun b => b < W.heap.size ∧ v.ownBlock ≠ some b ∧ u.ownBlock ≠ some b) f.a f.zs
section
variable {tf ti : TypeId} {base : Nat} {W W3 W4 W6 : World} {v v' u u' : Value} {fs : List Fr} {es : List Int}
theorem FL.start (tf ti : TypeId) (base : Nat) (W : World) : FL tf ti base W (.slice none 0 0) (.slice none 0 0) [] [] := ⟨World.ownsRow_nil _ _ _ _, World.ownsRow_nil _ _ _ _, fun f hf => by cases hf⟩
theorem FL.below {W' : World} (h : FL tf ti base W v u fs es) (hb : Below W.heap.size W W') : FL tf ti base W' v u fs es :=
  ⟨own_below6 h.out hb, own_below6 h.err hb, fun f hf => ⟨(h.pay f hf).1, ((h.pay f hf).2.keeps (KeepS.of_below hb fun _ hk => hk.1)).more fun _ hk => ⟨Nat.lt_of_lt_of_le hk.1 hb.size, hk.2⟩⟩⟩
theorem FL.err4 (h : FL tf ti base W v u fs es) (hne : tf ≠ ti) (hg : W.grownBy W4 v.ownBlock) : W4.ownsRow base ti 1 u es.length (es.map (Value.int .i64)) := h.err.kept hg (own_apart h.err h.out (Ne.symm hne))
/-- a frame and a number more -/
theorem FL.push {f : Fr} {e : Int} {o : Obj} (h : FL tf ti base W v u fs es) (hne : tf ≠ ti) (hb : Below W.heap.size W W3) (hf : f.zs.length ≤ f.cp) (hn : NumsS .u8 W3 (fun b => W.heap.size ≤ b ∧ b < W3.heap.size) f.a f.zs)
    (hown : W4.ownsRow base tf 6 v' (fs.length + 1) (flatF fs ++ f.cs.toList)) (hg : W3.grownBy W4 v.ownBlock) (hat : v'.ownBlock = v.ownBlock ∨ v'.ownBlock = some W3.heap.size)
    (hown2 : W6.ownsRow base ti 1 u' (es.length + 1) (es.map (Value.int .i64) ++ [.int .i64 e])) (hg2 : (W4.alloc o).grownBy W6 u.ownBlock) (hat2 : u'.ownBlock = u.ownBlock ∨ u'.ownBlock = some (W4.alloc o).heap.size) :
    FL tf ti base W6 v' u' (fs ++ [f]) (es ++ [e]) := by
  have hs3 := hb.size
  have hs4 := hg.size
  have hs6 := hg2.size
  rw [World.size_alloc] at hs6 hat2
  have he4 := (h.below hb).err4 hne hg
  -- what lies below W3's end, in neither row
  have key : ∀ a zs, NumsS .u8 W3 (fun b => b < W3.heap.size ∧ v.ownBlock ≠ some b ∧ u.ownBlock ≠ some b) a zs → NumsS .u8 W6 (fun b => b < W6.heap.size ∧ v'.ownBlock ≠ some b ∧ u'.ownBlock ≠ some b) a zs := fun a zs hz => by
    have h4 : KeepS (fun b => b < W3.heap.size ∧ v.ownBlock ≠ some b ∧ u.ownBlock ≠ some b) W3 W6 :=
      ⟨by omega, fun k hk => (hg2.block k (by rw [World.size_alloc]; omega) (fun e => hk.2.2 e.symm)).trans ((Below.heap_alloc W4 o k (by omega)).trans (hg.block k hk.1 (fun e => hk.2.1 e.symm)))⟩
    refine (hz.keeps h4).more fun k hk => ⟨by omega, fun e3 => ?_, fun e3 => ?_⟩
    · rcases hat with h5 | h5
      · exact hk.2.1 (h5.symm.trans e3)
      · rw [h5] at e3; injection e3 with e3; omega
    · rcases hat2 with h5 | h5
      · exact hk.2.2 (h5.symm.trans e3)
      · rw [h5] at e3; injection e3 with e3; omega
  refine ⟨?_, ?_, fun g hg' => ?_⟩
  · rw [flatF_push, List.length_append, List.length_singleton]
    refine (hown.alloc o).kept hg2 ?_
    rcases own_apart hown he4 hne with h5 | h5
    · exact .inl h5
    · exact .inr h5
  · rw [List.length_append, List.length_singleton, List.map_append]
    exact hown2
  · rcases List.mem_append.1 hg' with hg' | hg'
    · have h5 := (h.below hb).pay g hg'
      exact ⟨h5.1, key _ _ h5.2⟩
    · obtain rfl : g = f := by simpa using hg'
      refine ⟨hf, key _ _ (hn.more fun k hk => ⟨hk.2, fun e => ?_, fun e => ?_⟩)⟩
      · have := (h.out.lt k e).2; omega
      · have := (h.err.lt k e).2; omega
theorem FL.lies (h : FL tf ti base W v u fs es) : ∃ A c, v = .slice A fs.length c ∧ fs.length ≤ c ∧ FrsIn W W.heap.size A fs := by
  rcases h.out.2 with ⟨rfl, h0⟩ | ⟨g, cap, cur, rfl, hbg, hh, hle, _⟩
  · rw [List.eq_nil_of_length_eq_zero h0]
    exact ⟨none, 0, rfl, Nat.le_refl _, fun i f hi => by simp at hi⟩
  · refine ⟨_, cap, rfl, hle, fun j f hj => ⟨g, rfl, (Array.getElem?_eq_some_iff.1 hh).1, fun q u hq => ?_, (h.pay f (List.mem_of_getElem? hj)).1, (h.pay f (List.mem_of_getElem? hj)).2.nums fun _ hk => hk.1⟩⟩
    have h1 := h.out.cells (g := g) rfl (j * 6 + q) u (flatF_at hj hq)
    rw [Addr.add_lit, Nat.zero_add] at h1
    exact h1
end
end Go.Proofs.YtfdbcfkjablnkaaGreat

namespace Go.Proofs.YtfdbcfkjablnkaaGreat
open Go.RowKit
set_option maxRecDepth 100000

theorem rnew_any13 (v k s i c : Int) (w : World) : Calls Tryz.prog 43 #[hdV v k s i c] w fun e w' => e = .returned (frV v k s 0 c (.slice none 0 0)) ∧ Below w.heap.size w w' := by
  unfold hdV frV frC
  go_enter Tryz.func43, Tryz.ntmps43
  go_wp2
  generalize hW1 : w.alloc (Obj.cells #[Value.int .i64 v, Value.int .i64 k, Value.int .u32 s, Value.int .i64 0, Value.int .i64 c] 50) = W1
  have hb1 : Below w.heap.size w W1 := by rw [← hW1]; exact (Below.refl _ w).alloc (Nat.le_refl _) _
  have hs1 : w.heap.size + 1 = W1.heap.size := by rw [← hW1]; simp
  generalize hW2 : W1.alloc (Obj.cells #[Value.int .i64 v, Value.int .i64 k, Value.int .u32 s, Value.int .i64 0, Value.int .i64 c, Value.slice none 0 0] 84) = W2
  have hb2 : Below w.heap.size w W2 := by rw [← hW2]; exact hb1.alloc hb1.size _
  have hh : W2.heap[W1.heap.size]? = some (.cells (frC v k s 0 c (.slice none 0 0)) 84 (0, 0)) := by rw [← hW2]; exact World.alloc_heap_new _ _
  rw [← hs1] at hh
  obtain ⟨d0, d1, d2, d3, d4, d5⟩ := fr_block hh
  refine bodyPost_ret (by simp [results, Tryz.results43, go_sem, d0, d1, d2, d3, d4, d5]; try rfl) rfl ?_
  exact ⟨rfl, hb2⟩
theorem made_below {e : TypeId} {k : IntKind} {w w1 w2 : World} {L : List Int} {v : Value} (h : MadeK e k w w1 L v) (hb : Below w1.heap.size w1 w2) : MadeK e k w w2 L v := ⟨own_below6 h.1 hb, h.2.trans (hb.mono h.2.size)⟩
theorem tot_app (C D : Sl.Ct) : Sl.tot (C ++ D) = Sl.tot C + Sl.tot D := by simp [Sl.tot]
theorem tot_take (fs : List Fr) (j : Nat) : Sl.tot ((fs.take j).map Fr.ct) ≤ Sl.tot (fs.map Fr.ct) := by
  have e : fs.map Fr.ct = (fs.take j).map Fr.ct ++ (fs.drop j).map Fr.ct := by rw [← List.map_append, List.take_append_drop]
  rw [e, tot_app]
  omega
set_option maxHeartbeats 4000000 in
theorem rsize_any {w : World} (v k s i : Int) {c : Int} {A : Option Addr} {n cp : Nat} {fs : List Fr} (h : RefAt w c A n cp fs) :
    Calls Tryz.prog 70 #[frV v k s i c (.slice A n cp)] w fun e w' => e = .returned (.int .i64 (Sl.tot (fs.map Fr.ct) : Int)) ∧ Below w.heap.size w w' := by
  have hnl := h.few_len
  have hnc := h.room
  have hlen := h.len
  have hmost := h.most
  obtain ⟨w1, hw1⟩ : ∃ w1, w.alloc (.cells (frC v k s i c (.slice A n cp)) 84) = w1 := ⟨_, rfl⟩
  have hb1 : Below w.heap.size w w1 := by rw [← hw1]; exact (Below.refl _ w).alloc (Nat.le_refl _) _
  have hbx : w1.heap[w.heap.size]? = some (.cells (frC v k s i c (.slice A n cp)) 84 (0, 0)) := by rw [← hw1]; exact World.alloc_heap_new _ _
  obtain ⟨_, _, _, _, _, d5⟩ := fr_block hbx
  have HAT := Lib.hid (h.at'.below hb1)
  have HW1 : Hid (w.alloc (.cells #[.int .i64 v, .int .i64 k, .int .u32 s, .int .i64 i, .int .i64 c, .slice A n cp] 84) = w1) := Lib.hid hw1
  have HB1 := Lib.hid hb1
  have HLEN := Lib.hid hlen
  have HMO := Lib.hid hmost
  clear h hw1 hb1 hbx hlen hmost
  unfold frV frC
  go_enter Tryz.func70, Tryz.ntmps70
  go_wp2_with fail
  rw [HW1.out]
  go_loopw [3, 4] (fun u x wr => ∃ j : Nat, j ≤ n ∧ x = .int .i64 (j : Int) ∧ u = .int .i64 (Sl.tot ((fs.take j).map Fr.ct) : Int) ∧ wr = w1) (fun _ x _ => n - (intOf x).toNat)
  case atStart => exact ⟨0, by omega, rfl, rfl, rfl⟩
  case round =>
    obtain ⟨j, hj, rfl, rfl, rfl⟩ := hrel
    by_cases hjn : j < n
    · have hjn' : (j : Int) < (n : Int) := by omega
      obtain ⟨f, hf⟩ : ∃ f, fs[j]? = some f := ⟨_, List.getElem?_eq_getElem (by rw [HLEN.out]; exact hjn)⟩
      obtain ⟨g, off, rfl, hg, a0, a1, a2, a3, a4, a5⟩ := HAT.out.six hf
      have hT := tot_take fs j
      have hT1 := tot_take fs (j + 1)
      have hmo := HMO.out
      have e1 : Sl.tot ((fs.take (j + 1)).map Fr.ct) = Sl.tot ((fs.take j).map Fr.ct) + f.zs.length := by
        rw [List.take_add_one, hf]
        show Sl.tot (List.map Fr.ct (fs.take j ++ [f])) = _
        rw [List.map_append]
        exact Sl.tot_push _ _
      have HE1 := Lib.hid e1
      have hle : Sl.tot ((fs.take j).map Fr.ct) + f.zs.length ≤ 192 := by omega
      clear a0 a1 a2 a3 a4 hf e1 hT1
      generalize Sl.tot ((fs.take j).map Fr.ct) = T at *
      go_wp2
      go_roundw
      case rel => exact ⟨j + 1, by omega, by go_num, by rw [HE1.out]; go_num, trivial⟩
      case measure => simp [intOf]; omega
    · have hjn' : j = n := by omega
      subst hjn'
      have HT : Hid (Sl.tot ((fs.take j).map Fr.ct) = Sl.tot (fs.map Fr.ct)) := by
        show _ = _
        rw [List.take_of_length_le (by rw [HLEN.out]; omega)]
      go_wp2
      go_ret
      exact ⟨by rw [← HT.out]; rfl, HB1.out⟩
theorem rfull_any {w : World} (v k s i : Int) {c : Int} {A : Option Addr} {n cp : Nat} (hc : 1 ≤ c) :
    Calls Tryz.prog 45 #[frV v k s i c (.slice A n cp)] w fun e w' => e = .returned (.bool ((n : Int) == c)) ∧ Below w.heap.size w w' := by
  have hc' : 0 < c := by omega
  unfold frV frC
  go_enter Tryz.func45, Tryz.ntmps45
  go_wp2
  go_ret
  exact ⟨rfl, (Below.refl _ w).alloc (Nat.le_refl _) _⟩
set_option maxHeartbeats 4000000 in
theorem rbytes_any {w : World} (v k s i : Int) {A : Option Addr} {n cp q : Nat} {fs : List Fr} (h : RefAt w (q : Int) A n cp fs) :
    Calls Tryz.prog 46 #[frV v k s i (q : Int) (.slice A n cp)] w fun e w' => ∃ u, e = .returned u ∧ MadeK 5 .u8 w w' (Sl.cat (fs.map Fr.ct) q) u := by
  obtain ⟨i0, hi, hz0, hz1, hz2⟩ := info_parts byteInfo
  have hq2 : q ≤ 255 := by have := h.small; omega
  have hnc := h.room
  have hlen := h.len
  have hmost := h.most
  obtain ⟨w1, hw1⟩ : ∃ w1, w.alloc (.cells (frC v k s i (q : Int) (.slice A n cp)) 84) = w1 := ⟨_, rfl⟩
  have hb1 : Below w.heap.size w w1 := by rw [← hw1]; exact (Below.refl _ w).alloc (Nat.le_refl _) _
  have hs1 : w.heap.size < w1.heap.size := by rw [← hw1]; simp
  have hbx : w1.heap[w.heap.size]? = some (.cells (frC v k s i (q : Int) (.slice A n cp)) 84 (0, 0)) := by rw [← hw1]; exact World.alloc_heap_new _ _
  have HX : Hid (∀ W, Below w1.heap.size w1 W → W.cell? ⟨w.heap.size, 0, none⟩ = some (.int .i64 v) ∧ W.cell? ⟨w.heap.size, 1, none⟩ = some (.int .i64 k) ∧ W.cell? ⟨w.heap.size, 2, none⟩ = some (.int .u32 s) ∧ W.cell? ⟨w.heap.size, 3, none⟩ = some (.int .i64 i) ∧ W.cell? ⟨w.heap.size, 4, none⟩ = some (.int .i64 (q : Int)) ∧ W.cell? ⟨w.heap.size, 5, none⟩ = some (.slice A n cp)) :=
    Lib.hid fun W hW => fr_block ((hW.block _ hs1).trans hbx)
  have HRA := Lib.hid (h.below hb1)
  have HW1 : Hid (w.alloc (.cells #[.int .i64 v, .int .i64 k, .int .u32 s, .int .i64 i, .int .i64 (q : Int), .slice A n cp] 84) = w1) := Lib.hid hw1
  have HB1 := Lib.hid hb1
  have HLEN := Lib.hid hlen
  clear h hw1 hb1 hbx hlen
  unfold frV frC
  go_enter Tryz.func46, Tryz.ntmps46
  go_wp2_with fail
  rw [HW1.out]
  go_loopw [3, 4] (fun u x wr => ∃ j : Nat, j ≤ q ∧ x = .int .i64 (j : Int) ∧ Hid (MadeK 5 .u8 w1 wr (Sl.cat (fs.map Fr.ct) j) u)) (fun _ x _ => q - (intOf x).toNat)
  case atStart => exact ⟨0, by omega, rfl, MadeK.nil _ _ (Below.refl _ _)⟩
  case round =>
    obtain ⟨j, hj, rfl, HM⟩ := hrel
    obtain ⟨d0, d1, d2, d3, d4, d5⟩ := HX.out wr HM.out.2
    by_cases hjq : j < q
    · have hjq' : (j : Int) < (q : Int) := by omega
      have hra := HRA.out.below HM.out.2
      have K := rhas_any v k s i hra j
      have HRA2 := Lib.hid hra
      unfold frV frC at K
      unfold HasR at K
      clear hra
      go_wp2_with fail
      refine K.mono ?_
      rintro e w2 ⟨hb2, ⟨hno, rfl⟩ | ⟨hyes, p, f, hf, hfi, rfl⟩⟩
      · have HM2 : Hid (MadeK 5 .u8 w1 w2 (Sl.cat (fs.map Fr.ct) (j + 1)) u3) := by
          rw [Sl.cat_succ, Sl.at_none hno, List.append_nil]
          exact made_below HM.out hb2
        clear K hb2 hno d0 d1 d2 d3 d4 d5
        go_wp2
        go_roundw
        case rel => exact ⟨j + 1, by omega, by go_num, HM2⟩
        case measure => simp [intOf]; omega
      · have hra2 := HRA2.out.below hb2
        obtain ⟨g, off, rfl, hg, _, _, _, _, _, a5⟩ := hra2.at'.six hf
        have hpn : p < n := by rw [← HLEN.out]; exact (List.getElem?_eq_some_iff.1 hf).1
        have hpn' : (p : Int) < (n : Int) := by omega
        have hfm := List.mem_of_getElem? hf
        have hnum := (hra2.at'.1 f hfm).nums
        have hat : Sl.at' (fs.map Fr.ct) j = f.zs := by
          have := hra2.mem hfm
          rw [hfi] at this
          simpa using this
        have hM2 := made_below HM.out hb2
        have hsz := hM2.2.size
        obtain ⟨_, _, _, _, _, d5⟩ := HX.out w2 hM2.2
        have hql := Sl.at_len (fs.map Fr.ct) j
        rw [hat] at hql
        have hcl := Sl.cat_len (fs.map Fr.ct) j
        have hcb : (Sl.cat (fs.map Fr.ct) j).length ≤ 48960 := by
          have : j * Sl.tot (fs.map Fr.ct) ≤ 255 * 192 := Nat.mul_le_mul (by omega) hmost
          omega
        have HX1 : Hid ((Sl.cat (fs.map Fr.ct) j).length + f.zs.length ≤ maxLen) := by show _ ≤ _; unfold maxLen; omega
        have HX2 : Hid (((Sl.cat (fs.map Fr.ct) j).length + f.zs.length) * 1 ≤ 140737488355328) := by show _ ≤ _; omega
        have HNM := Lib.hid hnum
        have HM3 := Lib.hid hM2
        have HAT := Lib.hid hat
        clear K hb2 hyes hra2 hf hfi hfm hnum hat hM2 hql hcl hcb
        go_wp2_with (at_builtin; refine wpList_append_any rfl (.tmp 18) (.tmp 24) 40 rfl w1.heap.size 5 i0 (.int .u8 0) 1 Tryz.underlying40 hi hz0 hz1 hz2 rfl .u8 (Sl.cat (fs.map Fr.ct) j) f.zs _ rfl HM3.out.1 _ _ _ _ rfl rfl HNM.out HX1.out HX2.out hsz ?_)
        intro v2 w3 hown hgr
        have HM4 : Hid (MadeK 5 .u8 w1 w3 (Sl.cat (fs.map Fr.ct) (j + 1)) v2) := by
          rw [Sl.cat_succ, HAT.out]
          exact HM3.out.more hown hgr
        clear hown hgr
        go_wp2
        go_roundw
        case rel => exact ⟨j + 1, by omega, by go_num, HM4⟩
        case measure => simp [intOf]; omega
    · have hjq' : j = q := by omega
      subst hjq'
      have HFIN := Lib.hid (HM.out.since HB1.out)
      go_wp2
      go_ret
      exact ⟨_, rfl, HFIN.out⟩
end Go.Proofs.YtfdbcfkjablnkaaGreat

namespace Go.Proofs.YtfdbcfkjablnkaaGreat
open Go.RowKit Go.Shelf
set_option maxRecDepth 100000

structure TwoF (w2 : World) (bs : Nat) (tf tr tb : TypeId) (g1 g2 : List Fr) (W : World) (u v : Value) : Prop where
  off : Off (fun b => b = bs) w2 W
  box : Boxed W bs tb u
  one : W.ownsRow w2.heap.size tf 6 u g1.length (flatF g1)
  two : W.ownsRow w2.heap.size tr 6 v g2.length (flatF g2)
section
variable {w2 W W' W4 : World} {bs : Nat} {tf tr tb : TypeId} {g1 g2 : List Fr} {u v u' v' : Value} {f : Fr}
theorem TwoF.below (h : TwoF w2 bs tf tr tb g1 g2 W u v) (hb : Below W.heap.size W W') : TwoF w2 bs tf tr tb g1 g2 W' u v :=
  ⟨(h.off.trans (Off.of_below hb : Off (fun b => b = bs) W W') (fun _ _ hS => hS)), (hb.block _ h.box.lt).trans h.box, own_below6 h.one hb, own_below6 h.two hb⟩
theorem own_frs {base e : Nat} (h : W.ownsRow base e 6 u g1.length (flatF g1)) (hat : ∀ f ∈ g1, f.At W W.heap.size) : ∃ A c, u = .slice A g1.length c ∧ g1.length ≤ c ∧ FrsAt W W.heap.size A g1 := by
  rcases h.2 with ⟨rfl, h0⟩ | ⟨g, cap, cur, rfl, hbg, hh, hle, _⟩
  · rw [List.eq_nil_of_length_eq_zero h0]
    exact ⟨none, 0, rfl, Nat.le_refl _, fun f hf => by simp at hf, fun i f hi => by simp at hi⟩
  · refine ⟨_, cap, rfl, hle, hat, fun j f hj => ⟨g, 0, rfl, (Array.getElem?_eq_some_iff.1 hh).1, fun q x hq => ?_⟩⟩
    have h1 := h.cells (g := g) rfl (j * 6 + q) x (flatF_at hj hq)
    rw [Addr.add_lit] at h1
    rw [Nat.add_assoc]
    exact h1
end
/-- a frame, cut -/
def Fr.cut (f : Fr) : Fr := ⟨f.v, f.k, f.s, f.i, f.c, f.a, f.cp, f.zs.take 250⟩
theorem Fr.cut_at {w : World} {B : Nat} {f : Fr} (h : f.At w B) : f.cut.At w B :=
  ⟨h.s0, h.s1, by unfold Fr.cut; simp only [List.length_take]; have := h.room; omega, by unfold Fr.cut; simp only [List.length_take]; have := h.few; omega, h.byte.take 250, h.nums.take 250⟩
end Go.Proofs.YtfdbcfkjablnkaaGreat

namespace Go.Proofs.YtfdbcfkjablnkaaGreat
open Go.RowKit
set_option maxRecDepth 100000

/-- one of the document's slots -/
structure Ds where
  v : Int
  k : Int
  s : Int
  c : Int
  A : Option Addr
  n : Nat
  cp : Nat
  gs : List Fr
def Ds.cs (d : Ds) : Array Value := frC d.v d.k d.s 0 d.c (.slice d.A d.n d.cp)
def Ds.ms (d : Ds) : Tb.Ms := ⟨d.v, d.k, d.s, d.c, d.gs.map Fr.ct⟩
structure Ds.At (w : World) (d : Ds) : Prop where
  ref : RefAt w d.c d.A d.n d.cp d.gs
  num : 0 ≤ d.s ∧ d.s ≤ 4294967295
  good : chk d.v d.k 0 d.c = 0
theorem Ds.At.below {w w' : World} {d : Ds} (h : d.At w) (hb : Below w.heap.size w w') : d.At w' := ⟨h.ref.below hb, h.num, h.good⟩
theorem Ds.At.pos {w : World} {d : Ds} (h : d.At w) : 1 ≤ d.c ∧ d.c ≤ 255 := by
  obtain ⟨_, _, _, h1, h2, _⟩ := chk_zero h.good
  exact ⟨h1, h2⟩
/-- the cells of slots, one behind the other -/
def flatD (L : List Ds) : List Value := L.flatMap fun d => d.cs.toList
theorem flatD_len (L : List Ds) : (flatD L).length = L.length * 6 := by
  induction L with
  | nil => rfl
  | cons d r ih => unfold flatD at *; rw [List.flatMap_cons, List.length_append, ih, List.length_cons]; have : d.cs.toList.length = 6 := rfl; omega
theorem flatD_push (L : List Ds) (d : Ds) : flatD (L ++ [d]) = flatD L ++ d.cs.toList := by unfold flatD; simp
theorem flatD_at : ∀ {L : List Ds} {j q : Nat} {d : Ds} {u : Value}, L[j]? = some d → d.cs[q]? = some u → (flatD L)[j * 6 + q]? = some u
  | [], _, _, _, _, h, _ => by simp at h
  | g :: r, 0, q, d, u, h, hq => by
    simp only [List.getElem?_cons_zero, Option.some.injEq] at h
    subst h
    have hlt : q < 6 := (Array.getElem?_eq_some_iff.1 hq).1
    unfold flatD
    rw [List.flatMap_cons, List.getElem?_append_left (by show 0 * 6 + q < 6; omega), Nat.zero_mul, Nat.zero_add, Array.getElem?_toList]
    exact hq
  | g :: r, j + 1, q, d, u, h, hq => by
    rw [List.getElem?_cons_succ] at h
    unfold flatD
    have h6 : g.cs.toList.length = 6 := rfl
    rw [List.flatMap_cons, List.getElem?_append_right (by omega), h6, show (j + 1) * 6 + q - 6 = j * 6 + q by omega]
    exact flatD_at h hq
theorem flatD_get {L : List Ds} {p : Nat} {u : Value} (h : (flatD L)[p]? = some u) : ∃ (j q : Nat) (d : Ds), p = j * 6 + q ∧ L[j]? = some d ∧ d.cs[q]? = some u := by
  have hlt := (List.getElem?_eq_some_iff.1 h).1
  rw [flatD_len] at hlt
  have hj : p / 6 < L.length := by omega
  obtain ⟨d, hd⟩ : ∃ d, L[p / 6]? = some d := ⟨_, List.getElem?_eq_getElem hj⟩
  have hq : p % 6 < d.cs.size := by show p % 6 < 6; omega
  refine ⟨p / 6, p % 6, d, by omega, hd, ?_⟩
  have h1 := flatD_at hd (Array.getElem?_eq_getElem hq)
  rw [show p / 6 * 6 + p % 6 = p by omega, h] at h1
  rw [Array.getElem?_eq_getElem hq, h1]
/-- slots that lie one behind the other -/
structure DocAt (w : World) (A : Option Addr) (n cp : Nat) (L : List Ds) : Prop where
  at' : ∀ d ∈ L, d.At w
  len : L.length = n
  room : n ≤ cp
  few : n ≤ 1000
  cells : ∀ (j : Nat) (d : Ds), L[j]? = some d → ∃ b off, A = some ⟨b, off, none⟩ ∧ b < w.heap.size ∧ ∀ (q : Nat) (u : Value), d.cs[q]? = some u → w.cell? ⟨b, off + j * 6 + q, none⟩ = some u
  row : ∀ (j : Nat) (d : Ds), L[j]? = some d → ∀ b off, A = some ⟨b, off, none⟩ → ∃ cs, w.heap[b]? = some (.cells cs 84 (0, 0))
def docV (r : Nat) (A : Option Addr) (n cp : Nat) : Value := .agg #[.int .i64 (r : Int), .slice A n cp]
section
variable {w w' : World} {A : Option Addr} {n cp : Nat} {L : List Ds}
theorem DocAt.nil (w : World) : DocAt w none 0 0 [] := ⟨fun d hd => (by cases hd), rfl, Nat.le_refl _, by omega, fun j d h => by simp at h, fun j d h => by simp at h⟩
theorem DocAt.below (h : DocAt w A n cp L) (hb : Below w.heap.size w w') : DocAt w' A n cp L := ⟨fun d hd => (h.at' d hd).below hb, h.len, h.room, h.few, fun j d hj => by
  obtain ⟨b, off, e, hB, hc⟩ := h.cells j d hj
  exact ⟨b, off, e, by have := hb.size; omega, fun q u hq => (hb.cell (p := ⟨b, off + j * 6 + q, none⟩) hB).trans (hc q u hq)⟩, fun j d hj b off e => by
  obtain ⟨cs, h1⟩ := h.row j d hj b off e
  exact ⟨cs, (hb.block b (Array.getElem?_eq_some_iff.1 h1).1).trans h1⟩⟩
theorem DocAt.six (h : DocAt w A n cp L) {j : Nat} {d : Ds} (hj : L[j]? = some d) : ∃ b off, A = some ⟨b, off, none⟩ ∧ b < w.heap.size ∧
    w.cell? ⟨b, off + j * 6, none⟩ = some (.int .i64 d.v) ∧ w.cell? ⟨b, off + j * 6 + 1, none⟩ = some (.int .i64 d.k) ∧ w.cell? ⟨b, off + j * 6 + 2, none⟩ = some (.int .u32 d.s) ∧ w.cell? ⟨b, off + j * 6 + 3, none⟩ = some (.int .i64 0) ∧
    w.cell? ⟨b, off + j * 6 + 4, none⟩ = some (.int .i64 d.c) ∧ w.cell? ⟨b, off + j * 6 + 5, none⟩ = some (.slice d.A d.n d.cp) := by
  obtain ⟨b, off, e, hB, hc⟩ := h.cells j d hj
  exact ⟨b, off, e, hB, hc 0 _ rfl, hc 1 _ rfl, hc 2 _ rfl, hc 3 _ rfl, hc 4 _ rfl, hc 5 _ rfl⟩
/-- from a row that a call made -/
theorem own_docs {W : World} {base : Nat} {u : Value} (h : W.ownsRow base 84 6 u L.length (flatD L)) (hat : ∀ d ∈ L, d.At W) (hf : L.length ≤ 1000) : ∃ A c, u = .slice A L.length c ∧ L.length ≤ c ∧ DocAt W A L.length c L := by
  rcases h.2 with ⟨rfl, h0⟩ | ⟨g, cap, cur, rfl, hbg, hh, hle, _⟩
  · rw [List.eq_nil_of_length_eq_zero h0]
    exact ⟨none, 0, rfl, Nat.le_refl _, .nil W⟩
  · refine ⟨_, cap, rfl, hle, hat, rfl, hle, hf, fun j d hj => ⟨g, 0, rfl, (Array.getElem?_eq_some_iff.1 hh).1, fun q x hq => ?_⟩, fun j d hj b off e => ?_⟩
    · have h1 := h.cells (g := g) rfl (j * 6 + q) x (flatD_at hj hq)
      rw [Addr.add_lit] at h1
      rw [Nat.add_assoc]
      exact h1
    · injection e with e
      injection e with e
      subst e
      exact ⟨_, hh⟩
/-- the box of an argument -/
theorem doc_box {r : Nat} {w1 : World} (hw : w.alloc (.cells #[.int .i64 (r : Int), .slice A n cp] 34) = w1) : Below w.heap.size w w1 ∧ w1.heap.size = w.heap.size + 1 ∧ w1.heap[w.heap.size]? = some (.cells #[.int .i64 (r : Int), .slice A n cp] 34 (0, 0)) := by
  subst hw
  exact ⟨(Below.refl _ w).alloc (Nat.le_refl _) _, by simp, World.alloc_heap_new _ _⟩
theorem doc_cells {r : Nat} {W : World} {b : Nat} {t : TypeId} (h : W.heap[b]? = some (.cells #[.int .i64 (r : Int), .slice A n cp] t (0, 0))) : W.cell? ⟨b, 0, none⟩ = some (.int .i64 (r : Int)) ∧ W.cell? ⟨b, 1, none⟩ = some (.slice A n cp) := by
  constructor <;> simp [World.cell?, h]
/-- what find answers -/
def FindR (w : World) (L : List Ds) (z : Int) (e : Ending) (w' : World) : Prop :=
  Below w.heap.size w w' ∧ (((∀ d ∈ L, d.s ≠ z) ∧ e = .returned (.int .i64 (-1))) ∨ ∃ (j : Nat) (d : Ds), L[j]? = some d ∧ d.s = z ∧ e = .returned (.int .i64 (j : Int)))
theorem dfind_any (h : DocAt w A n cp L) (r : Nat) (z : Int) : Calls Tryz.prog 40 #[docV r A n cp, .int .u32 z] w (FindR w L z) := by
  obtain ⟨w1, hw1⟩ : ∃ w1, w.alloc (.cells #[.int .i64 (r : Int), .slice A n cp] 34) = w1 := ⟨_, rfl⟩
  obtain ⟨hb1, hs1, hx1⟩ := doc_box hw1
  obtain ⟨d0, d1⟩ := doc_cells hx1
  have hnc : (n : Int) ≤ (cp : Int) := by have := h.room; omega
  have hn1 : n ≤ 1000 := h.few
  have HNO : Hid ((∀ d ∈ L, d.s ≠ z) → FindR w L z (.returned (.int .i64 (-1))) w1) := Lib.hid fun hno => ⟨hb1, .inl ⟨hno, rfl⟩⟩
  have HYES : Hid (∀ (j : Nat) (d : Ds), L[j]? = some d → d.s = z → FindR w L z (.returned (.int .i64 (j : Int))) w1) := Lib.hid fun j d hj hd => ⟨hb1, .inr ⟨j, d, hj, hd, rfl⟩⟩
  have H1 := Lib.hid (h.below hb1)
  have HL := Lib.hid h.len
  have HW1 := Lib.hid hw1
  clear h hw1 hb1 hx1
  generalize FindR w L z = G at *
  unfold docV
  go_enter Tryz.func40, Tryz.ntmps40
  go_wp2_with fail
  rw [HW1.out]
  go_loopw [5] (fun iv wr => ∃ j : Nat, j ≤ n ∧ iv = .int .i64 (j : Int) ∧ wr = w1 ∧ ∀ d ∈ L.take j, d.s ≠ z) (fun iv _ => n - (intOf iv).toNat)
  case atStart => exact ⟨0, by omega, rfl, rfl, fun d hd => by simp at hd⟩
  case round =>
    obtain ⟨j, hj, rfl, rfl, hno⟩ := hrel
    by_cases hjn : j < n
    · have hjn' : (j : Int) < (n : Int) := by omega
      obtain ⟨d, hd⟩ : ∃ d, L[j]? = some d := ⟨_, List.getElem?_eq_getElem (by rw [HL.out]; exact hjn)⟩
      obtain ⟨b, off, rfl, hb, a0, a1, a2, a3, a4, a5⟩ := H1.out.six hd
      by_cases hs : d.s = z
      · have HFIN := Lib.hid (HYES.out j d hd hs)
        have hs' : (d.s == z) = true := by simpa using hs
        clear hno hd hs
        go_wp2
        exact HFIN.out
      · have hs' : (d.s == z) = false := by simpa using hs
        have HN2 : Hid (∀ x ∈ L.take (j + 1), x.s ≠ z) := Lib.hid fun x hx => by
          rw [List.take_add_one, hd] at hx
          rcases List.mem_append.1 hx with hx | hx
          · exact hno x hx
          · have : x = d := by simpa using hx
            rw [this]; exact hs
        clear hno hd hs
        go_wp2
        go_roundw
        case rel => exact ⟨j + 1, by omega, by go_num, trivial, HN2.out⟩
        case measure => simp [intOf]; omega
    · obtain rfl : j = n := by omega
      have hjn' : ¬ (j : Int) < (j : Int) := by omega
      have HFIN := Lib.hid (HNO.out (by rw [← HL.out, List.take_length] at hno; exact hno))
      clear hno
      go_wp2
      exact HFIN.out
end
end Go.Proofs.YtfdbcfkjablnkaaGreat

namespace Go.Proofs.YtfdbcfkjablnkaaGreat
open Go.RowKit
set_option maxRecDepth 100000

namespace Ct
/-- how many parts n bytes have by a room -/
def cnt (n r : Nat) : Nat := (n + r - 1) / r
/-- the part at a place -/
def part (zs : List Int) (r j : Nat) : List Int := (zs.drop (j * r)).take r
theorem lt_cnt {n r j : Nat} (hr : 1 ≤ r) : j < cnt n r ↔ j * r < n := by
  unfold cnt
  have h := Nat.le_div_iff_mul_le (k0 := hr) (x := j + 1) (y := n + r - 1)
  rw [Nat.add_mul, Nat.one_mul] at h
  constructor
  · intro hj
    have := h.1 hj
    omega
  · intro hj
    exact h.2 (by omega)
theorem cnt_pos {n r : Nat} (hr : 1 ≤ r) (hn : 1 ≤ n) : 1 ≤ cnt n r := (lt_cnt (n := n) (j := 0) hr).2 (by omega)
theorem cnt_le {n r : Nat} (hr : 1 ≤ r) : cnt n r ≤ n := by
  rcases Nat.lt_or_ge n (cnt n r) with h | h
  · have := (lt_cnt hr).1 h
    have h2 : n * 1 ≤ n * r := Nat.mul_le_mul_left n hr
    omega
  · exact h
/-- the frames of a body, of a head -/
structure Cut (v k s : Int) (zs : List Int) (r : Nat) (fs : List Fr) : Prop where
  len : fs.length = cnt zs.length r
  at' : ∀ (j : Nat) (f : Fr), fs[j]? = some f → f.v = v ∧ f.k = k ∧ f.s = s ∧ f.i = (j : Int) ∧ f.c = (cnt zs.length r : Int) ∧ f.zs = part zs r j
/-- what is wrong with a cut -/
def fErr (v k : Int) (n : Nat) (room : Int) : Int := if n = 0 then 13 else if 192 < n then 2 else if room < 1 ∨ 242 < room then 5 else chk v k 0 (cnt n room.toNat : Int)
/-- what is wrong with one frame beside the first one, at its place -/
def wBad (f0 f : Fr) (j : Nat) : Int := if mateZ f0.v f0.k f0.s f0.c f.v f.k f.s f.c = true then (if f.i = (j : Int) then 0 else 3) else 17
def wFst (f0 : Fr) : Nat → List Fr → Int
  | _, [] => 0
  | j, f :: r => if wBad f0 f j ≠ 0 then wBad f0 f j else wFst f0 (j + 1) r
def wEnd (f0 : Fr) (n : Nat) : Int := if (n : Int) < f0.c then 13 else if f0.c < (n : Int) then 6 else 0
/-- what is wrong with frames -/
def wErr : List Fr → Int
  | [] => 13
  | f0 :: r => if wFst f0 0 (f0 :: r) ≠ 0 then wFst f0 0 (f0 :: r) else wEnd f0 (r.length + 1)
theorem wFst_zero (f0 : Fr) : ∀ (s : Nat) (fs : List Fr), (∀ (j : Nat) (g : Fr), fs[j]? = some g → wBad f0 g (s + j) = 0) → wFst f0 s fs = 0
  | _, [], _ => rfl
  | s, f :: r, h => by
    have h0 := h 0 f rfl
    rw [Nat.add_zero] at h0
    rw [wFst, if_neg (by simp [h0])]
    exact wFst_zero f0 (s + 1) r fun j g hg => by
      have := h (j + 1) g (by simpa using hg)
      rwa [show s + (j + 1) = s + 1 + j by omega] at this
theorem wErr_end {fs : List Fr} {f0 : Fr} (h0 : fs[0]? = some f0) (hp : ∀ (j : Nat) (g : Fr), fs[j]? = some g → wBad f0 g j = 0) : wErr fs = wEnd f0 fs.length := by
  cases fs with
  | nil => simp at h0
  | cons g r =>
    simp only [List.getElem?_cons_zero, Option.some.injEq] at h0
    subst h0
    have h1 := wFst_zero g 0 (g :: r) (fun j x hx => by rw [Nat.zero_add]; exact hp j x hx)
    rw [wErr, h1, if_neg (by simp)]
    rfl
theorem Cut.whole {v k s : Int} {zs : List Int} {r : Nat} {fs : List Fr} (h : Cut v k s zs r fs) (hr : 1 ≤ r) (hn : 1 ≤ zs.length) : wErr fs = 0 := by
  have hp := cnt_pos hr hn
  have hl := h.len
  obtain ⟨f0, hf0⟩ : ∃ f0, fs[0]? = some f0 := ⟨_, List.getElem?_eq_getElem (by omega)⟩
  obtain ⟨e1, e2, e3, _, e4, _⟩ := h.at' 0 f0 hf0
  rw [wErr_end hf0 (fun j g hg => by
    obtain ⟨d1, d2, d3, d4, d5, _⟩ := h.at' j g hg
    unfold wBad
    rw [if_pos (by simp [mateZ, e1, e2, e3, e4, d1, d2, d3, d5]), if_pos d4])]
  unfold wEnd
  rw [e4, h.len, if_neg (by omega), if_neg (by omega)]
end Ct
end Go.Proofs.YtfdbcfkjablnkaaGreat

namespace Go.Proofs.YtfdbcfkjablnkaaGreat
open Go.RowKit
set_option maxRecDepth 100000

set_option maxHeartbeats 2000000 in
theorem rmates_any (v k s i c v' k' s' i' c' : Int) (w : World) :
    Calls Tryz.prog 74 #[hdV v k s i c, hdV v' k' s' i' c'] w fun e w' => e = .returned (.bool (mateZ v k s c v' k' s' c')) ∧ Below w.heap.size w w' := by
  unfold hdV
  obtain ⟨w0, hw⟩ : ∃ w0, (w.alloc (.cells #[.int .i64 v, .int .i64 k, .int .u32 s, .int .i64 i, .int .i64 c] 50)).alloc (.cells #[.int .i64 v', .int .i64 k', .int .u32 s', .int .i64 i', .int .i64 c'] 50) = w0 := ⟨_, rfl⟩
  have hb : Below w.heap.size w w0 := by rw [← hw]; exact ((Below.refl _ w).alloc (Nat.le_refl _) _).alloc (by simp) _
  have q1 : w0.heap[w.heap.size]? = some (.cells #[.int .i64 v, .int .i64 k, .int .u32 s, .int .i64 i, .int .i64 c] 50 (0, 0)) := by
    rw [← hw]; exact (Below.heap_alloc _ _ _ (by simp)).trans (World.alloc_heap_new _ _)
  have q2 : w0.heap[w.heap.size + 1]? = some (.cells #[.int .i64 v', .int .i64 k', .int .u32 s', .int .i64 i', .int .i64 c'] 50 (0, 0)) := by
    rw [← hw]
    have := World.alloc_heap_new (w.alloc (.cells #[.int .i64 v, .int .i64 k, .int .u32 s, .int .i64 i, .int .i64 c] 50)) (.cells #[.int .i64 v', .int .i64 k', .int .u32 s', .int .i64 i', .int .i64 c'] 50)
    rwa [World.size_alloc] at this
  obtain ⟨d0, d1, d2, d3, d4⟩ := hd_block q1
  obtain ⟨e0, e1, e2, e3, e4⟩ := hd_block q2
  have HW := Lib.hid hw
  have HB := Lib.hid hb
  clear hw q1 q2 hb
  by_cases h1 : v = v'
  · by_cases h2 : k = k'
    · by_cases h3 : s = s'
      · by_cases h4 : c = c'
        · have hz : mateZ v k s c v' k' s' c' = true := by simp [mateZ, h1, h2, h3, h4]
          rw [hz]
          subst h1 h2 h3 h4
          clear hz
          go_enter Tryz.func74, Tryz.ntmps74
          go_wp2_with fail
          rw [HW.out]
          go_wp2
          go_ret
          exact ⟨rfl, HB.out⟩
        · have hz : mateZ v k s c v' k' s' c' = false := by simp [mateZ, h4]
          have h5 : (c == c') = false := by simp [h4]
          rw [hz]
          subst h1 h2 h3
          clear hz
          go_enter Tryz.func74, Tryz.ntmps74
          go_wp2_with fail
          rw [HW.out]
          go_wp2
          go_ret
          exact ⟨rfl, HB.out⟩
      · have hz : mateZ v k s c v' k' s' c' = false := by simp [mateZ, h3]
        have h5 : (s == s') = false := by simp [h3]
        rw [hz]
        subst h1 h2
        clear hz
        go_enter Tryz.func74, Tryz.ntmps74
        go_wp2_with fail
        rw [HW.out]
        go_wp2
        go_ret
        exact ⟨rfl, HB.out⟩
    · have hz : mateZ v k s c v' k' s' c' = false := by simp [mateZ, h2]
      have h5 : (k == k') = false := by simp [h2]
      rw [hz]
      subst h1
      clear hz
      go_enter Tryz.func74, Tryz.ntmps74
      go_wp2_with fail
      rw [HW.out]
      go_wp2
      go_ret
      exact ⟨rfl, HB.out⟩
  · have hz : mateZ v k s c v' k' s' c' = false := by simp [mateZ, h1]
    have h5 : (v == v') = false := by simp [h1]
    rw [hz]
    clear hz
    go_enter Tryz.func74, Tryz.ntmps74
    go_wp2_with fail
    rw [HW.out]
    go_wp2
    go_ret
    exact ⟨rfl, HB.out⟩
end Go.Proofs.YtfdbcfkjablnkaaGreat

namespace Go.Proofs.YtfdbcfkjablnkaaGreat
open Go.RowKit

/-- the block of the row that the box holds -/
def ownA (b : Nat) (W : World) : Option Nat := (W.cell? ⟨b, 0, none⟩).bind Value.ownBlock
/-- whatever is cells, but the two boxes and the one's row, is as it was -/
structure KpA (bI bA : Nat) (W W' : World) : Prop where
  size : W.heap.size ≤ W'.heap.size
  same : ∀ (k : Nat) (o : Obj), k ≠ bI → k ≠ bA → ownA bA W ≠ some k → W.heap[k]? = some o → o.isCells = true → W'.heap[k]? = some o
  own : ownA bA W' = ownA bA W ∨ ∃ g, ownA bA W' = some g ∧ W.heap.size ≤ g
section
variable {bI bA : Nat} {A B C : World}
theorem KpA.refl (bI bA : Nat) (A : World) : KpA bI bA A A := ⟨Nat.le_refl _, fun _ _ _ _ _ h _ => h, .inl rfl⟩
theorem KpA.trans (h : KpA bI bA A B) (k : KpA bI bA B C) : KpA bI bA A C := by
  refine ⟨Nat.le_trans h.size k.size, fun i o hi ha hown ho hc => ?_, ?_⟩
  · refine k.same i o hi ha (fun e => ?_) (h.same i o hi ha hown ho hc) hc
    rcases h.own with h1 | ⟨g, h1, h2⟩
    · rw [h1] at e; exact hown e
    · rw [h1] at e; injection e with e
      have := (Array.getElem?_eq_some_iff.1 ho).1
      omega
  · rcases k.own with h1 | ⟨g, h1, h2⟩
    · rcases h.own with h3 | ⟨g, h3, h4⟩
      · exact .inl (h1.trans h3)
      · exact .inr ⟨g, h1.trans h3, h4⟩
    · exact .inr ⟨g, h1, Nat.le_trans h.size h2⟩
theorem KpA.putObj {l : Nat} {W : World} {o o' : Obj} (hbl : bA < l) (ho : W.heap[l]? = some o) (hc : o.isCells = false) : KpA bI bA W (W.putObj l o') := by
  refine ⟨by simp [World.putObj], fun k p _ _ _ hp hpc => (World.putObj_heap_other (fun e => ?_)).trans hp, .inl ?_⟩
  · subst e
    rw [hp] at ho
    injection ho with ho
    subst ho
    rw [hpc] at hc; cases hc
  · unfold ownA
    rw [World.cell?_of_block (World.putObj_heap_other (by simp only; omega))]
theorem KpA.of_below {b : Nat} (h : Below b A B) (hs : A.heap.size ≤ b) (hb : bA < A.heap.size) : KpA bI bA A B := ⟨h.size, fun k _ _ _ _ ho _ => (h.block k (by have := (Array.getElem?_eq_some_iff.1 ho).1; omega)).trans ho, .inl (by unfold ownA; rw [h.cell (p := ⟨bA, 0, none⟩) (by simp only; omega)])⟩
end

/-- the boxes behind j rounds: the count, and the row, whose numbers are zs -/
structure TwoB (w : World) (bI bA : Nat) (tI tA e : TypeId) (k : IntKind) (j : Nat) (zs : List Int) (V : World) : Prop where
  cnt : Boxed V bI tI (.int .i64 ((j : Nat) : Int))
  row : ∃ v, Boxed V bA tA v ∧ V.ownsRow w.heap.size e 1 v zs.length (zs.map (Value.int k)) ∧ (j = 0 → v = .slice none 0 0)
  off : Off (fun q => q = bI ∨ q = bA) w V
section
variable {w V V1 V2 : World} {bI bA : Nat} {tI tA e : TypeId} {k : IntKind} {j : Nat} {zs : List Int}
theorem TwoB.putObj {l : Nat} {o o' : Obj} (h : TwoB w bI bA tI tA e k j zs V) (hI : bI < w.heap.size) (hA : bA < w.heap.size) (hl : w.heap.size ≤ l) (ho : V.heap[l]? = some o) (hc : o.isCells = false) : TwoB w bI bA tI tA e k j zs (V.putObj l o') := by
  obtain ⟨v, h1, h2, h3⟩ := h.row
  exact ⟨(World.putObj_heap_other (by omega)).trans h.cnt, ⟨v, (World.putObj_heap_other (by omega)).trans h1, ownsRow_putObj h2 _ ho hc, h3⟩, off_below h.off (below_put V o' hl)⟩
theorem TwoB.start (h : TwoB w bI bA tI tA e k 0 [] V) (hI : bI < w.heap.size) (hA : bA < w.heap.size) (hb : Below w.heap.size V V1) : TwoB w bI bA tI tA e k 0 [] V1 := by
  obtain ⟨v, h1, h2, h3⟩ := h.row
  refine ⟨(hb.block bI hI).trans h.cnt, ⟨v, (hb.block bA hA).trans h1, ?_, h3⟩, off_below h.off hb⟩
  rw [h3 rfl]
  exact World.ownsRow_nil _ _ _ _
/-- a round: the row grows, the count goes up -/
theorem TwoB.next {v v' : Value} {ys : List Int} {m : Nat} (h : TwoB w bI bA tI tA e k j zs V) (hv : Boxed V bA tA v) (hrow : V.ownsRow w.heap.size e 1 v zs.length (zs.map (Value.int k))) (hne : bI ≠ bA) (hI : bI < w.heap.size) (hA : bA < w.heap.size)
    (h1 : Below V.heap.size V V1) (hm : (zs ++ ys).length = m) (hown' : V2.ownsRow w.heap.size e 1 v' m (zs.map (Value.int k) ++ ys.map (Value.int k))) (hg : V1.grownBy V2 v.ownBlock) (hat : v'.ownBlock = v.ownBlock ∨ v'.ownBlock = some V1.heap.size) :
    Boxed V2 bA tA v ∧ Boxed V2 bI tI (.int .i64 (j : Int)) ∧ Boxed (V2.setCell ⟨bA, 0, none⟩ v') bI tI (.int .i64 (j : Int)) ∧
    TwoB w bI bA tI tA e k (j + 1) (zs ++ ys) ((V2.setCell ⟨bA, 0, none⟩ v').setCell ⟨bI, 0, none⟩ (.int .i64 ((j : Int) + 1))) ∧
    KeepsFrom w.heap.size V ((V2.setCell ⟨bA, 0, none⟩ v').setCell ⟨bI, 0, none⟩ (.int .i64 ((j : Int) + 1))) ∧ KpA bI bA V ((V2.setCell ⟨bA, 0, none⟩ v').setCell ⟨bI, 0, none⟩ (.int .i64 ((j : Int) + 1))) := by
  have hsV := h.off.size
  have hs1 := h1.size
  have hs2 := hg.size
  have hlt := hrow.lt
  have hlt' := hown'.lt
  have hnr : ∀ b, b < w.heap.size → some b ≠ v.ownBlock := fun b hb e2 => by have := (hlt b e2.symm).1; omega
  have hA2 : Boxed V2 bA tA v := (hg.block bA (by omega) (hnr bA hA)).trans ((h1.block bA (by omega)).trans hv)
  have hI2 : Boxed V2 bI tI (.int .i64 (j : Int)) := (hg.block bI (by omega) (hnr bI hI)).trans ((h1.block bI (by omega)).trans h.cnt)
  have hI3 : Boxed (V2.setCell ⟨bA, 0, none⟩ v') bI tI (.int .i64 (j : Int)) := hI2.other hne v'
  have hA3 : Boxed (V2.setCell ⟨bA, 0, none⟩ v') bA tA v' := hA2.set v'
  have hnr' : ∀ b, b < w.heap.size → v'.ownBlock = none ∨ v'.ownBlock ≠ some b := fun b hb => .inr fun e2 => by have := (hlt' b e2).1; omega
  have hr3 := hown'.kept (grownBy_setCell' V2 bA v') (hnr' bA hA)
  have hr4 := hr3.kept (grownBy_setCell' _ bI (.int .i64 ((j : Int) + 1))) (hnr' bI hI)
  have hblk : ∀ q, q < V.heap.size → q ≠ bI → q ≠ bA → some q ≠ v.ownBlock → ((V2.setCell ⟨bA, 0, none⟩ v').setCell ⟨bI, 0, none⟩ (.int .i64 ((j : Int) + 1))).heap[q]? = V.heap[q]? := fun q hq h3 h4 h5 =>
    (Below.heap_setCell _ ⟨bI, 0, none⟩ _ q h3).trans ((Below.heap_setCell _ ⟨bA, 0, none⟩ _ q h4).trans ((hg.block q (by omega) h5).trans (h1.block q hq)))
  have hsz : V.heap.size ≤ ((V2.setCell ⟨bA, 0, none⟩ v').setCell ⟨bI, 0, none⟩ (.int .i64 ((j : Int) + 1))).heap.size := by simp only [World.setCell, Array.size_modify]; omega
  have hAf : Boxed ((V2.setCell ⟨bA, 0, none⟩ v').setCell ⟨bI, 0, none⟩ (.int .i64 ((j : Int) + 1))) bA tA v' := hA3.other (Ne.symm hne) _
  have hcellV : ∀ q o, v.ownBlock = some q → V.heap[q]? = some o → o.isCells = true := fun q o ej hj => by
    rcases hrow.2 with ⟨rfl, _⟩ | ⟨g, cap, cur, rfl, _, hgb, _⟩
    · simp [Value.ownBlock] at ej
    · obtain rfl : g = q := by simpa [Value.ownBlock] using ej
      rw [hgb] at hj; cases hj; rfl
  refine ⟨hA2, hI2, hI3, ⟨?_, ⟨v', hAf, ?_, fun h0 => by omega⟩, ?_⟩, ?_, ?_⟩
  · rw [Int.natCast_succ]; exact hI3.set _
  · rw [hm, List.map_append]; exact hr4
  · refine ⟨hg.os.trans (h1.os.trans h.off.os), hg.tape.trans (h1.tape.trans h.off.tape), hg.output.trans (h1.output.trans h.off.output), Nat.le_trans hsV hsz, fun q hq hn => ?_⟩
    exact (hblk q (by omega) (fun e2 => hn (.inl e2)) (fun e2 => hn (.inr e2)) (hnr q hq)).trans (h.off.block q hq hn)
  · refine ⟨hsz, fun q o hq ho hc => ?_⟩
    have hql := (Array.getElem?_eq_some_iff.1 ho).1
    refine (hblk q hql (by omega) (by omega) (fun e2 => ?_)).trans ho
    have := hcellV q o e2.symm ho
    rw [hc] at this; cases this
  · have hoV : ownA bA V = v.ownBlock := by unfold ownA; rw [hv.cell]; rfl
    have hoF : ownA bA ((V2.setCell ⟨bA, 0, none⟩ v').setCell ⟨bI, 0, none⟩ (.int .i64 ((j : Int) + 1))) = v'.ownBlock := by unfold ownA; rw [hAf.cell]; rfl
    refine ⟨hsz, fun q o h3 h4 h5 ho hc => ?_, ?_⟩
    · have hql := (Array.getElem?_eq_some_iff.1 ho).1
      exact (hblk q hql h3 h4 (fun e2 => h5 (by rw [hoV, e2]))).trans ho
    · rw [hoF, hoV]
      rcases hat with h6 | h6
      · exact .inl h6
      · exact .inr ⟨_, h6, hs1⟩
end
end Go.Proofs.YtfdbcfkjablnkaaGreat

namespace Go.Proofs.YtfdbcfkjablnkaaGreat
open Go.RowKit
set_option maxRecDepth 100000

theorem sfInfo : (Tryz.prog.info? 52).map (fun i => (i.zero, i.size, i.bytes)) = some (some (.agg #[.int .i64 0, .int .i64 0, .int .u32 0, .int .i64 0, .int .i64 0, .slice none 0 0]), 6, 64) := by kernel_rfl
theorem ssInfo : (Tryz.prog.info? 84).map (·.size) = some 6 := by kernel_rfl
theorem fs_one (v k s i c : Int) (A : Option Addr) (n cp : Nat) : (frC v k s i c (.slice A n cp)).all (·.oneCell') = true := by simp [frC, Value.oneCell']
theorem flatF_get {fs : List Fr} {p : Nat} {u : Value} (h : (flatF fs)[p]? = some u) : ∃ (j q : Nat) (f : Fr), p = j * 6 + q ∧ fs[j]? = some f ∧ f.cs[q]? = some u := by
  have hlt := (List.getElem?_eq_some_iff.1 h).1
  rw [flatF_len] at hlt
  have hj : p / 6 < fs.length := by omega
  obtain ⟨f, hf⟩ : ∃ f, fs[p / 6]? = some f := ⟨_, List.getElem?_eq_getElem hj⟩
  have hq : p % 6 < f.cs.size := by show p % 6 < 6; omega
  refine ⟨p / 6, p % 6, f, by omega, hf, ?_⟩
  have h1 := flatF_at hf (Array.getElem?_eq_getElem hq)
  rw [show p / 6 * 6 + p % 6 = p by omega, h] at h1
  rw [Array.getElem?_eq_getElem hq, h1]
/-- a list of frames from anywhere, appended to an empty literal -/
theorem append_frames {P : Program} {W : World} (t ty e : TypeId) (i : TypeInfo) (z : Value) (ht : P.underlying t = some (.slice e)) (hi : P.info? e = some i) (hz : i.zero = some z) (hsize : i.size = 6) (hby : i.bytes = 64) (hzs : z.cells.size = 6)
    (H g : Nat) (hH : H ≤ W.heap.size) (hown : W.ownsRow H e 6 (.slice (some ⟨g, 0, none⟩) 0 0) 0 []) (A : Option Addr) (n cp : Nat) (fs : List Fr) (hn : fs.length = n) (hn2 : n ≤ 1000000) (hat : FrsAt W W.heap.size A fs) :
    ∃ v' W', (Builtin.append_ #[t, t] ty #[.slice (some ⟨g, 0, none⟩) 0 0, .slice A n cp]).run P W = .ok v' W' ∧ W'.ownsRow H e 6 v' n (flatF fs) ∧ Below W.heap.size W W' := by
  by_cases h0 : n = 0
  · subst h0
    obtain rfl : fs = [] := List.eq_nil_of_length_eq_zero hn
    refine ⟨_, _, run_append_nothing W t t ty e i ht hi (some ⟨g, 0, none⟩) 0 0 (Nat.le_refl _) _ ?_, hown, ⟨rfl, rfl, rfl, Nat.le_refl _, fun _ _ => rfl⟩⟩
    cases A with
    | none => exact ⟨.inl ⟨e, ht⟩, fun _ => rfl, run_firstCells_none W i.size 0 0 cp, run_firstCells_none W.drew i.size 0 0 cp, by simp, fun _ h => by cases h⟩
    | some ad => exact Src.ofSlice W ht ad 0 cp [] (by simp) (by simp) (fun _ h => by cases h)
  · obtain ⟨f0, hf0⟩ : ∃ f, fs[0]? = some f := ⟨_, List.getElem?_eq_getElem (by omega)⟩
    obtain ⟨b, off, rfl, _, _⟩ := hat.2 0 f0 hf0
    obtain ⟨v', W', hr, h1, h2⟩ := run_append_arg_grows (P := P) W t ty e i z 6 64 ht hi hz hsize hby hzs (by omega) ⟨g, 0, none⟩ 0 0 [] rfl (fun j u hj => by simp at hj) ⟨b, off, none⟩ n cp (flatF fs) (by rw [flatF_len, hn]) (fun j u hj => by
      obtain ⟨j', q, f, rfl, hf, hu⟩ := flatF_get hj
      obtain ⟨b', off', e', _, hc⟩ := hat.2 j' f hf
      injection e' with e'
      injection e' with e1 e2
      subst e1 e2
      rw [Addr.add_lit, ← Nat.add_assoc]
      exact hc q u hu) (by omega) (by unfold maxLen; omega) (by omega)
    rw [Nat.zero_add, List.nil_append] at h1
    exact ⟨v', W', hr, ownsRow_lower h1 hH, ⟨h2.os, h2.tape, h2.output, h2.size, fun k hk => h2.block k hk (by simp)⟩⟩
/-- what the document's Put answers -/
def RPutR (w : World) (v k s c : Int) (A : Option Addr) (n cp : Nat) (fs : List Fr) (f : Fr) (er : Int) (e : Ending) (w' : World) : Prop :=
  Below w.heap.size w w' ∧ ((er ≠ 0 ∧ e = .returned (.tuple #[frV v k s 0 c (.slice A n cp), .int .i64 er])) ∨ (er = 0 ∧ ∃ A' cp', e = .returned (.tuple #[frV v k s 0 c (.slice A' (n + 1) cp'), .int .i64 0]) ∧ RefAt w' c A' (n + 1) cp' (fs ++ [f])))
theorem three_boxes {w w1 : World} {cs1 cs2 cs3 : Array Value} {t1 t2 t3 : TypeId} (hw : ((w.alloc (.cells cs1 t1)).alloc (.cells cs2 t2)).alloc (.cells cs3 t3) = w1) :
    Below w.heap.size w w1 ∧ w1.heap.size = w.heap.size + 3 ∧ w1.heap[w.heap.size]? = some (.cells cs1 t1 (0, 0)) ∧ w1.heap[w.heap.size + 1]? = some (.cells cs2 t2 (0, 0)) ∧ w1.heap[w.heap.size + 2]? = some (.cells cs3 t3 (0, 0)) := by
  subst hw
  refine ⟨(((Below.refl _ w).alloc (Nat.le_refl _) _).alloc (by simp) _).alloc (by simp; omega) _, by simp, ?_, ?_, ?_⟩
  · exact (Below.heap_alloc _ _ _ (by simp; omega)).trans ((Below.heap_alloc _ _ _ (by simp)).trans (World.alloc_heap_new _ _))
  · have h := World.alloc_heap_new (w.alloc (.cells cs1 t1)) (.cells cs2 t2)
    rw [World.size_alloc] at h
    exact (Below.heap_alloc _ _ _ (by simp)).trans h
  · have h := World.alloc_heap_new ((w.alloc (.cells cs1 t1)).alloc (.cells cs2 t2)) (.cells cs3 t3)
    rw [World.size_alloc, World.size_alloc] at h
    exact h

theorem exec_appendU {P : Program} {w w' : World} {o : Oper} {b : Act} {v1 v2 v' : Value} (s x : Operand) (t : TypeId) (hop : o.op = Op.call { callee := Callee.builtin Builtin.append, args := #[s, x], argTypes := #[t, t] })
    (hs : b.eval s = v1) (hx : b.eval x = v2) (hrun : (Builtin.append_ #[t, t] o.type #[v1, v2]).run P w = .ok v' w') : (execOp b.eval o).run P w = .ok (.value v') w' := by
  simp [execOp, hop, resolve, invoke, builtin, hs, hx, hrun, Result.andThen]
/-- what the operations of 'append(append([]F{}, s.L...), f)' hand on -/
def FPut (H n : Nat) (fs : List Fr) (f : Fr) (q : Tmp) (x : Value) (W : World) : Prop :=
  if q = 47 then ∃ g, x = .slice (some ⟨g, 0, none⟩) 0 0 ∧ W.ownsRow H 52 6 (.slice (some ⟨g, 0, none⟩) 0 0) 0 []
  else if q = 50 then W.ownsRow H 52 6 x n (flatF fs)
  else ∃ g, x = .slice (some ⟨g, 0, none⟩) 1 1 ∧ W.heap[g]? = some (.cells f.cs 52 (0, 0))
theorem FPut.later {H n : Nat} {fs : List Fr} {f : Fr} {q : Tmp} {x : Value} {W W' : World} (h : FPut H n fs f q x W) (hb : Below W.heap.size W W') : FPut H n fs f q x W' := by
  unfold FPut at h ⊢
  split at h
  · rename_i hq
    rw [if_pos hq]
    obtain ⟨g, e, h1⟩ := h
    exact ⟨g, e, own_below6 h1 hb⟩
  · rename_i hq
    rw [if_neg hq]
    split at h
    · rename_i hq2
      rw [if_pos hq2]
      exact own_below6 h hb
    · rename_i hq2
      rw [if_neg hq2]
      obtain ⟨g, e, h1⟩ := h
      exact ⟨g, e, (hb.block g (Array.getElem?_eq_some_iff.1 h1).1).trans h1⟩
set_option maxHeartbeats 8000000 in
theorem rput_any {w : World} (v k s : Int) {c : Int} {A : Option Addr} {n cp : Nat} {fs : List Fr} (h : RefAt w c A n cp fs) (f : Fr) (hf : f.At w w.heap.size) (hfl : f.zs.length ≤ 250) :
    Calls Tryz.prog 44 #[frV v k s 0 c (.slice A n cp), frV f.v f.k f.s f.i f.c (.slice f.a f.zs.length f.cp)] w (RPutR w v k s c A n cp fs f (sErr v k s c f.v f.k f.s f.i f.c (fs.map Fr.ct) f.zs)) := by
  obtain ⟨w1, hw1⟩ : ∃ w1, ((w.alloc (.cells (frC v k s 0 c (.slice A n cp)) 84)).alloc (.cells (frC f.v f.k f.s f.i f.c (.slice f.a f.zs.length f.cp)) 52)).alloc (.cells (frC 0 0 0 0 0 (.slice none 0 0)) 84) = w1 := ⟨_, rfl⟩
  obtain ⟨hb1, hs1, hx1, hx2, hx3⟩ := three_boxes hw1
  have HX : Hid (∀ W, Below w1.heap.size w1 W → W.heap[w.heap.size]? = some (.cells (frC v k s 0 c (.slice A n cp)) 84 (0, 0)) ∧ W.heap[w.heap.size + 1]? = some (.cells (frC f.v f.k f.s f.i f.c (.slice f.a f.zs.length f.cp)) 52 (0, 0)) ∧ W.heap[w.heap.size + 2]? = some (.cells (frC 0 0 0 0 0 (.slice none 0 0)) 84 (0, 0))) :=
    Lib.hid fun W hW => ⟨(hW.block _ (by omega)).trans hx1, (hW.block _ (by omega)).trans hx2, (hW.block _ (by omega)).trans hx3⟩
  have HBad : Hid (∀ (er : Int) (W : World), sErr v k s c f.v f.k f.s f.i f.c (fs.map Fr.ct) f.zs = er → er ≠ 0 → Below w.heap.size w W → RPutR w v k s c A n cp fs f (sErr v k s c f.v f.k f.s f.i f.c (fs.map Fr.ct) f.zs) (.returned (.tuple #[frV v k s 0 c (.slice A n cp), .int .i64 er])) W) :=
    Lib.hid fun er W he h0 hb => by rw [he]; exact ⟨hb, .inl ⟨h0, rfl⟩⟩
  obtain ⟨d0, d1, d2, d3, d4, d5⟩ := fr_block hx1
  obtain ⟨e0, e1, e2, e3, e4, e5⟩ := fr_block hx2
  have KM := rmates_any f.v f.k f.s f.i f.c v k s 0 c w1
  have HAF : Hid (∀ f' ∈ fs ++ [f], f'.At w w.heap.size) := Lib.hid fun f' hf' => by
    rcases List.mem_append.1 hf' with hf' | hf'
    · exact h.at'.1 f' hf'
    · obtain rfl := List.mem_singleton.1 hf'
      exact hf
  have HB1 := Lib.hid hb1
  have HS1 := Lib.hid hs1
  have HRA := Lib.hid (h.below hb1)
  have HSE := Lib.hid (show sErr v k s c f.v f.k f.s f.i f.c (fs.map Fr.ct) f.zs = if mateZ v k s c f.v f.k f.s f.c = false then 17 else if f.i < 0 ∨ c ≤ f.i then 3 else if f.zs.length = 0 then 13 else if Sl.has (fs.map Fr.ct) f.i.toNat then 16 else if 192 < Sl.tot (fs.map Fr.ct) + f.zs.length then 6 else 0 from rfl)
  have HW1 : Hid (((w.alloc (.cells #[.int .i64 v, .int .i64 k, .int .u32 s, .int .i64 0, .int .i64 c, .slice A n cp] 84)).alloc (.cells #[.int .i64 f.v, .int .i64 f.k, .int .u32 f.s, .int .i64 f.i, .int .i64 f.c, .slice f.a f.zs.length f.cp] 52)).alloc (.cells #[.int .i64 0, .int .i64 0, .int .u32 0, .int .i64 0, .int .i64 0, .slice none 0 0] 84) = w1) := Lib.hid hw1
  rw [show mateZ f.v f.k f.s f.c v k s c = mateZ v k s c f.v f.k f.s f.c from by unfold mateZ; congr 1; simp [eq_comm]] at KM
  have HGood : Hid ((sErr v k s c f.v f.k f.s f.i f.c (fs.map Fr.ct) f.zs) = 0 → ∀ (A' : Option Addr) (cp' : Nat) (W : World), Below w.heap.size w W → RefAt W c A' (n + 1) cp' (fs ++ [f]) → RPutR w v k s c A n cp fs f (sErr v k s c f.v f.k f.s f.i f.c (fs.map Fr.ct) f.zs) (.returned (.tuple #[frV v k s 0 c (.slice A' (n + 1) cp'), .int .i64 0])) W) :=
    Lib.hid fun he A' cp' W hb hr => ⟨hb, .inr ⟨he, A', cp', rfl, hr⟩⟩
  generalize RPutR w v k s c A n cp fs f (sErr v k s c f.v f.k f.s f.i f.c (fs.map Fr.ct) f.zs) = G at *
  generalize sErr v k s c f.v f.k f.s f.i f.c (fs.map Fr.ct) f.zs = SE at *
  generalize mateZ v k s c f.v f.k f.s f.c = M at *
  clear h hf hw1 hx1 hx2 hx3 hb1
  unfold frV frC hdV at *
  go_enter Tryz.func44, Tryz.ntmps44
  go_wp2_with fail
  rw [HW1.out]
  refine KM.mono ?_
  rintro e w2 ⟨rfl, hb2⟩
  obtain ⟨hx1, hx2, hx3⟩ := HX.out w2 hb2
  obtain ⟨d0, d1, d2, d3, d4, d5⟩ := fr_block hx1
  obtain ⟨e0, e1, e2, e3, e4, e5⟩ := fr_block hx2
  have HB2 := Lib.hid (HB1.out.trans (hb2.mono HB1.out.size))
  have HEND : Hid (∀ (W : World) (er : Int), Below w1.heap.size w1 W → SE = er → er ≠ 0 →
      (W.setRow (w.heap.size + 2) (frC v k s 0 c (.slice A n cp))).cell? ⟨w.heap.size + 2, 0, none⟩ = some (.int .i64 v) ∧ (W.setRow (w.heap.size + 2) (frC v k s 0 c (.slice A n cp))).cell? ⟨w.heap.size + 2, 1, none⟩ = some (.int .i64 k) ∧
      (W.setRow (w.heap.size + 2) (frC v k s 0 c (.slice A n cp))).cell? ⟨w.heap.size + 2, 2, none⟩ = some (.int .u32 s) ∧ (W.setRow (w.heap.size + 2) (frC v k s 0 c (.slice A n cp))).cell? ⟨w.heap.size + 2, 3, none⟩ = some (.int .i64 0) ∧
      (W.setRow (w.heap.size + 2) (frC v k s 0 c (.slice A n cp))).cell? ⟨w.heap.size + 2, 4, none⟩ = some (.int .i64 c) ∧ (W.setRow (w.heap.size + 2) (frC v k s 0 c (.slice A n cp))).cell? ⟨w.heap.size + 2, 5, none⟩ = some (.slice A n cp) ∧
      G (.returned (.tuple #[.agg #[.int .i64 v, .int .i64 k, .int .u32 s, .int .i64 0, .int .i64 c, .slice A n cp], .int .i64 er])) (W.setRow (w.heap.size + 2) (frC v k s 0 c (.slice A n cp)))) := Lib.hid fun W er hW he h0 => by
    obtain ⟨_, _, hx⟩ := HX.out W hW
    have hh := setRow_heap W (w.heap.size + 2) _ (frC v k s 0 c (.slice A n cp)) _ _ hx
    have hbw := HB1.out.trans (hW.mono HB1.out.size)
    have hbF : Below w.heap.size w (W.setRow (w.heap.size + 2) (frC v k s 0 c (.slice A n cp))) := hbw.trans ((Off.setRow (S := fun q => q = w.heap.size + 2) (Off.of_below (Below.refl _ _)) rfl _).below (fun q hq => by omega) hbw.size)
    obtain ⟨g0, g1, g2, g3, g4, g5⟩ := fr_block hh
    exact ⟨g0, g1, g2, g3, g4, g5, HBad.out er _ he h0 hbF⟩
  cases M with
  | false =>
    rw [if_pos rfl] at HSE
    go_wp2_with (refine wpList_store_row rfl 84 (.tmp 4) (.tmp 12) rfl (w.heap.size + 2) (frC v k s 0 c (.slice A n cp)) rfl rfl 84 _ hx3 ssInfo rfl (fs_one _ _ _ _ _ _ _ _) ?_)
    obtain ⟨g0, g1, g2, g3, g4, g5, HFIN⟩ := HEND.out _ 17 hb2 HSE.out (by omega)
    refine bodyPost_ret (by simp [results, Tryz.results44, go_sem, g0, g1, g2, g3, g4, g5]; try rfl) rfl ?_
    exact HFIN
  | true =>
    rw [if_neg (by simp)] at HSE
    by_cases hi0 : f.i < 0
    · rw [if_pos (.inl hi0)] at HSE
      go_wp2_with (refine wpList_store_row rfl 84 (.tmp 4) (.tmp 26) rfl (w.heap.size + 2) (frC v k s 0 c (.slice A n cp)) rfl rfl 84 _ hx3 ssInfo rfl (fs_one _ _ _ _ _ _ _ _) ?_)
      obtain ⟨g0, g1, g2, g3, g4, g5, HFIN⟩ := HEND.out _ 3 hb2 HSE.out (by omega)
      refine bodyPost_ret (by simp [results, Tryz.results44, go_sem, g0, g1, g2, g3, g4, g5]; try rfl) rfl ?_
      exact HFIN
    · by_cases hi1 : c ≤ f.i
      · rw [if_pos (.inr hi1)] at HSE
        go_wp2_with (refine wpList_store_row rfl 84 (.tmp 4) (.tmp 26) rfl (w.heap.size + 2) (frC v k s 0 c (.slice A n cp)) rfl rfl 84 _ hx3 ssInfo rfl (fs_one _ _ _ _ _ _ _ _) ?_)
        obtain ⟨g0, g1, g2, g3, g4, g5, HFIN⟩ := HEND.out _ 3 hb2 HSE.out (by omega)
        refine bodyPost_ret (by simp [results, Tryz.results44, go_sem, g0, g1, g2, g3, g4, g5]; try rfl) rfl ?_
        exact HFIN
      · rw [if_neg (by omega)] at HSE
        by_cases hn0 : f.zs.length = 0
        · rw [if_pos hn0] at HSE
          have hn0' : (f.zs.length : Int) = 0 := by omega
          go_wp2_with (refine wpList_store_row rfl 84 (.tmp 4) (.tmp 31) rfl (w.heap.size + 2) (frC v k s 0 c (.slice A n cp)) rfl rfl 84 _ hx3 ssInfo rfl (fs_one _ _ _ _ _ _ _ _) ?_)
          obtain ⟨g0, g1, g2, g3, g4, g5, HFIN⟩ := HEND.out _ 13 hb2 HSE.out (by omega)
          refine bodyPost_ret (by simp [results, Tryz.results44, go_sem, g0, g1, g2, g3, g4, g5]; try rfl) rfl ?_
          exact HFIN
        · rw [if_neg hn0] at HSE
          have hn0' : ¬ (f.zs.length : Int) = 0 := by omega
          obtain ⟨j, hj⟩ := Int.eq_ofNat_of_zero_le (a := f.i) (by omega)
          rw [hj, Int.toNat_natCast] at HSE
          have KH := rhas_any v k s 0 (HRA.out.below hb2) j
          unfold HasR at KH
          rw [← hj] at KH
          unfold frV frC at KH
          have HJ := Lib.hid hj
          have HHB2 := Lib.hid hb2
          clear hj hx1 hx2 hx3 hb2
          go_wp2_with fail
          refine KH.mono ?_
          rintro e w3 ⟨hb3', hor⟩
          have hb3 := HHB2.out.trans (hb3'.mono HHB2.out.size)
          obtain ⟨hx1, hx2, hx3b⟩ := HX.out w3 hb3
          obtain ⟨d0, d1, d2, d3, d4, d5⟩ := fr_block hx1
          obtain ⟨e0, e1, e2, e3, e4, e5⟩ := fr_block hx2
          rcases hor with ⟨hno, rfl⟩ | ⟨hyes, p, f', _, _, rfl⟩
          · rw [if_neg (by rw [hno]; simp)] at HSE
            have HNO := Lib.hid hno
            have HB3 := Lib.hid hb3
            have HRA3 := Lib.hid (HRA.out.below hb3)
            have KS := Lib.hid (fun (V : World) (hV : Below w3.heap.size w3 V) => rsize_any v k s 0 (HRA3.out.below hV))
            have LX : Hid (∀ V, Below w3.heap.size w3 V → Below w1.heap.size w1 V) := Lib.hid fun V hV => HB3.out.trans (hV.mono HB3.out.size)
            have L1 : ∀ V, Below w3.heap.size w3 V → (Instr.loadAt 84 (.pointer (some ⟨w.heap.size, 0, none⟩))).run Tryz.prog V = .ok (.agg #[.int .i64 v, .int .i64 k, .int .u32 s, .int .i64 0, .int .i64 c, .slice A n cp]) V := fun V hV => by
              obtain ⟨hy, _, _⟩ := HX.out V (LX.out V hV)
              obtain ⟨d0, d1, d2, d3, d4, d5⟩ := fr_block hy
              simp [Instr.loadAt, go_sem, d0, d1, d2, d3, d4, d5]
            have L2 : ∀ V, Below w3.heap.size w3 V → (Instr.loadAt 40 (.pointer (some ⟨w.heap.size + 1, 5, none⟩))).run Tryz.prog V = .ok (.slice f.a f.zs.length f.cp) V := fun V hV => by
              obtain ⟨_, hy, _⟩ := HX.out V (LX.out V hV)
              obtain ⟨d0, d1, d2, d3, d4, d5⟩ := fr_block hy
              simp [Instr.loadAt, go_sem, d5]
            obtain ⟨T, hT⟩ : ∃ T, Sl.tot (fs.map Fr.ct) = T := ⟨_, rfl⟩
            have hTm := HRA.out.most
            rw [hT] at HSE KS hTm
            have HTT := Lib.hid hT
            unfold frV frC at KS
            clear KH hb3' hno hT d0 d1 d2 d3 d4 d5 e0 e1 e2 e3 e4 e5 hx1 hx2 hx3b hb3
            go_wp2_with fail
            refine wp_region_F 56 [] (fun _ _ _ => True) (fun V => Below w3.heap.size w3 V) (by kernel_rfl) (by kernel_rfl) (by rfl) (by simp) (fun W W' h hb => h.trans (hb.mono h.size)) (fun _ _ _ _ _ _ => trivial) (Below.refl _ _).drew ?_
            refine wpF_load _ rfl (by rfl) (by rfl) (by rfl) L1 ?_
            simp only [Act.put, List.setIfInBounds_toArray, List.set_cons_succ, List.set_cons_zero]
            refine wpF_call (f := 70) (args := #[.agg #[.int .i64 v, .int .i64 k, .int .u32 s, .int .i64 0, .int .i64 c, .slice A n cp]]) (.int .i64 (T : Int)) rfl rfl (fun x => by first | rfl | (simp [go_sem]; done)) KS.out ?_
            simp only [Act.put, List.setIfInBounds_toArray, List.set_cons_succ, List.set_cons_zero]
            repeat (first | (refine wpF_nil rfl rfl rfl rfl ?_; simp only [Act.put, List.setIfInBounds_toArray, List.set_cons_succ, List.set_cons_zero]) | (refine wpF_pure rfl rfl ?_; go_big_quiet_step (fail); refine wpQuiet_nil ?_))
            refine wpF_load _ rfl (by rfl) (by rfl) (by rfl) L2 ?_
            simp only [Act.put, List.setIfInBounds_toArray, List.set_cons_succ, List.set_cons_zero]
            repeat (first | (refine wpF_nil rfl rfl rfl rfl ?_; simp only [Act.put, List.setIfInBounds_toArray, List.set_cons_succ, List.set_cons_zero]) | (refine wpF_pure rfl rfl ?_; go_big_quiet_step (fail); refine wpQuiet_nil ?_))
            intro xs4 w4 hb4' _
            simp only [fill]
            have hb4 := LX.out w4 hb4'
            obtain ⟨hx1, hx2, hx3c⟩ := HX.out w4 hb4
            obtain ⟨d0, d1, d2, d3, d4, d5⟩ := fr_block hx1
            obtain ⟨e0, e1, e2, e3, e4, e5⟩ := fr_block hx2
            clear L1 L2 hb4'
            by_cases ht : 192 < T + f.zs.length
            · rw [if_pos ht] at HSE
              have ht2 : (192 : Int) < (T : Int) + (f.zs.length : Int) := by omega
              go_wp2_with (refine wpList_store_row rfl 84 (.tmp 4) (.tmp 46) rfl (w.heap.size + 2) (frC v k s 0 c (.slice A n cp)) rfl rfl 84 _ hx3c ssInfo rfl (fs_one _ _ _ _ _ _ _ _) ?_)
              obtain ⟨g0, g1, g2, g3, g4, g5, HFIN⟩ := HEND.out _ 6 hb4 HSE.out (by omega)
              refine bodyPost_ret (by simp [results, Tryz.results44, go_sem, g0, g1, g2, g3, g4, g5]; try rfl) rfl ?_
              exact HFIN
            · rw [if_neg ht] at HSE
              have ht2 : ¬ (192 : Int) < (T : Int) + (f.zs.length : Int) := by omega
              have LX4 : Hid (∀ V, Below w4.heap.size w4 V → Below w1.heap.size w1 V) := Lib.hid fun V hV => hb4.trans (hV.mono hb4.size)
              have L1 : ∀ V, Below w4.heap.size w4 V → (Instr.loadAt 82 (.pointer (some ⟨w.heap.size, 5, none⟩))).run Tryz.prog V = .ok (.slice A n cp) V := fun V hV => by
                obtain ⟨hy, _, _⟩ := HX.out V (LX4.out V hV)
                obtain ⟨d0, d1, d2, d3, d4, d5⟩ := fr_block hy
                simp [Instr.loadAt, go_sem, d5]
              have L2 : ∀ V, Below w4.heap.size w4 V → (Instr.loadAt 52 (.pointer (some ⟨w.heap.size + 1, 0, none⟩))).run Tryz.prog V = .ok (.agg #[.int .i64 f.v, .int .i64 f.k, .int .u32 f.s, .int .i64 f.i, .int .i64 f.c, .slice f.a f.zs.length f.cp]) V := fun V hV => by
                obtain ⟨_, hy, _⟩ := HX.out V (LX4.out V hV)
                obtain ⟨d0, d1, d2, d3, d4, d5⟩ := fr_block hy
                simp [Instr.loadAt, go_sem, d0, d1, d2, d3, d4, d5]
              have HRA4 := Lib.hid (HRA.out.below hb4)
              have HB4 := Lib.hid hb4
              have hn250 := HRA.out.few_len
              have hlen := HRA.out.len
              obtain ⟨z0, hi, hz0, hz1, hz2⟩ := info_parts sfInfo
              clear d0 d1 d2 d3 d4 d5 e0 e1 e2 e3 e4 e5 hx1 hx2 hx3c hb4 KS
              go_wp2_with fail
              refine wp_region_FT 56 6 [47, 50, 52] (FPut w4.heap.size n fs f) (fun V => Below w4.heap.size w4 V) (by kernel_rfl) (by kernel_rfl) (by rfl) (by kernel_rfl) (by kernel_rfl) (by kernel_rfl) (by rfl) (by simp) (fun W W' h hb => h.trans (hb.mono h.size)) (fun q x W W' h hb => h.later hb) (Below.refl _ _).drew ?_
              simp only [List.take_succ_cons, List.take_zero, List.drop_succ_cons, List.drop_zero]
              refine wpF_src 47 (by simp) rfl rfl rfl (fun W hW => ⟨.slice (some ⟨W.heap.size, 0, none⟩) 0 0, W.alloc (.cells #[] 52), ?_, ?_, (Below.refl _ _).alloc (Nat.le_refl _) _⟩) ?_
              · simp [go_sem]
              · unfold FPut
                rw [if_pos rfl]
                exact ⟨_, rfl, World.ownsRow_made W #[] 0 hW.size (by unfold maxLen; omega) rfl⟩
              simp only [Act.put, List.setIfInBounds_toArray, List.set_cons_succ, List.set_cons_zero]
              repeat (refine wpF_pure rfl rfl ?_; go_big_quiet_step (fail); refine wpQuiet_nil ?_)
              refine wpF_load _ rfl (by rfl) (by rfl) (by rfl) L1 ?_
              simp only [Act.put, List.setIfInBounds_toArray, List.set_cons_succ, List.set_cons_zero]
              refine wpF_mix 50 [47] (by simp) rfl (by kernel_rfl) (by kernel_rfl) (fun xs => by rfl) (fun xs W hW hx => ?_) ?_
              · have h47 := hx 47 (by simp)
                unfold FPut at h47
                rw [if_pos rfl] at h47
                obtain ⟨g, e47, ho47⟩ := h47
                obtain ⟨v', W', hr, ho, hbl⟩ := append_frames (P := Tryz.prog) 82 82 52 z0 _ Tryz.underlying82 hi hz0 hz1 hz2 rfl w4.heap.size g hW.size ho47 A n cp fs hlen (by omega) (HRA4.out.below hW).at'
                refine ⟨v', W', ?_, ?_, hbl⟩
                · exact exec_appendU (.tmp 47) (.tmp 49) 82 rfl (by simp [fill, Act.put, Act.eval, e47]) (by simp [fill, Act.put, Act.eval]) hr
                · unfold FPut
                  rw [if_neg (by decide), if_pos rfl]
                  exact ho
              simp only [Act.put, List.setIfInBounds_toArray, List.set_cons_succ, List.set_cons_zero]
              refine wpF_load _ rfl (by rfl) (by rfl) (by rfl) L2 ?_
              simp only [Act.put, List.setIfInBounds_toArray, List.set_cons_succ, List.set_cons_zero]
              refine wpF_src 52 (by simp) rfl rfl rfl (fun W hW => ⟨.slice (some ⟨W.heap.size, 0, none⟩) 1 1, W.alloc (.cells f.cs 52), ?_, ?_, (Below.refl _ _).alloc (Nat.le_refl _) _⟩) ?_
              · simp [go_sem, Fr.cs, frC]
              · unfold FPut
                rw [if_neg (by decide), if_neg (by decide)]
                exact ⟨_, rfl, World.alloc_heap_new _ _⟩
              simp only [Act.put, List.setIfInBounds_toArray, List.set_cons_succ, List.set_cons_zero]
              intro xs5 w5 hb5 hx
              have h50 := hx 50 (by simp)
              have h52 := hx 52 (by simp)
              unfold FPut at h50 h52
              rw [if_neg (by decide), if_pos rfl] at h50
              rw [if_neg (by decide), if_neg (by decide)] at h52
              obtain ⟨g5, e52, hg5⟩ := h52
              simp only [fill, Act.put, List.setIfInBounds_toArray, List.set_cons_succ, List.set_cons_zero]
              rw [e52]
              generalize xs5 47 = x47
              generalize xs5 50 = x50 at *
              have hb5w := LX4.out w5 hb5
              have hs5 : w4.heap.size ≤ w5.heap.size := hb5.size
              have hs4 : w.heap.size + 3 ≤ w4.heap.size := by have := HB4.out.size; omega
              obtain ⟨hx1, hx2, hx3⟩ := HX.out w5 hb5w
              have HNW : Hid (∀ (q : Nat) (u : Value), [Value.int .i64 f.v, .int .i64 f.k, .int .u32 f.s, .int .i64 f.i, .int .i64 f.c, .slice f.a f.zs.length f.cp][q]? = some u → w5.cell? ((⟨g5, 0, none⟩ : Addr).add q) = some u) := Lib.hid fun q u hq => by
                rw [Addr.add_lit, Nat.zero_add]
                simp only [World.cell?, hg5]
                simpa [Fr.cs, frC] using hq
              have HR5 := Lib.hid h50
              have HX1 : Hid (n + 1 ≤ maxLen) := by show _ ≤ _; unfold maxLen; omega
              have HX2 : Hid ((n + 1) * 64 ≤ 140737488355328) := by show _ ≤ _; omega
              have HX5 : Hid (∀ q, q < w4.heap.size → x50.ownBlock ≠ some q) := Lib.hid fun q hq e => by
                have := (HR5.out.lt q e).1
                omega
              have HB5 := Lib.hid hb5w
              have HL1 := Lib.hid hx1
              have HL3 := Lib.hid hx3
              clear hx e52 hg5 h50 L1 L2 hb5 hb5w hx1 hx2 hx3
              refine wpList_append_lies _ rfl (.tmp 50) (.tmp 52) 82 rfl w4.heap.size 52 z0 _ 6 64 Tryz.underlying82 hi hz0 hz1 hz2 rfl (by decide) x50 n (flatF fs) rfl HR5.out ⟨g5, 0, none⟩ 1 1 [Value.int .i64 f.v, .int .i64 f.k, .int .u32 f.s, .int .i64 f.i, .int .i64 f.c, .slice f.a f.zs.length f.cp] rfl rfl HNW.out (by simp [Value.oneCell']) (by decide) HX1.out HX2.out hs5 _ rfl ?_
              intro g6 cp6 w6 hown hgr hat6 hlt6
              have hy1 := (hgr.block w.heap.size (by omega) (fun e => HX5.out _ (by omega) e.symm)).trans HL1.out
              have hy3 := (hgr.block (w.heap.size + 2) (by omega) (fun e => HX5.out _ (by omega) e.symm)).trans HL3.out
              have hb6 : Below w.heap.size w w6 := (HB1.out.trans (HB5.out.mono HB1.out.size)).grown hgr (by omega) (fun g hg => by
                have := (HR5.out.lt g hg).1
                omega)
              have hg6 : w4.heap.size ≤ g6 := by
                rcases hat6 with h | h
                · exact (HR5.out.lt _ h).1
                · omega
              obtain ⟨d0, d1, d2, d3, d4, d5⟩ := fr_block hy1
              have fS : w6.frozen? ⟨w.heap.size, 5, none⟩ = false := by simp [World.frozen?, hy1]
              have hz3 : (w6.setCell ⟨w.heap.size, 5, none⟩ (.slice (some ⟨g6, 0, none⟩) (n + 1) cp6)).heap[w.heap.size + 2]? = _ := (Below.heap_setCell w6 ⟨w.heap.size, 5, none⟩ _ (w.heap.size + 2) (by simp)).trans hy3
              have HFIN : Hid (let W8 := (w6.setCell ⟨w.heap.size, 5, none⟩ (.slice (some ⟨g6, 0, none⟩) (n + 1) cp6)).setRow (w.heap.size + 2) (frC v k s 0 c (.slice (some ⟨g6, 0, none⟩) (n + 1) cp6))
                  W8.heap[w.heap.size + 2]? = some (.cells (frC v k s 0 c (.slice (some ⟨g6, 0, none⟩) (n + 1) cp6)) 84 (0, 0)) ∧ G (.returned (.tuple #[.agg #[.int .i64 v, .int .i64 k, .int .u32 s, .int .i64 0, .int .i64 c, .slice (some ⟨g6, 0, none⟩) (n + 1) cp6], .int .i64 0])) W8) := by
                refine Lib.hid ?_
                intro W8
                have hb7 := hb6.setCell (p := ⟨w.heap.size, 5, none⟩) (Nat.le_refl _) (.slice (some ⟨g6, 0, none⟩) (n + 1) cp6)
                have hb8 : Below w.heap.size w W8 := hb7.trans ((Off.setRow (S := fun q => q = w.heap.size + 2) (Off.of_below (Below.refl _ _)) rfl _).below (fun q hq => by omega) hb7.size)
                have hrow : W8.ownsRow w4.heap.size 52 6 (.slice (some ⟨g6, 0, none⟩) (n + 1) cp6) (n + 1) (flatF (fs ++ [f])) := by
                  rw [flatF_push]
                  refine ⟨hown.1, hown.2.imp id fun ⟨g, cap, cur, hv, hge, hh, r'⟩ => ⟨g, cap, cur, hv, hge, ?_, r'⟩⟩
                  refine (setRow_other _ _ _ _ (by omega)).trans ?_
                  exact (Below.heap_setCell w6 ⟨w.heap.size, 5, none⟩ _ g (by simp only; omega)).trans hh
                have hats : ∀ f' ∈ fs ++ [f], f'.At W8 W8.heap.size := fun f' hf' => (HAF.out f' hf' |>.below hb8).mono hb8.size
                have hlen' : (fs ++ [f]).length = n + 1 := by rw [List.length_append, hlen]; rfl
                rw [← hlen'] at hrow
                obtain ⟨A', c', e', hc', hfrs⟩ := own_frs hrow hats
                injection e' with e1 e2 e3
                subst e1 e3
                refine ⟨setRow_heap _ _ _ _ _ _ hz3, HGood.out HSE.out _ _ W8 hb8 ⟨hfrs, hlen', by rw [← hlen']; exact hc', fun f' hf' => ?_, ?_, ?_, HRA.out.small, fun g off e => ?_⟩⟩
                · rcases List.mem_append.1 hf' with hf' | hf'
                  · exact HRA.out.few f' hf'
                  · obtain rfl := List.mem_singleton.1 hf'
                    exact ⟨by omega, by omega⟩
                · unfold Sl.Keys
                  rw [List.map_append, List.map_append, List.nodup_append]
                  refine ⟨HRA.out.keys, by simp, fun a ha b hb => ?_⟩
                  have hb' : b = j := by
                    have h1 : b = f.i.toNat := by simpa [Fr.ct] using hb
                    rw [h1, HJ.out]; rfl
                  subst hb'
                  intro e
                  subst e
                  have := Sl.has_iff.2 ha
                  rw [HNO.out] at this
                  cases this
                · rw [List.map_append]
                  show Sl.tot (fs.map Fr.ct ++ [f.ct]) ≤ 192
                  rw [Sl.tot_push]
                  show Sl.tot (fs.map Fr.ct) + f.zs.length ≤ 192
                  rw [HTT.out]
                  omega
                · rcases hrow.2 with ⟨e', _⟩ | ⟨g', cap, cur, e', _, hh, _⟩
                  · cases e'
                  · injection e with e
                    injection e with e
                    injection e' with e'
                    injection e' with e'
                    injection e' with e'
                    subst e e'
                    exact ⟨cur, hh⟩
              clear hown hgr hat6 hlt6 hy1 hy3 hb6 hg6 HR5 HNW HX1 HX2 HX5 HL1 HL3 hn0' hn250
              go_wp2_with (refine wpList_store_row rfl 84 (.tmp 4) (.tmp 55) rfl (w.heap.size + 2) (frC v k s 0 c (.slice (some ⟨g6, 0, none⟩) (n + 1) cp6)) rfl rfl 84 _ hz3 ssInfo rfl (fs_one _ _ _ _ _ _ _ _) ?_)
              obtain ⟨hh, HG9⟩ := HFIN.out
              obtain ⟨g0, g1, g2, g3, g4, g5'⟩ := fr_block hh
              refine bodyPost_ret (by simp [results, Tryz.results44, go_sem, g0, g1, g2, g3, g4, g5']; try rfl) rfl ?_
              exact HG9
          · rw [if_pos hyes] at HSE
            clear KH hb3'
            go_wp2_with (refine wpList_store_row rfl 84 (.tmp 4) (.tmp 38) rfl (w.heap.size + 2) (frC v k s 0 c (.slice A n cp)) rfl rfl 84 _ hx3b ssInfo rfl (fs_one _ _ _ _ _ _ _ _) ?_)
            obtain ⟨g0, g1, g2, g3, g4, g5, HFIN⟩ := HEND.out _ 16 hb3 HSE.out (by omega)
            refine bodyPost_ret (by simp [results, Tryz.results44, go_sem, g0, g1, g2, g3, g4, g5]; try rfl) rfl ?_
            exact HFIN
end Go.Proofs.YtfdbcfkjablnkaaGreat

namespace Go.Proofs.YtfdbcfkjablnkaaGreat
open Go.RowKit Go.Shelf
set_option maxRecDepth 100000

/-- what Frames leaves -/
def FramesR (w : World) (v k s : Int) (zs : List Int) (room : Int) (e : Ending) (w' : World) : Prop :=
  Below w.heap.size w w' ∧ ((Ct.fErr v k zs.length room ≠ 0 ∧ e = .returned (.tuple #[.slice none 0 0, .int .i64 (Ct.fErr v k zs.length room)])) ∨
    (Ct.fErr v k zs.length room = 0 ∧ ∃ A c fs, e = .returned (.tuple #[.slice A fs.length c, .int .i64 0]) ∧ fs.length ≤ c ∧ Ct.Cut v k s zs room.toNat fs ∧ FrsAt w' w'.heap.size A fs))
/-- the frames that have been made -/
def CutGo (v k s : Int) (zs : List Int) (r m : Nat) (fs : List Fr) : Prop := ∀ (j : Nat) (f : Fr), fs[j]? = some f → f.v = v ∧ f.k = k ∧ f.s = s ∧ f.i = (j : Int) ∧ f.c = (m : Int) ∧ f.zs = Ct.part zs r j
theorem CutGo.push {v k s : Int} {zs : List Int} {r m : Nat} {fs : List Fr} (h : CutGo v k s zs r m fs) (a : Option Addr) (cp : Nat) : CutGo v k s zs r m (fs ++ [⟨v, k, s, (fs.length : Int), (m : Int), a, cp, Ct.part zs r fs.length⟩]) := fun j f hf => by
  rcases Nat.lt_or_ge j fs.length with h1 | h1
  · rw [List.getElem?_append_left h1] at hf
    exact h j f hf
  · rw [List.getElem?_append_right h1] at hf
    have h2 : j - fs.length = 0 := by
      have := (List.getElem?_eq_some_iff.1 hf).1
      simp at this; omega
    rw [h2] at hf
    have h3 : j = fs.length := by omega
    simp only [List.getElem?_cons_zero, Option.some.injEq] at hf
    subst hf h3
    exact ⟨rfl, rfl, rfl, rfl, rfl, rfl⟩
theorem FramesR.good {w W : World} {v k s room : Int} {zs : List Int} {base t : TypeId} {u : Value} {fs : List Fr} {m : Nat} (hE : Ct.fErr v k zs.length room = 0) (hm : Ct.cnt zs.length room.toNat = m) (hl : fs.length = m) (hg : CutGo v k s zs room.toNat m fs)
    (hat : ∀ f ∈ fs, f.At W W.heap.size) (hrow : W.ownsRow base t 6 u fs.length (flatF fs)) (hb : Below w.heap.size w W) : FramesR w v k s zs room (.returned (.tuple #[u, .int .i64 0])) W := by
  obtain ⟨A, c, rfl, hc, hf⟩ := own_frs hrow hat
  exact ⟨hb, .inr ⟨hE, A, c, fs, rfl, hc, ⟨by rw [hm]; exact hl, by rw [hm]; exact hg⟩, hf⟩⟩
end Go.Proofs.YtfdbcfkjablnkaaGreat

namespace Go.Proofs.YtfdbcfkjablnkaaGreat
open Go.RowKit Go.Shelf
set_option maxRecDepth 100000
attribute [local go_sem] Oper.semAt_some

end Go.Proofs.YtfdbcfkjablnkaaGreat

namespace Go.Proofs.YtfdbcfkjablnkaaGreat
open Go.RowKit
set_option maxRecDepth 100000

theorem own_slD {W : World} {base e size n : Nat} {v : Value} {xs : List Value} (h : W.ownsRow base e size v n xs) : ∃ A c, v = .slice A n c ∧ n ≤ c := by
  rcases h.2 with ⟨rfl, rfl⟩ | ⟨g, cap, cur, rfl, _, _, hle, _⟩
  · exact ⟨none, 0, rfl, Nat.le_refl _⟩
  · exact ⟨_, cap, rfl, hle⟩
theorem cells_newD {W : World} {cs : List Value} (t : TypeId) (j : Nat) (u : Value) (h : cs[j]? = some u) : (W.alloc (.cells cs.toArray t)).cell? ((⟨W.heap.size, 0, none⟩ : Addr).add j) = some u := by
  rw [Addr.add_lit, Nat.zero_add, World.cell?_alloc_at _ _ _ _ rfl]
  simpa using h
theorem held_take (L : List Ds) (j : Nat) : Tb.held ((L.take j).map Ds.ms) ≤ Tb.held (L.map Ds.ms) := by
  have e : L.map Ds.ms = (L.take j).map Ds.ms ++ (L.drop j).map Ds.ms := by rw [← List.map_append, List.take_append_drop]
  rw [e]
  unfold Tb.held
  rw [List.map_append, List.sum_append]
  omega
theorem held_push (L : List Ds) (d : Ds) : Tb.held ((L ++ [d]).map Ds.ms) = Tb.held (L.map Ds.ms) + Sl.tot (d.gs.map Fr.ct) := by
  unfold Tb.held
  simp [Ds.ms]
theorem held_most {w : World} : ∀ {L : List Ds}, (∀ d ∈ L, d.At w) → Tb.held (L.map Ds.ms) ≤ 192 * L.length
  | [], _ => by simp [Tb.held]
  | d :: r, h => by
    have h1 := (h d (by simp)).ref.most
    have h2 := held_most fun x hx => h x (List.mem_cons_of_mem _ hx)
    unfold Tb.held at *
    simp only [List.map_cons, List.sum_cons, List.length_cons, Ds.ms] at *
    omega
section
variable {w : World} {A : Option Addr} {n cp : Nat} {L : List Ds}
theorem dheld_any (h : DocAt w A n cp L) (r : Nat) : Calls Tryz.prog 35 #[docV r A n cp] w fun e w' => e = .returned (.int .i64 (Tb.held (L.map Ds.ms) : Int)) ∧ Below w.heap.size w w' := by
  obtain ⟨w1, hw1⟩ : ∃ w1, w.alloc (.cells #[.int .i64 (r : Int), .slice A n cp] 34) = w1 := ⟨_, rfl⟩
  obtain ⟨hb1, hs1, hx1⟩ := doc_box hw1
  have HX : Hid (∀ W, Below w1.heap.size w1 W → W.cell? ⟨w.heap.size, 0, none⟩ = some (.int .i64 (r : Int)) ∧ W.cell? ⟨w.heap.size, 1, none⟩ = some (.slice A n cp)) := Lib.hid fun W hW => doc_cells ((hW.block _ (by omega)).trans hx1)
  have hnc : (n : Int) ≤ (cp : Int) := by have := h.room; omega
  have hn1 : n ≤ 1000 := h.few
  have hmost := held_most h.at'
  rw [h.len] at hmost
  have H1 := Lib.hid (h.below hb1)
  have HL := Lib.hid h.len
  have HW1 := Lib.hid hw1
  have HB1 := Lib.hid hb1
  clear h hw1 hb1 hx1
  unfold docV
  go_enter Tryz.func35, Tryz.ntmps35
  go_wp2_with fail
  rw [HW1.out]
  go_loopw [3, 4] (fun u iv wr => ∃ j T : Nat, j ≤ n ∧ iv = .int .i64 (j : Int) ∧ u = .int .i64 (T : Int) ∧ Hid (T = Tb.held ((L.take j).map Ds.ms)) ∧ Hid (Below w1.heap.size w1 wr)) (fun _ iv _ => n - (intOf iv).toNat)
  case atStart => exact ⟨0, 0, by omega, rfl, rfl, Lib.hid rfl, Lib.hid (Below.refl _ _)⟩
  case round =>
    obtain ⟨j, T, hj, rfl, rfl, HT, HB⟩ := hrel
    obtain ⟨d0, d1⟩ := HX.out wr HB.out
    by_cases hjn : j < n
    · have hjn' : (j : Int) < (n : Int) := by omega
      obtain ⟨d, hd⟩ : ∃ d, L[j]? = some d := ⟨_, List.getElem?_eq_getElem (by rw [HL.out]; exact hjn)⟩
      obtain ⟨b, off, rfl, hb, a0, a1, a2, a3, a4, a5⟩ := (H1.out.below HB.out).six hd
      have hdm := List.mem_of_getElem? hd
      have KS := rsize_any d.v d.k d.s 0 ((H1.out.below HB.out).at' d hdm).ref
      have hsum : Tb.held ((L.take (j + 1)).map Ds.ms) = T + Sl.tot (d.gs.map Fr.ct) := by
        rw [HT.out, List.take_add_one, hd]
        exact held_push _ d
      have hle := held_take L (j + 1)
      rw [hsum] at hle
      have HSUM := Lib.hid hsum
      unfold frV frC at KS
      clear hd hdm hsum
      generalize Sl.tot (d.gs.map Fr.ct) = U at *
      go_wp2_with fail
      refine KS.mono ?_
      rintro e W2 ⟨rfl, hb2⟩
      have HB2 := Lib.hid (HB.out.trans (hb2.mono HB.out.size))
      have hTU : T + U ≤ 192000 := by omega
      clear hb2 KS a0 a1 a2 a3 a4 a5 d0 d1 hle
      go_wp2
      go_roundw
      case rel => exact ⟨j + 1, T + U, by omega, by go_num, by go_num, Lib.hid HSUM.out.symm, HB2⟩
      case measure => simp [intOf]; omega
    · obtain rfl : j = n := by omega
      have hjn' : ¬ (j : Int) < (j : Int) := by omega
      have HT2 : Hid (T = Tb.held (L.map Ds.ms)) := by
        have h := HT.out
        rw [List.take_of_length_le (by rw [HL.out]; omega)] at h
        exact h
      have HFIN := Lib.hid (HB1.out.trans (HB.out.mono HB1.out.size))
      go_wp2
      go_ret
      exact ⟨by rw [← HT2.out]; rfl, HFIN.out⟩
theorem dseqs_any (h : DocAt w A n cp L) (r : Nat) : Calls Tryz.prog 42 #[docV r A n cp] w fun e w' => ∃ v, e = .returned v ∧ MadeK 22 .u32 w w' (L.map Ds.s) v := by
  obtain ⟨i0, hi, hz0, hz1, hz2⟩ := info_parts wu32Info
  obtain ⟨w1, hw1⟩ : ∃ w1, w.alloc (.cells #[.int .i64 (r : Int), .slice A n cp] 34) = w1 := ⟨_, rfl⟩
  obtain ⟨hb1, hs1, hx1⟩ := doc_box hw1
  have HX : Hid (∀ W, Below w1.heap.size w1 W → W.cell? ⟨w.heap.size, 0, none⟩ = some (.int .i64 (r : Int)) ∧ W.cell? ⟨w.heap.size, 1, none⟩ = some (.slice A n cp)) := Lib.hid fun W hW => doc_cells ((hW.block _ (by omega)).trans hx1)
  have hnc : (n : Int) ≤ (cp : Int) := by have := h.room; omega
  have hn1 : n ≤ 1000 := h.few
  have H1 := Lib.hid (h.below hb1)
  have HL := Lib.hid h.len
  have HW1 := Lib.hid hw1
  have HB1 := Lib.hid hb1
  clear h hw1 hb1 hx1 hs1
  unfold docV
  go_enter Tryz.func42, Tryz.ntmps42
  go_wp2_with fail
  rw [HW1.out]
  go_loopw [3, 4] (fun u iv wr => ∃ j : Nat, j ≤ n ∧ iv = .int .i64 (j : Int) ∧ Hid (wr.ownsRow w1.heap.size 22 1 u j ((L.map fun d => Value.int .u32 d.s).take j)) ∧ Hid (Below w1.heap.size w1 wr)) (fun _ iv _ => n - (intOf iv).toNat)
  case atStart => exact ⟨0, by omega, rfl, Lib.hid (World.ownsRow_nil _ _ _ _), Lib.hid (Below.refl _ _)⟩
  case round =>
    obtain ⟨j, hj, rfl, HO, HB⟩ := hrel
    obtain ⟨d0, d1⟩ := HX.out wr HB.out
    by_cases hjn : j < n
    · have hjn' : (j : Int) < (n : Int) := by omega
      obtain ⟨d, hd⟩ : ∃ d, L[j]? = some d := ⟨_, List.getElem?_eq_getElem (by rw [HL.out]; exact hjn)⟩
      obtain ⟨b, off, rfl, hb, a0, a1, a2, a3, a4, a5⟩ := (H1.out.below HB.out).six hd
      have HD := Lib.hid hd
      have HX1 : Hid (j + 1 ≤ maxLen) := by show _ ≤ _; unfold maxLen; omega
      have HX2 : Hid ((j + 1) * 4 ≤ 140737488355328) := by show _ ≤ _; omega
      have HX3 : Hid (w1.heap.size ≤ (wr.alloc (.cells #[.int .u32 d.s] 22)).heap.size) := by show _ ≤ _; rw [World.size_alloc]; have := HB.out.size; omega
      clear hd a0 a1 a3 a4 a5
      go_wp2_with (at_builtin; refine wpList_append_own_at _ rfl (.tmp 12) (.tmp 20) 95 rfl w1.heap.size 22 i0 (.int .u32 0) 1 4 Tryz.underlying95 hi hz0 hz1 hz2 rfl (by decide) _ _ _ rfl (HO.out.alloc _) ⟨wr.heap.size, 0, none⟩ 1 1 [.int .u32 d.s] rfl rfl (cell_one_new _ _ _) (by simp [Value.oneCell']) HX1.out HX2.out HX3.out ?_)
      intro u1 W1 hown hg _ _
      have HB2 := Lib.hid ((HB.out.alloc HB.out.size _).grown hg (by have := HX3.out; omega) (fun g hk => (HO.out.lt g hk).1))
      have HO2 : Hid (W1.ownsRow w1.heap.size 22 1 u1 (j + 1) ((L.map fun d => Value.int .u32 d.s).take (j + 1))) := by
        rw [List.take_add_one, List.getElem?_map, HD.out]
        exact hown
      clear hown hg HX1 HX2 HX3 HO HB d0 d1
      go_wp2
      go_roundw
      case rel => exact ⟨j + 1, by omega, by go_num, HO2, HB2⟩
      case measure => simp [intOf]; omega
    · obtain rfl : j = n := by omega
      have hjn' : ¬ (j : Int) < (j : Int) := by omega
      have HFIN : Hid (MadeK 22 .u32 w wr (L.map Ds.s) u3) := by
        have ho := HO.out
        rw [List.take_of_length_le (by rw [List.length_map, HL.out]; omega)] at ho
        refine ⟨?_, HB1.out.trans (HB.out.mono HB1.out.size)⟩
        rw [List.length_map, HL.out, List.map_map]
        exact ownsRow_lower ho HB1.out.size
      clear HO
      go_wp2
      go_ret
      exact ⟨_, rfl, HFIN.out⟩
/-- what Drop answers -/
def DDropR (w : World) (r : Nat) (L' : List Ds) (e : Ending) (w' : World) : Prop := Below w.heap.size w w' ∧ ∃ A cp, e = .returned (docV r A L'.length cp) ∧ DocAt w' A L'.length cp L'
theorem DDropR.of {r : Nat} {L' : List Ds} {u : Value} {base : Nat} {w' : World} (hb : Below w.heap.size w w') (ho : w'.ownsRow base 84 6 u L'.length (flatD L')) (hat : ∀ d ∈ L', d.At w') (hf : L'.length ≤ 1000) :
    DDropR w r L' (.returned (.agg #[.int .i64 (r : Int), u])) w' := by
  obtain ⟨A, c, rfl, _, hd⟩ := own_docs ho hat hf
  exact ⟨hb, A, c, rfl, hd⟩
theorem stInfo : (Tryz.prog.info? 34).map (·.size) = some 2 := by kernel_rfl
theorem dsInfo : (Tryz.prog.info? 84).map (fun i => (i.zero, i.size, i.bytes)) = some (some (.agg #[.int .i64 0, .int .i64 0, .int .u32 0, .int .i64 0, .int .i64 0, .slice none 0 0]), 6, 64) := by kernel_rfl
theorem filter_le (L : List Ds) (j : Nat) (z : Int) : ((L.take j).filter fun d => d.s != z).length ≤ j := by
  have := List.length_filter_le (fun d : Ds => d.s != z) (L.take j)
  rw [List.length_take] at this
  omega
theorem ddrop_any (h : DocAt w A n cp L) (r : Nat) (z : Int) : Calls Tryz.prog 14 #[docV r A n cp, .int .u32 z] w (DDropR w r (L.filter fun d => d.s != z)) := by
  obtain ⟨i0, hi, hz0, hz1, hz2⟩ := info_parts dsInfo
  obtain ⟨w1, hw1⟩ : ∃ w1, (w.alloc (.cells #[.int .i64 (r : Int), .slice A n cp] 34)).alloc (.cells #[.int .i64 0, .slice none 0 0] 34) = w1 := ⟨_, rfl⟩
  have hs1 : w1.heap.size = w.heap.size + 2 := by rw [← hw1]; simp
  have hb1 : Below w.heap.size w w1 := by rw [← hw1]; exact ((Below.refl _ w).alloc (Nat.le_refl _) _).alloc (by simp) _
  have hx1 : w1.heap[w.heap.size]? = some (.cells #[.int .i64 (r : Int), .slice A n cp] 34 (0, 0)) := by rw [← hw1]; exact (Below.heap_alloc _ _ _ (by simp)).trans (World.alloc_heap_new _ _)
  have hx2 : w1.heap[w.heap.size + 1]? = some (.cells #[.int .i64 0, .slice none 0 0] 34 (0, 0)) := by
    rw [← hw1]
    have h := World.alloc_heap_new (w.alloc (.cells #[.int .i64 (r : Int), .slice A n cp] 34)) (.cells #[.int .i64 0, .slice none 0 0] 34)
    rwa [World.size_alloc] at h
  have HX : Hid (∀ W, Below w1.heap.size w1 W → W.heap[w.heap.size]? = some (.cells #[.int .i64 (r : Int), .slice A n cp] 34 (0, 0)) ∧ W.heap[w.heap.size + 1]? = some (.cells #[.int .i64 0, .slice none 0 0] 34 (0, 0))) := Lib.hid fun W hW => ⟨(hW.block _ (by omega)).trans hx1, (hW.block _ (by omega)).trans hx2⟩
  have hnc : (n : Int) ≤ (cp : Int) := by have := h.room; omega
  have hn1 : n ≤ 1000 := h.few
  have H1 := Lib.hid (h.below hb1)
  have HL := Lib.hid h.len
  have HW1 := Lib.hid hw1
  have HB1 := Lib.hid hb1
  have HGood : Hid (∀ (u : Value) (W : World), Below w.heap.size w W → W.ownsRow w1.heap.size 84 6 u (L.filter fun d => d.s != z).length (flatD (L.filter fun d => d.s != z)) →
      DDropR w r (L.filter fun d => d.s != z) (.returned (.agg #[.int .i64 (r : Int), u])) W) := Lib.hid fun u W hb ho => .of hb ho (fun d hd => (h.at' d (List.mem_filter.1 hd).1).below hb) (by have := filter_le L n z; rw [← h.len, List.take_length] at this; have := h.len; omega)
  have HS1 := Lib.hid hs1
  clear h hw1 hb1 hx1 hx2 hs1
  generalize DDropR w r (L.filter fun d => d.s != z) = G at *
  unfold docV
  go_enter Tryz.func14, Tryz.ntmps14
  go_wp2_with fail
  rw [HW1.out]
  go_loopw [5, 6] (fun u iv wr => ∃ j : Nat, j ≤ n ∧ iv = .int .i64 (j : Int) ∧ Hid (wr.ownsRow w1.heap.size 84 6 u ((L.take j).filter fun d => d.s != z).length (flatD ((L.take j).filter fun d => d.s != z))) ∧ Hid (Below w1.heap.size w1 wr)) (fun _ iv _ => n - (intOf iv).toNat)
  case atStart => exact ⟨0, by omega, rfl, Lib.hid (World.ownsRow_nil _ _ _ _), Lib.hid (Below.refl _ _)⟩
  case round =>
    obtain ⟨j, hj, rfl, HO, HB⟩ := hrel
    obtain ⟨hx1, hx2⟩ := HX.out wr HB.out
    obtain ⟨d0, d1⟩ := doc_cells hx1
    by_cases hjn : j < n
    · have hjn' : (j : Int) < (n : Int) := by omega
      obtain ⟨d, hd⟩ : ∃ d, L[j]? = some d := ⟨_, List.getElem?_eq_getElem (by rw [HL.out]; exact hjn)⟩
      obtain ⟨b, off, rfl, hb, a0, a1, a2, a3, a4, a5⟩ := (H1.out.below HB.out).six hd
      have htk : L.take (j + 1) = L.take j ++ [d] := by rw [List.take_add_one, hd]; rfl
      have HTK := Lib.hid htk
      have hfl := filter_le L j z
      obtain ⟨M, hM⟩ : ∃ M, ((L.take j).filter fun d => d.s != z) = M := ⟨_, rfl⟩
      rw [hM] at HO hfl
      by_cases hs : d.s = z
      · have hs' : (d.s != z) = false := by simpa using hs
        have HO2 : Hid (wr.ownsRow w1.heap.size 84 6 u5 ((L.take (j + 1)).filter fun d => d.s != z).length (flatD ((L.take (j + 1)).filter fun d => d.s != z))) := by
          show _
          rw [htk, List.filter_append, hM, List.filter_cons_of_neg (by simpa using hs), List.filter_nil, List.append_nil]
          exact HO.out
        clear hd htk hM HO hs hx1 hx2
        go_wp2
        go_roundw
        case rel => exact ⟨j + 1, by omega, by go_num, HO2, HB⟩
        case measure => simp [intOf]; omega
      · have hs' : (d.s != z) = true := by simpa using hs
        have HM2 : Hid (((L.take (j + 1)).filter fun d => d.s != z) = M ++ [d]) := by
          show _ = _
          rw [htk, List.filter_append, hM, List.filter_cons_of_pos (by simpa using hs), List.filter_nil]
        have HX1 : Hid (M.length + 1 ≤ maxLen) := by show _ ≤ _; unfold maxLen; omega
        have HX2 : Hid ((M.length + 1) * 64 ≤ 140737488355328) := by show _ ≤ _; omega
        have HX3 : Hid (w1.heap.size ≤ (wr.alloc (.cells #[.int .i64 d.v, .int .i64 d.k, .int .u32 d.s, .int .i64 0, .int .i64 d.c, .slice d.A d.n d.cp] 84)).heap.size) := by show _ ≤ _; rw [World.size_alloc]; have := HB.out.size; omega
        have HNW : Hid (∀ (q : Nat) (x : Value), [Value.int .i64 d.v, .int .i64 d.k, .int .u32 d.s, .int .i64 0, .int .i64 d.c, .slice d.A d.n d.cp][q]? = some x → (wr.alloc (.cells #[.int .i64 d.v, .int .i64 d.k, .int .u32 d.s, .int .i64 0, .int .i64 d.c, .slice d.A d.n d.cp] 84)).cell? ((⟨wr.heap.size, 0, none⟩ : Addr).add q) = some x) := fun q x hq => cells_newD 84 q x hq
        clear hd htk hM hs hx1 hx2
        go_wp2_with (at_builtin; refine wpList_append_own_at _ rfl (.tmp 23) (.tmp 29) 32 rfl w1.heap.size 84 i0 _ 6 64 Tryz.underlying32 hi hz0 hz1 hz2 rfl (by decide) _ _ _ rfl (HO.out.alloc _) ⟨wr.heap.size, 0, none⟩ 1 1 [Value.int .i64 d.v, .int .i64 d.k, .int .u32 d.s, .int .i64 0, .int .i64 d.c, .slice d.A d.n d.cp] rfl rfl HNW.out (by simp [Value.oneCell']) HX1.out HX2.out HX3.out ?_)
        intro u1 W1 hown hg _ _
        have HB2 := Lib.hid ((HB.out.alloc HB.out.size _).grown hg (by have := HX3.out; omega) (fun g hk => (HO.out.lt g hk).1))
        have HO2 : Hid (W1.ownsRow w1.heap.size 84 6 u1 ((L.take (j + 1)).filter fun d => d.s != z).length (flatD ((L.take (j + 1)).filter fun d => d.s != z))) := by
          show _
          rw [HM2.out, flatD_push, List.length_append, List.length_singleton]
          exact hown
        clear hown hg HX1 HX2 HX3 HNW HO HB d0 d1 a0 a1 a2 a3 a4 a5
        go_wp2
        go_roundw
        case rel => exact ⟨j + 1, by omega, by go_num, HO2, HB2⟩
        case measure => simp [intOf]; omega
    · obtain rfl : j = n := by omega
      have hjn' : ¬ (j : Int) < (j : Int) := by omega
      have ho := HO.out
      rw [List.take_of_length_le (by rw [HL.out]; omega)] at ho
      obtain ⟨Au, cu, rfl, hcu⟩ := own_slD ho
      obtain ⟨q, hq⟩ : ∃ q, (L.filter fun d => d.s != z).length = q := ⟨_, rfl⟩
      rw [hq] at ho hcu ⊢
      have f1 : ∀ q, wr.frozen? ⟨w.heap.size, q, none⟩ = false := fun q => by simp [World.frozen?, hx1]
      obtain ⟨W2, hW2⟩ : ∃ W2, wr.setCell ⟨w.heap.size, 1, none⟩ (.slice Au q cu) = W2 := ⟨_, rfl⟩
      have hh1 := setCell_at (j := 1) (u := .slice Au q cu) hx1
      simp only [List.setIfInBounds_toArray, List.set_cons_succ, List.set_cons_zero] at hh1
      have hh2 : (wr.setCell ⟨w.heap.size, 1, none⟩ (.slice Au q cu)).heap[w.heap.size + 1]? = some (.cells #[.int .i64 0, .slice none 0 0] 34 (0, 0)) := (Below.heap_setCell wr ⟨w.heap.size, 1, none⟩ _ _ (by simp only; omega)).trans hx2
      obtain ⟨p0, p1⟩ := doc_cells hh1
      have hh3 := setRow_heap _ (w.heap.size + 1) _ #[.int .i64 (r : Int), .slice Au q cu] _ _ hh2
      obtain ⟨g0, g1⟩ := doc_cells hh3
      have hof : Off (fun p => p = w.heap.size ∨ p = w.heap.size + 1) wr ((wr.setCell ⟨w.heap.size, 1, none⟩ (.slice Au q cu)).setRow (w.heap.size + 1) #[.int .i64 (r : Int), .slice Au q cu]) :=
        Off.setRow (S := fun p => p = w.heap.size ∨ p = w.heap.size + 1) ((Off.refl (fun p => p = w.heap.size ∨ p = w.heap.size + 1) wr).setCell (p := ⟨w.heap.size, 1, none⟩) (.inl rfl) _) (.inr rfl) _
      have hbw := HB1.out.trans (HB.out.mono HB1.out.size)
      have hs1 := HS1.out
      have hbF := hbw.trans (hof.below (fun q hq => by omega) hbw.size)
      have HFIN := Lib.hid (HGood.out _ _ hbF (by rw [hq]; exact tord_off ho hof (fun g hg => by have := (ho.lt g hg).1; omega)))
      clear HO ho hq hW2 hh1 hh3 hof hbw hbF hx1 hx2 hs1
      go_wp2_with (refine wpList_store_row rfl 34 (.tmp 4) (.tmp 33) rfl (w.heap.size + 1) #[.int .i64 (r : Int), .slice Au q cu] rfl rfl 34 _ hh2 stInfo rfl (by simp [Value.oneCell']) ?_)
      refine bodyPost_ret (by simp [results, Tryz.results14, go_sem, g0, g1]; try rfl) rfl ?_
      exact HFIN.out
end
end Go.Proofs.YtfdbcfkjablnkaaGreat

namespace Go.Proofs.YtfdbcfkjablnkaaGreat
open Go.RowKit
set_option maxRecDepth 100000

/-- blocks that are small boxes: no row of bytes, of frames, of slots -/
def Sml (w : World) (S : Nat → Prop) : Prop := ∀ g cs t fz, w.heap[g]? = some (.cells cs t fz) → S g → cs.size < 6 ∧ (∀ (j : Nat) (z : Int), cs[j]? ≠ some (.int .u8 z)) ∧ t ≠ 52
section
variable {w w' : World} {c : Int} {A : Option Addr} {n cp : Nat} {fs : List Fr} {S : Nat → Prop}
theorem nums_sml {B : Nat} {zs : List Int} {a : Option Addr} (h : Nums .u8 w B a zs) (ho : Off S w w') (hB : B = w.heap.size) (hS : Sml w S) : Nums .u8 w' w'.heap.size a zs := by
  subst hB
  refine (h.off ho fun hn g hg hs => ?_).mono ho.size
  obtain ⟨z, hz⟩ : ∃ z, zs[0]? = some z := ⟨_, List.getElem?_eq_getElem (List.length_pos_iff.2 hn)⟩
  obtain ⟨g', off, e, hlt, hc⟩ := h.open hz
  obtain ⟨_, _, e'⟩ := hg
  rw [e] at e'
  injection e' with e'
  injection e' with e'
  subst e'
  obtain ⟨o, ho'⟩ : ∃ o, w.heap[g']? = some o := ⟨_, Array.getElem?_eq_getElem hlt⟩
  cases o with
  | cells cs t fz =>
    simp only [World.cell?, ho'] at hc
    exact (hS g' cs t fz ho' hs).2.1 _ _ hc
  | _ => simp [World.cell?, ho'] at hc
theorem Fr.At.sml {f : Fr} (h : f.At w w.heap.size) (ho : Off S w w') (hS : Sml w S) : f.At w' w'.heap.size :=
  ⟨h.s0, h.s1, h.room, h.few, h.byte, nums_sml h.nums ho rfl hS⟩
theorem RefAt.sml (h : RefAt w c A n cp fs) (ho : Off S w w') (hS : Sml w S) : RefAt w' c A n cp fs := by
  have hr : ∀ g off cs, A = some ⟨g, off, none⟩ → w.heap[g]? = some (.cells cs 52 (0, 0)) → ¬ S g := fun g off cs _ hg hs => (hS g cs _ _ hg hs).2.2 rfl
  refine ⟨⟨fun f hf => (h.at'.1 f hf).sml ho hS, fun j f hf => ?_⟩, h.len, h.room, h.few, h.keys, h.most, h.small, fun g off e => ?_⟩
  · obtain ⟨b, off, e, hb, hc⟩ := h.at'.2 j f hf
    obtain ⟨cs, h1⟩ := h.row b off e
    exact ⟨b, off, e, Nat.lt_of_lt_of_le hb ho.size, fun q u hq => ho.cell (hc q u hq) (hr b off cs e h1)⟩
  · obtain ⟨cs, h1⟩ := h.row g off e
    exact ⟨cs, (ho.block g (Array.getElem?_eq_some_iff.1 h1).1 (hr g off cs e h1)).trans h1⟩
theorem Ds.At.sml {d : Ds} (h : d.At w) (ho : Off S w w') (hS : Sml w S) : d.At w' := ⟨h.ref.sml ho hS, h.num, h.good⟩
theorem DocAt.sml {L : List Ds} (h : DocAt w A n cp L) (ho : Off S w w') (hS : Sml w S) : DocAt w' A n cp L := by
  have key : ∀ (j : Nat) (d : Ds), L[j]? = some d → ∀ b off, A = some ⟨b, off, none⟩ → ¬ S b := by
    intro j d hj b off e hs
    obtain ⟨b2, off2, e2, hB, hc⟩ := h.cells j d hj
    obtain ⟨rfl, rfl⟩ : b = b2 ∧ off = off2 := by
      rw [e] at e2
      injection e2 with e2
      injection e2 with e3 e4
      exact ⟨e3, e4⟩
    obtain ⟨o, ho'⟩ : ∃ o, w.heap[b]? = some o := ⟨_, Array.getElem?_eq_getElem hB⟩
    have h5 := hc 5 _ rfl
    cases o with
    | cells cs t fz =>
      simp only [World.cell?, ho'] at h5
      have := (hS b cs t fz ho' hs).1
      have := (Array.getElem?_eq_some_iff.1 h5).1
      omega
    | _ => simp [World.cell?, ho'] at h5
  refine ⟨fun d hd => (h.at' d hd).sml ho hS, h.len, h.room, h.few, fun j d hj => ?_, fun j d hj b off e => ?_⟩
  · obtain ⟨b, off, e, hB, hc⟩ := h.cells j d hj
    exact ⟨b, off, e, Nat.lt_of_lt_of_le hB ho.size, fun q u hq => ho.cell (hc q u hq) (key j d hj b off e)⟩
  · obtain ⟨cs, h1⟩ := h.row j d hj b off e
    exact ⟨cs, (ho.block b (Array.getElem?_eq_some_iff.1 h1).1 (key j d hj b off e)).trans h1⟩
/-- slots from anywhere, appended to an empty literal -/
theorem append_docs {P : Program} {W : World} (t ty e : TypeId) (i : TypeInfo) (z : Value) (ht : P.underlying t = some (.slice e)) (hi : P.info? e = some i) (hz : i.zero = some z) (hsize : i.size = 6) (hby : i.bytes = 64) (hzs : z.cells.size = 6)
    (H g : Nat) (hH : H ≤ W.heap.size) (hown : W.ownsRow H e 6 (.slice (some ⟨g, 0, none⟩) 0 0) 0 []) {L : List Ds} (hat : DocAt W A n cp L) :
    ∃ v' W', (Builtin.append_ #[t, t] ty #[.slice (some ⟨g, 0, none⟩) 0 0, .slice A n cp]).run P W = .ok v' W' ∧ W'.ownsRow H e 6 v' n (flatD L) ∧ Below W.heap.size W W' := by
  have hn := hat.len
  have hn2 := hat.few
  by_cases h0 : n = 0
  · subst h0
    obtain rfl : L = [] := List.eq_nil_of_length_eq_zero hn
    refine ⟨_, _, run_append_nothing W t t ty e i ht hi (some ⟨g, 0, none⟩) 0 0 (Nat.le_refl _) _ ?_, hown, ⟨rfl, rfl, rfl, Nat.le_refl _, fun _ _ => rfl⟩⟩
    cases A with
    | none => exact ⟨.inl ⟨e, ht⟩, fun _ => rfl, run_firstCells_none W i.size 0 0 cp, run_firstCells_none W.drew i.size 0 0 cp, by simp, fun _ h => by cases h⟩
    | some ad => exact Src.ofSlice W ht ad 0 cp [] (by simp) (by simp) (fun _ h => by cases h)
  · obtain ⟨f0, hf0⟩ : ∃ f, L[0]? = some f := ⟨_, List.getElem?_eq_getElem (by omega)⟩
    obtain ⟨b, off, rfl, _, _⟩ := hat.cells 0 f0 hf0
    obtain ⟨v', W', hr, h1, h2⟩ := run_append_arg_grows (P := P) W t ty e i z 6 64 ht hi hz hsize hby hzs (by omega) ⟨g, 0, none⟩ 0 0 [] rfl (fun j u hj => by simp at hj) ⟨b, off, none⟩ n cp (flatD L) (by rw [flatD_len, hn]) (fun j u hj => by
      obtain ⟨j', q, f, rfl, hf, hu⟩ := flatD_get hj
      obtain ⟨b', off', e', _, hc⟩ := hat.cells j' f hf
      injection e' with e'
      injection e' with e1 e2
      subst e1 e2
      rw [Addr.add_lit, ← Nat.add_assoc]
      exact hc q u hu) (by omega) (by unfold maxLen; omega) (by omega)
    rw [Nat.zero_add, List.nil_append] at h1
    exact ⟨v', W', hr, ownsRow_lower h1 hH, ⟨h2.os, h2.tape, h2.output, h2.size, fun k hk => h2.block k hk (by simp)⟩⟩
/-- one of a row's slots is set -/
theorem docs_set {L : List Ds} {base g cap j : Nat} {d : Ds} (h : w.ownsRow base 84 6 (.slice (some ⟨g, 0, none⟩) n cap) n (flatD L)) (hl : L.length = n) (hj : j < n) (hat : ∀ x ∈ L.set j d, x.At (w.setCells g (j * 6) d.cs.toList)) (hf : n ≤ 1000) :
    w.there g (j * 6) d.cs.size ∧ DocAt (w.setCells g (j * 6) d.cs.toList) (some ⟨g, 0, none⟩) n cap (L.set j d) := by
  rcases h.2 with ⟨h0, _⟩ | ⟨g2, cap2, cur, hv, hg, hh, hn, hm, hs, hcur⟩
  · cases h0
  · injection hv with hv1 hv2 hv3
    injection hv1 with hv1
    injection hv1 with hv1
    subst hv1 hv3
    have h6 : d.cs.toList.length = 6 := rfl
    have hle : (j + 1) * 6 ≤ cap * 6 := Nat.mul_le_mul_right 6 (by omega)
    have hth : w.there g (j * 6) d.cs.size := fun q hq => by
      have hq6 : q < 6 := hq
      have hlt : j * 6 + q < cur.size := by rw [hs]; omega
      refine ⟨?_, by simp [World.frozen?, hh]⟩
      simp only [World.cell?, hh]
      rw [Array.getElem?_eq_getElem hlt]
      rfl
    obtain ⟨cs', k1, k2, k3⟩ := setCells_row d.cs.toList (j * 6) w g cur 84 hh (by rw [hs, h6]; omega)
    refine ⟨hth, hat, by rw [List.length_set]; exact hl, hn, hf, fun i x hi => ⟨g, 0, rfl, (Array.getElem?_eq_some_iff.1 k1).1, fun q u hq => ?_⟩, fun i x hi b off e => by
      injection e with e
      injection e with e
      subst e
      exact ⟨_, k1⟩⟩
    have hq6 : q < 6 := (Array.getElem?_eq_some_iff.1 hq).1
    have hcell : (w.setCells g (j * 6) d.cs.toList).cell? ⟨g, 0 + i * 6 + q, none⟩ = cs'[i * 6 + q]? := by
      simp [World.cell?, k1]
    rw [hcell]
    have k4 := k3 (i * 6 + q)
    rw [h6] at k4
    rw [List.getElem?_set] at hi
    by_cases hij : j = i
    · subst hij
      rw [if_pos rfl, if_pos (show j < L.length by omega)] at hi
      have hi := Option.some.inj hi
      rw [if_pos ⟨by omega, by omega⟩, show j * 6 + q - j * 6 = q by omega, Array.getElem?_toList, hi, hq] at k4
      exact k4
    · rw [if_neg hij] at hi
      rw [if_neg (show ¬ (j * 6 ≤ i * 6 + q ∧ i * 6 + q < j * 6 + 6) by omega)] at k4
      have h1 := h.cells (g := g) rfl (i * 6 + q) u (flatD_at hi hq)
      rw [Addr.add_lit, Nat.zero_add] at h1
      rw [k4]
      simpa [World.cell?, hh] using h1
end
end Go.Proofs.YtfdbcfkjablnkaaGreat

namespace Go.Proofs.YtfdbcfkjablnkaaGreat
open Go.RowKit
set_option maxRecDepth 100000

set_option maxHeartbeats 8000000 in
theorem rcheck_any (v k s i c : Int) (w : World) :
    Calls Tryz.prog 21 #[hdV v k s i c] w fun e w' => e = .returned (.int .i64 (chk v k i c)) ∧ Below w.heap.size w w' := by
  unfold hdV
  rcases chk_cases v k i c with ⟨h, h1⟩ | ⟨h, h1, h2, h3⟩ | ⟨h, h1, h2, h3, h4, h5⟩ | ⟨h, h1, h2, h3, h4, h5, h6, h7⟩ | ⟨h, h1, h2, h3, h4, h5, h6, h7, h8⟩
  · rw [h]
    have a1 : (v != 1) = true := by simp; omega
    have a2 : (v != 2) = true := by simp; omega
    clear h h1
    go_enter Tryz.func21, Tryz.ntmps21
    go_wp2
    go_ret
    exact ⟨rfl, (Below.refl _ w).alloc (Nat.le_refl _) _⟩
  · rw [h]
    obtain rfl | rfl : v = 1 ∨ v = 2 := by omega
    all_goals
      rcases h3 with h3 | h3
      all_goals
        go_enter Tryz.func21, Tryz.ntmps21
        go_wp2
        all_goals
          go_ret
          exact ⟨rfl, (Below.refl _ w).alloc (Nat.le_refl _) _⟩
  · rw [h]
    obtain rfl | rfl : v = 1 ∨ v = 2 := by omega
    all_goals
      rcases h5 with h5 | h5
      all_goals
        go_enter Tryz.func21, Tryz.ntmps21
        go_wp2
        all_goals
          go_ret
          exact ⟨rfl, (Below.refl _ w).alloc (Nat.le_refl _) _⟩
  · rw [h]
    obtain rfl | rfl : v = 1 ∨ v = 2 := by omega
    all_goals
      rcases h7 with h7 | h7
      all_goals
        go_enter Tryz.func21, Tryz.ntmps21
        go_wp2
        all_goals
          go_ret
          exact ⟨rfl, (Below.refl _ w).alloc (Nat.le_refl _) _⟩
  · rw [h]
    obtain rfl | rfl : v = 1 ∨ v = 2 := by omega
    all_goals
      go_enter Tryz.func21, Tryz.ntmps21
      go_wp2
      all_goals
        go_ret
        exact ⟨rfl, (Below.refl _ w).alloc (Nat.le_refl _) _⟩
end Go.Proofs.YtfdbcfkjablnkaaGreat

namespace Go.Proofs.YtfdbcfkjablnkaaGreat
open Go.RowKit
set_option maxRecDepth 100000

end Go.Proofs.YtfdbcfkjablnkaaGreat

namespace Go.Proofs.YtfdbcfkjablnkaaGreat
open Go.RowKit
set_option maxRecDepth 100000

set_option maxHeartbeats 2000000 in
theorem rbest_any (f : Bool) (B m c : Nat) (A : Option Addr) (zs : List Int) (w : World) (hm : zs.length = m) (hl : m ≤ 1000000) (hz : Sr.U zs) (hN : Nums .u32 w B A zs) :
    Calls Tryz.prog 41 #[.slice A m c, .bool f] w fun e w' => e = .returned (.tuple #[.int .u32 (Sr.bst f zs), .bool (decide (0 < m))]) ∧ w' = w := by
  have HM := Lib.hid hm
  clear hm
  have HZ := Lib.hid hz
  clear hz
  rcases Nat.eq_zero_or_pos m with h0 | h0
  · subst h0
    have hzn : zs = [] := List.eq_nil_of_length_eq_zero HM.out
    subst hzn
    go_enter Tryz.func41, Tryz.ntmps41
    go_wp2
    go_ret2
    exact ⟨rfl, rfl⟩
  · obtain ⟨z0, hg0⟩ : ∃ z, zs[0]? = some z := ⟨_, List.getElem?_eq_getElem (by rw [HM.out]; exact h0)⟩
    have hU0 := HZ.out z0 (List.mem_of_getElem? hg0)
    obtain ⟨b0, o0, rfl, hb0, hc0⟩ := hN.open hg0
    rw [Nat.add_zero] at hc0
    have HB : Hid (Sr.bst f zs = Sr.best f z0 (zs.drop 1)) := by
      show _ = _
      cases zs with
      | nil => simp at hg0
      | cons y ys => simp at hg0; subst hg0; rfl
    have HD : Hid (decide (0 < m) = true) := decide_eq_true h0
    clear hg0
    have h0' : (0 : Int) < (m : Int) := by omega
    have h0'' : ((m : Int) == 0) = false := by rw [beq_eq_false_iff_ne]; omega
    go_enter Tryz.func41, Tryz.ntmps41
    go_wp2
    clear hc0
    go_loopw [6, 7] (fun u v wr => ∃ (k : Nat) (x : Int), 1 ≤ k ∧ k ≤ m ∧ (0 ≤ x ∧ x < 4294967296) ∧ u = .int .u32 x ∧ v = .int .i64 (k : Int) ∧ Hid (Sr.bst f zs = Sr.best f x (zs.drop k)) ∧ wr = w) (fun _ v _ => m - (intOf v).toNat)
    case atStart => exact ⟨1, z0, by omega, by omega, hU0, rfl, rfl, HB, rfl⟩
    case round =>
      obtain ⟨k, x, hk1, hkm, hx, rfl, rfl, HP, rfl⟩ := hrel
      clear hU0 HB
      rcases Nat.lt_or_ge k m with h4 | h4
      · obtain ⟨z, hg⟩ : ∃ z, zs[k]? = some z := ⟨_, List.getElem?_eq_getElem (by rw [HM.out]; exact h4)⟩
        have hzU : 0 ≤ z ∧ z < 4294967296 := HZ.out z (List.mem_of_getElem? hg)
        obtain ⟨b1, o1, he, hb1, hc1⟩ := hN.open hg
        injection he with he
        injection he with he1 he2
        subst he1 he2
        have h4' : (k : Int) < (m : Int) := by omega
        have hst := Sr.best_step f x hg
        clear hg
        cases f with
        | true =>
          have K := rafter_any z x wr hzU hx
          rw [show Sr.st true z x = Sr.after z x from rfl] at hst
          generalize Sr.after z x = r at *
          cases r with
          | true =>
            have HQ : Hid (Sr.bst true zs = Sr.best true z (zs.drop (k + 1))) := HP.out.trans hst
            clear hst
            go_wp2_with fail
            refine K.mono ?_
            rintro e w1 ⟨rfl, rfl⟩
            go_wp2
            go_roundw
            case rel => exact ⟨k + 1, z, by omega, by omega, hzU, rfl, by go_num, HQ, trivial⟩
            case measure => simp [intOf]; omega
          | false =>
            have HQ : Hid (Sr.bst true zs = Sr.best true x (zs.drop (k + 1))) := HP.out.trans hst
            clear hst
            go_wp2_with fail
            refine K.mono ?_
            rintro e w1 ⟨rfl, rfl⟩
            go_wp2
            go_roundw
            case rel => exact ⟨k + 1, x, by omega, by omega, hx, rfl, by go_num, HQ, trivial⟩
            case measure => simp [intOf]; omega
        | false =>
          have K := rafter_any x z wr hx hzU
          rw [show Sr.st false z x = Sr.after x z from rfl] at hst
          generalize Sr.after x z = r at *
          cases r with
          | true =>
            have HQ : Hid (Sr.bst false zs = Sr.best false z (zs.drop (k + 1))) := HP.out.trans hst
            clear hst
            go_wp2_with fail
            refine K.mono ?_
            rintro e w1 ⟨rfl, rfl⟩
            go_wp2
            go_roundw
            case rel => exact ⟨k + 1, z, by omega, by omega, hzU, rfl, by go_num, HQ, trivial⟩
            case measure => simp [intOf]; omega
          | false =>
            have HQ : Hid (Sr.bst false zs = Sr.best false x (zs.drop (k + 1))) := HP.out.trans hst
            clear hst
            go_wp2_with fail
            refine K.mono ?_
            rintro e w1 ⟨rfl, rfl⟩
            go_wp2
            go_roundw
            case rel => exact ⟨k + 1, x, by omega, by omega, hx, rfl, by go_num, HQ, trivial⟩
            case measure => simp [intOf]; omega
      · have hkm' : k = m := by omega
        have HQ : Hid (Sr.bst f zs = x) := by
          have := HP.out
          rwa [List.drop_eq_nil_of_le (by rw [HM.out]; exact h4)] at this
        subst hkm'
        go_wp2
        go_ret2
        exact ⟨by rw [HQ.out, HD.out]; rfl, rfl⟩
end Go.Proofs.YtfdbcfkjablnkaaGreat

namespace Go.Proofs.YtfdbcfkjablnkaaGreat
open Go.RowKit
section
variable {P : Program} {fs : List Tmp} {FS : Tmp → Value → World → Prop} {I : World → Prop}
/-- the walk in the text's order: operations ahead of the store (true: it may come behind it), the store, the rest -/
def wpFL (P : Program) (ops : Array Oper) (I : World → Prop) (fs : List Tmp) (FS : Tmp → Value → World → Prop) (St : (Tmp → Value) → World → World → Prop) (E : Act → Prop) : List Bool → List Oper → Act → Prop
  | _, [], a => E a
  | [], o :: r, a => StOb P ops I fs FS St o a ∧ wpFS P ops I fs FS St E none r a
  | false :: m, o :: r, a => ∃ v, Ob P ops I fs FS o v a ∧ wpFL P ops I fs FS St E m r (a.put o.dst v)
  | true :: m, o :: r, a => ∃ v, PureOb P ops fs o v a ∧ wpFL P ops I fs FS St E m r (a.put o.dst v)
theorem wpFL_vals {ops : Array Oper} {St : (Tmp → Value) → World → World → Prop} {E : Act → Prop} : ∀ (ms : List Bool) (l : List Oper) (a : Act), wpFL P ops I fs FS St E ms l a → ∃ vs : List Value, vs.length = l.length ∧
    (∀ (j : Nat) o v, l[j]? = some o → vs[j]? = some v → (j < ms.length → Ob P ops I fs FS o v (lex l vs a j)) ∧ (j = ms.length → StOb P ops I fs FS St o (lex l vs a j)) ∧ (ms.length < j ∨ ms.getD j false = true → PureOb P ops fs o v (lex l vs a j))) ∧ E (lex l vs a l.length)
  | _, [], a, h => ⟨[], rfl, by simp, by cases ‹List Bool› with | nil => exact h | cons b m => cases b <;> exact h⟩
  | [], o :: r, a, ⟨hob, hr⟩ => by
    obtain ⟨vs, h1, h2, h3⟩ := wpFS_vals0 r _ hr
    have hput : a.put o.dst undef = a := by rw [hob.1]; rfl
    refine ⟨undef :: vs, by simp [h1], fun j o' v' ho hv => ?_, ?_⟩
    · cases j with
      | zero =>
        simp only [List.getElem?_cons_zero, Option.some.injEq] at ho hv
        subst ho hv
        exact ⟨fun h => absurd h (Nat.not_lt_zero _), fun _ => hob, fun h => h.elim (fun h => absurd h (Nat.not_lt_zero _)) (fun h => by simp at h)⟩
      | succ j =>
        simp only [List.getElem?_cons_succ] at ho hv
        refine ⟨fun h => absurd h (Nat.not_lt_zero _), fun h => absurd h (Nat.succ_ne_zero j), fun _ => ?_⟩
        show PureOb P ops fs o' v' (lex r vs (a.put o.dst undef) j)
        rw [hput]
        exact h2 j o' v' ho hv
    · show E (lex r vs (a.put o.dst undef) r.length)
      rw [hput]
      exact h3
  | false :: m, o :: r, a, ⟨v, hob, hr⟩ => by
    obtain ⟨vs, h1, h2, h3⟩ := wpFL_vals m r _ hr
    refine ⟨v :: vs, by simp [h1], fun j o' v' ho hv => ?_, h3⟩
    cases j with
    | zero =>
      simp only [List.getElem?_cons_zero, Option.some.injEq] at ho hv
      subst ho hv
      exact ⟨fun _ => hob, fun h => by simp at h, fun h => by simp at h⟩
    | succ j =>
      simp only [List.getElem?_cons_succ] at ho hv
      obtain ⟨q1, q2, q3⟩ := h2 j o' v' ho hv
      exact ⟨fun h => q1 (by simp at h; omega), fun h => q2 (by simp at h; omega), fun h => q3 (by simp at h; exact h.imp (fun h => by omega) (fun h => by simpa using h))⟩
  | true :: m, o :: r, a, ⟨v, hob, hr⟩ => by
    obtain ⟨vs, h1, h2, h3⟩ := wpFL_vals m r _ hr
    refine ⟨v :: vs, by simp [h1], fun j o' v' ho hv => ?_, h3⟩
    cases j with
    | zero =>
      simp only [List.getElem?_cons_zero, Option.some.injEq] at ho hv
      subst ho hv
      exact ⟨fun _ => hob.ob, fun h => by simp at h, fun _ => hob⟩
    | succ j =>
      simp only [List.getElem?_cons_succ] at ho hv
      obtain ⟨q1, q2, q3⟩ := h2 j o' v' ho hv
      exact ⟨fun h => q1 (by simp at h; omega), fun h => q2 (by simp at h; omega), fun h => q3 (by simp at h; exact h.imp (fun h => by omega) (fun h => by simpa using h))⟩
/-- ONE WALK IN THE TEXT's ORDER SERVES EVERY ORDER, the store behind as many as ms has -/
theorem wp_region_FL {id : Nat} {Q : Exit → Act → World → Prop} {a : Act} {w : World} {l : List Oper} (N f : Nat) (ms : List Bool) (fs : List Tmp) (FS : Tmp → Value → World → Prop) (I : World → Prop) (St : (Tmp → Value) → World → World → Prop) (hm : P.follows .mixedOrders = true) (hB : rgB .any l.toArray N = true)
    (hk : decide (ms.length < l.length) = true) (hreach : ((List.range ms.length).all fun j => ms.getD j false || reachB .any l.toArray f ms.length j) = true) (hfs : (fs.all fun s => (List.range ms.length).any fun j => !ms.getD j false && ((l[j]?).bind (·.dst) == some s)) = true) (hN : N ≤ a.tmps.size) (hI : Closed I) (hF : ∀ s x w w', FS s x w → Below w.heap.size w w' → FS s x w') (hC : I w.drew)
    (h : wpFL P l.toArray I fs FS St (fun a' => ∀ xs W w', I W → (∀ s ∈ fs, FS s (xs s) W) → St xs W w' → Q .normal (fill fs xs a') w') ms l a) : (Code.region id l.toArray true).wp P Q a w := by
  have hR := rgB_spec hB
  have hk' : ms.length < l.length := by simpa using hk
  obtain ⟨vs, hlen, hob, hE⟩ := wpFL_vals ms l a h
  have hfs' : ∀ s ∈ fs, ∃ (j : Nat) (o : Oper), j < ms.length ∧ ms.getD j false = false ∧ l[j]? = some o ∧ o.dst = some s := fun s hs => by
    rw [List.all_eq_true] at hfs
    have h1 := hfs s hs
    rw [List.any_eq_true] at h1
    obtain ⟨j, hj, hd⟩ := h1
    rw [List.mem_range] at hj
    rw [Bool.and_eq_true] at hd
    obtain ⟨o, ho⟩ : ∃ o, l[j]? = some o := ⟨_, List.getElem?_eq_getElem (by omega)⟩
    rw [ho] at hd
    exact ⟨j, o, hj, by simpa using hd.1, ho, by simpa using hd.2⟩
  exact region_of_FS (late := fun j => ms.getD j false) hm hR hk' (fun j hj hl => by
    rw [List.all_eq_true] at hreach
    have h1 := hreach j (List.mem_range.2 hj)
    rw [hl, Bool.false_or] at h1
    exact h1) hfs' hN hI hF hC hlen hob hE
/-! ### its steps -/
variable {l : List Oper} {St : (Tmp → Value) → World → World → Prop} {E : Act → Prop} {o : Oper} {rest : List Oper} {a : Act} {ms : List Bool}
theorem wpFL_step (h : wpF P l.toArray I fs FS (fun a' => wpFL P l.toArray I fs FS St E ms rest a') [o] a) : wpFL P l.toArray I fs FS St E (false :: ms) (o :: rest) a := by
  obtain ⟨v, hob, hr⟩ := h
  exact ⟨v, hob, hr⟩
/-- one that may come behind the store -/
theorem wpFL_late (h : wpFS P l.toArray I fs FS St (fun a' => wpFL P l.toArray I fs FS St E ms rest a') none [o] a) : wpFL P l.toArray I fs FS St E (true :: ms) (o :: rest) a := by
  obtain ⟨v, hob, hr⟩ := h
  exact ⟨v, hob, hr⟩
theorem wpFL_store (h : wpFS P l.toArray I fs FS St E (some 0) (o :: rest) a) : wpFL P l.toArray I fs FS St E [] (o :: rest) a := h
end
end Go.Proofs.YtfdbcfkjablnkaaGreat
