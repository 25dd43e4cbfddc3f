/-
  A part of the texts of one proof, put together: JdC, Q18, JdN, TabU.
-/
import Derived.Test.YtfdbcfkjablnkaaGreatMPPlaysProof5
namespace Go.Proofs.YtfdbcfkjablnkaaGreat
open Go.RowKit
set_option maxRecDepth 100000

/-- a window's cells, then a table's -/
def jCw (Cw : Array Value) (r : Nat) (A : Option Addr) (n cp : Nat) : Array Value := (Cw.toList ++ [Value.int .i64 (r : Int), Value.slice A n cp]).toArray
def jC (t : Int) (q : Nat) (r : Nat) (A : Option Addr) (n cp : Nat) : Array Value := jCw (wC t q.testBit) r A n cp
section
variable {Cw Cw' : Array Value} {r r' : Nat} {A A' : Option Addr} {n cp n' cp' : Nat} {t : Int} {q : Nat}
theorem jCw_size (h : Cw.size = 65) : (jCw Cw r A n cp).size = 67 := by simp [jCw, h]
theorem jCw_one (h : Cw.all (·.oneCell') = true) : (jCw Cw r A n cp).all (·.oneCell') = true := by
  rw [Array.all_eq_true_iff_forall_mem] at h ⊢
  intro v hv
  have hv : v ∈ Cw.toList ++ [Value.int .i64 (r : Int), Value.slice A n cp] := by simpa [jCw] using hv
  rcases List.mem_append.1 hv with h1 | h1
  · exact h v (by simpa using h1)
  · simp at h1
    rcases h1 with rfl | rfl <;> rfl
theorem jC_size : (jC t q r A n cp).size = 67 := jCw_size (wC_size _ _)
theorem jC_one : (jC t q r A n cp).all (·.oneCell') = true := jCw_one (wC_one _ _)
theorem jCw_w (i : Nat) (v : Value) (hv : Cw.toList[i]? = some v) : (jCw Cw r A n cp)[i]? = some v := by
  have hi : i < Cw.toList.length := (List.getElem?_eq_some_iff.1 hv).1
  unfold jCw
  rw [List.getElem?_toArray, List.getElem?_append_left hi]
  exact hv
theorem jCw_r (h : Cw.size = 65) : (jCw Cw r A n cp)[65]? = some (.int .i64 (r : Int)) := by
  unfold jCw
  rw [List.getElem?_toArray, List.getElem?_append_right (by rw [Array.length_toList]; omega), Array.length_toList, h]
  rfl
theorem jCw_l (h : Cw.size = 65) : (jCw Cw r A n cp)[66]? = some (.slice A n cp) := by
  unfold jCw
  rw [List.getElem?_toArray, List.getElem?_append_right (by rw [Array.length_toList]; omega), Array.length_toList, h]
  rfl
theorem jCw_putW (h : Cw.size = 65) (h' : Cw'.size = 65) : ((jCw Cw r A n cp).toList.take 0 ++ Cw'.toList ++ (jCw Cw r A n cp).toList.drop (0 + Cw'.size)).toArray = jCw Cw' r A n cp := by
  unfold jCw
  rw [List.take_zero, List.nil_append, Nat.zero_add, h', List.drop_left' (by rw [Array.length_toList, h])]
theorem jCw_putT (h : Cw.size = 65) : ((jCw Cw r A n cp).toList.take 65 ++ (#[Value.int .i64 (r' : Int), .slice A' n' cp'] : Array Value).toList ++ (jCw Cw r A n cp).toList.drop (65 + (#[Value.int .i64 (r' : Int), .slice A' n' cp'] : Array Value).size)).toArray = jCw Cw r' A' n' cp' := by
  unfold jCw
  rw [List.take_left' (by rw [Array.length_toList, h]), List.drop_eq_nil_of_le (by simp [h]), List.append_nil]
end
theorem jdInfo : (Tryz.prog.info? 36).map (·.size) = some 67 := by kernel_rfl
theorem jdZero : (Tryz.prog.info? 36).map (fun i => (i.zero, i.size)) = some (some (.agg (jCw (wC 0 (fun _ => false)) 0 none 0 0)), 67) := by kernel_rfl
theorem jd_fields : ∃ fs, Tryz.prog.underlying 36 = some (.struct fs) ∧ ∀ W, (fs.mapM fun f => do pure (f.offset, ← sizeOf f.type) : Sem (Array (Nat × Nat))).run Tryz.prog W = .ok #[(0, 65), (65, 2)] W := ⟨_, Tryz.underlying36, fun W => by kernel_rfl⟩
/-- a joiner of the document's is built out of its window and its table -/
theorem jd_build {Cw : Array Value} (hs : Cw.size = 65) (r : Nat) (A : Option Addr) (n cp : Nat) (W : World) : (Instr.build 36 #[(0, .agg Cw), (1, docV r A n cp)]).run Tryz.prog W = .ok (.agg (jCw Cw r A n cp)) W := by
  obtain ⟨hz, _⟩ := zero_of_info (P := Tryz.prog) jdZero
  obtain ⟨fs, hu, hf⟩ := jd_fields
  have hz0 : (jCw (wC 0 (fun _ => false)) 0 none 0 0).size = 67 := jCw_size (wC_size _ _)
  have hz1 := jCw_putW (r := 0) (A := none) (n := 0) (cp := 0) (wC_size 0 (fun _ => false)) hs
  have hz2 := jCw_putT (r := 0) (A := none) (n := 0) (cp := 0) (r' := r) (A' := A) (n' := n) (cp' := cp) hs
  have hs2 : (jCw Cw 0 none 0 0).size = 67 := jCw_size hs
  generalize jCw (wC 0 (fun _ => false)) 0 none 0 0 = Z at *
  have hfill : Instr.fill (fun x => (#[(0, 65), (65, 2)] : Array (Nat × Nat))[x]?) Z [(0, .agg Cw), (1, docV r A n cp)] = some (jCw Cw r A n cp) := by
    unfold docV
    rw [fill_cons (v := .agg Cw) (off := 0) (size := 65) rfl hs (by show 0 + Cw.size ≤ _; omega) hz1, fill_cons (v := .agg #[.int .i64 (r : Int), .slice A n cp]) (off := 65) (size := 2) rfl rfl (by rw [hs2]; exact Nat.le_refl _) hz2]
    rfl
  unfold Instr.build
  simp only [Sem.run_bind, hz, Result.andThen_ok, run_underlying hu, Value.cells]
  simp only [hf, Result.andThen_ok]
  rw [hfill]
  rfl
/-- block b is a joiner of the document's -/
def JdAt (W : World) (b : Nat) (Cw : Array Value) (r : Nat) (A : Option Addr) (n cp : Nat) : Prop := W.heap[b]? = some (.cells (jCw Cw r A n cp) 36 (0, 0))
section
variable {W W' : World} {b : Nat} {Cw Cw' : Array Value} {r r' : Nat} {A A' : Option Addr} {n cp n' cp' : Nat}
theorem JdAt.lt (h : JdAt W b Cw r A n cp) : b < W.heap.size := (Array.getElem?_eq_some_iff.1 h).1
theorem JdAt.below (h : JdAt W b Cw r A n cp) (hb : Below W.heap.size W W') : JdAt W' b Cw r A n cp := row_keep h hb
theorem JdAt.cell (h : JdAt W b Cw r A n cp) (i : Nat) : W.cell? ⟨b, i, none⟩ = (jCw Cw r A n cp)[i]? := by
  have : W.heap[b]? = _ := h
  simp [World.cell?, this]
theorem JdAt.frozen (h : JdAt W b Cw r A n cp) (i : Nat) : W.frozen? ⟨b, i, none⟩ = false := by
  have : W.heap[b]? = _ := h
  simp [World.frozen?, this]
/-- its window is loaded -/
theorem JdAt.loadW (h : JdAt W b Cw r A n cp) (hs : Cw.size = 65) : (Instr.loadAt 31 (.pointer (some ⟨b, 0, none⟩))).run Tryz.prog W = .ok (.agg Cw) W := by
  have := run_loadAt_mid (P := Tryz.prog) W b 0 31 Cw.toList _ (fun i v hv => by rw [Nat.zero_add, h.cell i]; exact jCw_w i v hv) Tryz.underlying31 rfl (by rw [Array.length_toList, hs]; exact wInfo)
  rwa [Array.toArray_toList] at this
/-- its table is loaded -/
theorem JdAt.loadT (h : JdAt W b Cw r A n cp) (hs : Cw.size = 65) : (Instr.loadAt 34 (.pointer (some ⟨b, 65, none⟩))).run Tryz.prog W = .ok (docV r A n cp) W := by
  have h1 := h.cell 65
  have h2 := h.cell 66
  rw [jCw_r hs] at h1
  rw [jCw_l hs] at h2
  unfold docV
  simp [Instr.loadAt, go_sem, h1, h2]
theorem JdAt.cells (h : JdAt W b Cw r A n cp) (hs : Cw.size = 65) : W.cell? ⟨b, 65, none⟩ = some (.int .i64 (r : Int)) ∧ W.cell? ⟨b, 66, none⟩ = some (.slice A n cp) := ⟨(h.cell 65).trans (jCw_r hs), (h.cell 66).trans (jCw_l hs)⟩
theorem JdAt.loadL (h : JdAt W b Cw r A n cp) (hs : Cw.size = 65) : (Instr.loadAt 32 (.pointer (some ⟨b, 66, none⟩))).run Tryz.prog W = .ok (.slice A n cp) W := by
  obtain ⟨_, h2⟩ := h.cells hs
  simp [Instr.loadAt, go_sem, h2]
/-- the whole is loaded -/
theorem JdAt.load (h : JdAt W b Cw r A n cp) (hs : Cw.size = 65) : (Instr.loadAt 36 (.pointer (some ⟨b, 0, none⟩))).run Tryz.prog W = .ok (.agg (jCw Cw r A n cp)) W := by
  have := run_loadAt_mid (P := Tryz.prog) W b 0 36 (jCw Cw r A n cp).toList _ (fun i v hv => by rw [Nat.zero_add, h.cell i]; simpa using hv) Tryz.underlying36 rfl (by rw [Array.length_toList, jCw_size hs]; exact jdInfo)
  rwa [Array.toArray_toList] at this
/-- its window is stored -/
theorem JdAt.storeW (h : JdAt W b Cw r A n cp) (hs : Cw.size = 65) (hs' : Cw'.size = 65) (h1 : Cw'.all (·.oneCell') = true) : (Instr.storeAt 31 (.pointer (some ⟨b, 0, none⟩)) (.agg Cw')).run Tryz.prog W = .ok () (W.setRow b (jCw Cw' r A n cp)) := by
  have := run_store_part (P := Tryz.prog) W b 0 31 36 _ Cw' h (by rw [jCw_size hs, hs']; omega) (by rw [hs']; exact wInfo) h1
  rwa [jCw_putW hs hs'] at this
/-- its table is stored -/
theorem JdAt.storeT (h : JdAt W b Cw r A n cp) (hs : Cw.size = 65) : (Instr.storeAt 34 (.pointer (some ⟨b, 65, none⟩)) (docV r' A' n' cp')).run Tryz.prog W = .ok () (W.setRow b (jCw Cw r' A' n' cp')) := by
  have := run_store_part (P := Tryz.prog) W b 65 34 36 _ #[Value.int .i64 (r' : Int), .slice A' n' cp'] h (by rw [jCw_size hs]; simp) stInfo (by simp [Value.oneCell'])
  rwa [jCw_putT hs] at this
/-- the whole is stored -/
theorem jd_store {old cs : Array Value} (h : W.heap[b]? = some (.cells old 36 (0, 0))) (ho : old.size = 67) (hc : cs.size = 67) (h1 : cs.all (·.oneCell') = true) :
    (Instr.storeAt 36 (.pointer (some ⟨b, 0, none⟩)) (.agg cs)).run Tryz.prog W = .ok () (W.setRow b cs) := by
  simp only [Instr.storeAt, Instr.sureAddr, Sem.run_bind, Sem.run_pure, Result.andThen]
  exact run_storeVar_row W b 36 36 old cs h (by rw [hc]; exact jdInfo) (by omega) h1
theorem jd_set {old : Array Value} (h : W.heap[b]? = some (.cells old 36 (0, 0))) : JdAt (W.setRow b (jCw Cw r A n cp)) b Cw r A n cp := setRow_heap _ _ _ _ _ _ h
end
/-- blocks that hold no byte, and no slots or frames of the document's -/
def Smj (w : World) (S : Nat → Prop) : Prop := ∀ g cs t fz, w.heap[g]? = some (.cells cs t fz) → S g → (∀ (j : Nat) (z : Int), cs[j]? ≠ some (.int .u8 z)) ∧ t ≠ 52 ∧ t ≠ 84
section
variable {w w' : World} {c : Int} {A : Option Addr} {n cp : Nat} {fs : List Fr} {S : Nat → Prop}
theorem nums_smj {B : Nat} {zs : List Int} {a : Option Addr} (h : Nums .u8 w B a zs) (ho : Off S w w') (hB : B = w.heap.size) (hS : Smj w S) : Nums .u8 w' w'.heap.size a zs := by
  subst hB
  refine (h.off ho fun hn g hg hs => ?_).mono ho.size
  obtain ⟨z, hz⟩ : ∃ z, zs[0]? = some z := ⟨_, List.getElem?_eq_getElem (List.length_pos_iff.2 hn)⟩
  obtain ⟨g', off, e, hlt, hc⟩ := h.open hz
  obtain ⟨_, _, e'⟩ := hg
  rw [e] at e'
  injection e' with e'
  injection e' with e'
  subst e'
  obtain ⟨o, ho'⟩ : ∃ o, w.heap[g']? = some o := ⟨_, Array.getElem?_eq_getElem hlt⟩
  cases o with
  | cells cs t fz =>
    simp only [World.cell?, ho'] at hc
    exact (hS g' cs t fz ho' hs).1 _ _ hc
  | _ => simp [World.cell?, ho'] at hc
theorem Fr.At.smj {f : Fr} (h : f.At w w.heap.size) (ho : Off S w w') (hS : Smj w S) : f.At w' w'.heap.size :=
  ⟨h.s0, h.s1, h.room, h.few, h.byte, nums_smj h.nums ho rfl hS⟩
theorem RefAt.smj (h : RefAt w c A n cp fs) (ho : Off S w w') (hS : Smj w S) : RefAt w' c A n cp fs := by
  have hr : ∀ g off cs, A = some ⟨g, off, none⟩ → w.heap[g]? = some (.cells cs 52 (0, 0)) → ¬ S g := fun g off cs _ hg hs => (hS g cs _ _ hg hs).2.1 rfl
  refine ⟨⟨fun f hf => (h.at'.1 f hf).smj ho hS, fun j f hf => ?_⟩, h.len, h.room, h.few, h.keys, h.most, h.small, fun g off e => ?_⟩
  · obtain ⟨b, off, e, hb, hc⟩ := h.at'.2 j f hf
    obtain ⟨cs, h1⟩ := h.row b off e
    exact ⟨b, off, e, Nat.lt_of_lt_of_le hb ho.size, fun q u hq => ho.cell (hc q u hq) (hr b off cs e h1)⟩
  · obtain ⟨cs, h1⟩ := h.row g off e
    exact ⟨cs, (ho.block g (Array.getElem?_eq_some_iff.1 h1).1 (hr g off cs e h1)).trans h1⟩
theorem Ds.At.smj {d : Ds} (h : d.At w) (ho : Off S w w') (hS : Smj w S) : d.At w' := ⟨h.ref.smj ho hS, h.num, h.good⟩
theorem DocAt.smj {L : List Ds} (h : DocAt w A n cp L) (ho : Off S w w') (hS : Smj w S) : DocAt w' A n cp L := by
  have key : ∀ (j : Nat) (d : Ds), L[j]? = some d → ∀ b off, A = some ⟨b, off, none⟩ → ¬ S b := fun j d hj b off e hs => by
    obtain ⟨cs, h1⟩ := h.row j d hj b off e
    exact (hS b cs _ _ h1 hs).2.2 rfl
  refine ⟨fun d hd => (h.at' d hd).smj ho hS, h.len, h.room, h.few, fun j d hj => ?_, fun j d hj b off e => ?_⟩
  · obtain ⟨b, off, e, hB, hc⟩ := h.cells j d hj
    exact ⟨b, off, e, Nat.lt_of_lt_of_le hB ho.size, fun q u hq => ho.cell (hc q u hq) (key j d hj b off e)⟩
  · obtain ⟨cs, h1⟩ := h.row j d hj b off e
    exact ⟨cs, (ho.block b (Array.getElem?_eq_some_iff.1 h1).1 (key j d hj b off e)).trans h1⟩
theorem Smj.or {S2 : Nat → Prop} (h : Smj w S) (k : Smj w S2) : Smj w (fun q => S q ∨ S2 q) := fun g cs t fz hg hs => hs.elim (h g cs t fz hg) (k g cs t fz hg)
end
theorem wC_u8 {t : Int} {p : Nat → Bool} {j : Nat} {z : Int} : (wC t p)[j]? ≠ some (.int .u8 z) := fun h => by
  rcases Nat.lt_or_ge j 65 with hj | hj
  · cases j with
    | zero => rw [wC_top] at h; cases h
    | succ i => rw [Nat.add_comm, wC_at t p i (by omega)] at h; cases h
  · rw [Array.getElem?_eq_none (by rw [wC_size]; omega)] at h; cases h
theorem jC_u8 {t : Int} {p : Nat → Bool} {r : Nat} {A : Option Addr} {n cp j : Nat} {z : Int} : (jCw (wC t p) r A n cp)[j]? ≠ some (.int .u8 z) := fun h => by
  unfold jCw at h
  rw [List.getElem?_toArray] at h
  rcases Nat.lt_or_ge j 65 with hj | hj
  · rw [List.getElem?_append_left (by rw [Array.length_toList, wC_size]; exact hj), Array.getElem?_toList] at h
    exact wC_u8 h
  · rw [List.getElem?_append_right (by rw [Array.length_toList, wC_size]; exact hj), Array.length_toList, wC_size] at h
    have : j - 65 = 0 ∨ j - 65 = 1 ∨ 2 ≤ j - 65 := by omega
    rcases this with e | e | e
    · rw [e] at h; simp at h
    · rw [e] at h; simp at h
    · rw [List.getElem?_eq_none (by simpa using e)] at h; cases h
/-- one row of the document's joiner's -/
theorem smj_row {w : World} {b : Nat} {C : Array Value} (h : w.heap[b]? = some (.cells C 36 (0, 0))) (hu : ∀ (j : Nat) (z : Int), C[j]? ≠ some (.int .u8 z)) : Smj w (fun q => q = b) := by
  rintro g cs t' fz hg rfl
  rw [h] at hg
  injection hg with hg
  injection hg with e1 e2 e3
  subst e1 e2
  exact ⟨hu, by decide, by decide⟩
end Go.Proofs.YtfdbcfkjablnkaaGreat

namespace Go.Proofs.YtfdbcfkjablnkaaGreat
open Go.RowKit
/-- nothing but the way through -/
def Qn (Q : Exit → Act → World → Prop) : Exit → Act → World → Prop := fun e a w => e = .normal ∧ Q .normal a w
theorem upon_imp {P : Program} {o : Oper} {a : Act} {K K' : Act → World → Prop} {Q Q' : Exit → Act → World → Prop} (hK : ∀ a w, K a w → K' a w) (hQ : ∀ e a w, Q e a w → Q' e a w) {r : Result Next} (h : o.upon P a K Q r) : o.upon P a K' Q' r := by
  cases r with
  | ok n w' =>
    cases n <;> simp only [Oper.upon] at h ⊢
    case value u => exact hK _ _ h
    case skip => exact hK _ _ h
    case defer d => exact hK _ _ h
    case enter f args =>
      refine Calls.mono h fun e w'' he => ?_
      cases e with
      | returned u => exact hK _ _ he
      | panicked c => exact hQ _ _ _ he
      | outgrown => obtain ⟨a, w, h⟩ := he; exact ⟨a, w, hQ _ _ _ h⟩
    case row row args => exact Rows.mono h fun u w'' he => hK _ _ he
  | halt x w' =>
    cases x <;> simp only [Oper.upon] at h ⊢
    case panic u => exact hQ _ _ _ h
theorem wpAny_imp {P : Program} {md : Region.Mode} {ops : Array Oper} {Q Q' : Exit → Act → World → Prop} (hQ : ∀ e a w, Q e a w → Q' e a w) : ∀ (fuel : Nat) (listed : Array Bool) (a : Act) (w : World), wpAny P md ops Q fuel listed a w → wpAny P md ops Q' fuel listed a w
  | 0, _, _, _, h => ⟨h.1, hQ _ _ _ h.2⟩
  | fuel + 1, listed, a, w, h => ⟨fun h0 => hQ _ _ _ (h.1 h0), fun i hi => by
      have h1 := h.2 i hi
      unfold Go.wpOp at *
      cases ho : ops[i]? with
      | none => rw [ho] at h1; exact wpAny_imp hQ fuel _ _ _ h1
      | some o =>
        rw [ho] at h1
        simp only at h1 ⊢
        split
        · rename_i hw
          rw [if_pos hw] at h1
          rcases h1 with h1 | ⟨h1, a', w', h2⟩
          · exact .inl (upon_imp (fun a w h => wpAny_imp hQ fuel _ _ _ h) hQ h1)
          · exact .inr ⟨h1, a', w', hQ _ _ _ h2⟩
        · rename_i hw
          rw [if_neg hw] at h1
          exact wpAny_imp hQ fuel _ _ _ h1⟩
/-- a move, or an extract, that nothing guards -/
def lateB (o : Oper) : Bool := (match o.op with | .move _ => true | .extract _ _ => true | _ => false) && o.guard.isNone
theorem late_run {o : Oper} (hl : lateB o = true) (ρ : Operand → Value) (P : Program) : (∃ v, ∀ W, (execOp ρ o).run P W = .ok (.value v) W) ∨ ∀ W, ∃ x W', (execOp ρ o).run P W = .halt x W' := by
  obtain ⟨dst, op, type, pos, after, guard⟩ := o
  unfold lateB at hl
  cases op <;> simp only [Bool.false_and, Bool.true_and, Bool.false_eq_true] at hl
  case move x =>
    refine .inl ⟨ρ x, fun W => ?_⟩
    simp [execOp, go_sem]
  case extract t k =>
    simp only [execOp, Instr.extract]
    cases ht : ρ t with
    | tuple vs =>
      cases hk : vs[k]? with
      | none => exact .inr fun W => by simp [hk, go_sem]
      | some u => exact .inl ⟨u, fun W => by simp [hk, go_sem]⟩
    | _ => exact .inr fun W => by simp [go_sem]
theorem qn_not {Q : Exit → Act → World → Prop} {e : Exit} {a : Act} {w : World} (h : Qn Q e a w) (he : e ≠ .normal) : False := he h.1
section
variable {P : Program} {l : List Oper} {vs : List Value} {fs : List Tmp} {FS : Tmp → Value → World → Prop} {I : World → Prop} {a0 : Act}
theorem any_of_FTL {N n fu : Nat} {late : Nat → Bool} {Q' : Exit → Act → World → Prop} (hR : RG .any l.toArray N) (hN : N ≤ a0.tmps.size) (hlen : vs.length = l.length) (hI : Closed I) (hF : ∀ s x w w', FS s x w → Below w.heap.size w w' → FS s x w')
    (hob : ∀ (j : Nat) o v, j < n → l[j]? = some o → vs[j]? = some v → Ob P l.toArray I fs FS o v (lex l vs a0 j)) (hn : n < l.length)
    (hreach : ∀ t j, n ≤ t → t < l.length → j < n → late j = false → reachB .any l.toArray fu t j = true) (hlate : ∀ j o, late j = true → l[j]? = some o → lateB o = true)
    (hQ : ∀ (listed : Array Bool) b w, (∀ j, j < n → listed.getD j true = true) → (∀ t, n ≤ t → t < l.length → listed.getD t true = false) → Inv l vs fs FS I a0 listed b w → wpAny P .any l.toArray (Qn Q') (l.length - n) listed b w) :
    ∀ (f : Nat) (listed : Array Bool) (b : Act) (w : World), (listed.toList.take n).count false = f → (∀ t, n ≤ t → t < l.length → listed.getD t true = false) → Inv l vs fs FS I a0 listed b w → wpAny P .any l.toArray (Qn Q') (f + (l.length - n)) listed b w
  | 0, listed, b, w, hcn, hh, h => by
    rw [Nat.zero_add]
    exact hQ listed b w (fun j hj => count_take_zero hcn j hj) hh h
  | f + 1, listed, b, w, hcn, hh, h => by
    obtain ⟨i0, hi0, hu0⟩ := count_take_pos hcn
    rw [show f + 1 + (l.length - n) = (f + (l.length - n)) + 1 by omega]
    by_cases hall : ∀ j, j < n → late j = false → listed.getD j true = true
    · -- only moves and extracts are left ahead of the tail: the first of them comes first
      obtain ⟨i, hin, hun, hmin⟩ : ∃ i, i < n ∧ listed.getD i true = false ∧ ∀ j, j < i → listed.getD j true = true := by
        have key : ∀ m, m ≤ n → (∀ j, j < m → listed.getD j true = true) ∨ ∃ i, i < m ∧ listed.getD i true = false ∧ ∀ j, j < i → listed.getD j true = true := by
          intro m
          induction m with
          | zero => exact fun _ => .inl fun j hj => absurd hj (Nat.not_lt_zero _)
          | succ m ih =>
            intro hm
            rcases ih (by omega) with h1 | ⟨i, h1, h2, h3⟩
            · cases hc : listed.getD m true with
              | true =>
                refine .inl fun j hj => ?_
                rcases Nat.lt_or_ge j m with h4 | h4
                · exact h1 j h4
                · obtain rfl : j = m := by omega
                  exact hc
              | false => exact .inr ⟨m, by omega, hc, h1⟩
            · exact .inr ⟨i, by omega, h2, h3⟩
        rcases key n (Nat.le_refl _) with h1 | ⟨i, h1, h2, h3⟩
        · rw [h1 i0 hi0] at hu0; cases hu0
        · exact ⟨i, h1, h2, h3⟩
      have hil : i < l.length := by omega
      obtain ⟨o, ho2⟩ : ∃ o, l[i]? = some o := ⟨_, List.getElem?_eq_getElem hil⟩
      have ho : l.toArray[i]? = some o := by simpa using ho2
      have hla : late i = true := by
        cases hc : late i with
        | true => rfl
        | false => rw [hall i hin hc] at hun; cases hun
      have hlo := hlate i o hla ho2
      obtain ⟨v, hv⟩ : ∃ v, vs[i]? = some v := ⟨_, List.getElem?_eq_getElem (by rw [hlen]; exact hil)⟩
      have hp : ∀ e ∈ o.after, Region.binds .any e = true → listed.getD e.on true = true := fun e he hb => hmin _ (hR.back i o ho e he hb)
      have hls := h.lsize
      have hr : i ∈ Region.ready .any l.toArray listed := mem_ready.2 ⟨hun, o, ho, fun e he hb => by
        have h1 := hp e he hb
        have h2 := hR.back i o ho e he hb
        rw [Array.getD_eq_getD_getElem?] at h1 ⊢
        rw [Array.getElem?_eq_getElem (by omega)] at h1 ⊢
        exact h1⟩
      have hw : Region.wanted o (yielded l.toArray b.tmps) = true := by
        unfold lateB at hlo
        rw [Bool.and_eq_true] at hlo
        unfold Region.wanted
        rw [Option.isNone_iff_eq_none.1 hlo.2]
      have hop := op_of_F (Q' := Qn Q') (K := fun a' w' => w' = w → ∀ d, o.dst = some d → (d ∈ fs → ∃ x, a'.tmps[d]? = some x ∧ FS d x w) ∧ (d ∉ fs → a'.tmps[d]? = vs[i]?)) hR hN hlen h ho2 hun hp hv (hob i o v hin ho2 hv) (fun u w' _ hu e d hd => by
        subst e
        have hlt : d < b.tmps.size := by
          rw [h.size]
          exact Nat.lt_of_lt_of_le (hR.small i o d ho hd) hN
        rw [hd]
        exact ⟨fun hf => ⟨u, put_same u hlt, (hu d hd).1 hf⟩, fun hf => (put_same u hlt).trans ((hu d hd).2 hf).symm⟩)
      unfold Go.wpOp at hop
      simp only [ho] at hop
      rw [if_pos hw] at hop
      obtain ⟨u, hval⟩ : ∃ u, ∀ W, (execOp b.eval o).run P W = .ok (.value u) W := by
        rcases late_run hlo b.eval P with h1 | h1
        · exact h1
        · obtain ⟨x, W', h2⟩ := h1 w
          rcases hop with hop | ⟨_, a', w', hq⟩
          · unfold Oper.wp at hop
            rw [h2] at hop
            cases x <;> simp only [Oper.upon] at hop
            exact (qn_not hop (by simp)).elim
          · exact (qn_not hq (by simp)).elim
      have hu : ∀ d, o.dst = some d → (d ∈ fs → FS d u w) ∧ (d ∉ fs → vs[i]? = some u) := by
        rcases hop with hop | ⟨_, a', w', hq⟩
        · unfold Oper.wp at hop
          rw [hval w] at hop
          simp only [Oper.upon] at hop
          intro d hd
          have hlt : d < b.tmps.size := by
            rw [h.size]
            exact Nat.lt_of_lt_of_le (hR.small i o d ho hd) hN
          obtain ⟨h1, h2⟩ := hop trivial d hd
          rw [hd, put_same u hlt] at h1 h2
          refine ⟨fun hf => ?_, fun hf => (h2 hf).symm⟩
          obtain ⟨x, hx, hfx⟩ := h1 hf
          rw [Option.some.inj hx]; exact hfx
        · exact (qn_not hq (by simp)).elim
      refine wpAny_first (v := u) ho hR.sel (fun c a w hq => (qn_not hq (by simp)).elim) _ listed b w (fun j oj hj hji hunj hno => ?_) hr (.inl ⟨hw, hval⟩) ?_
      · -- apart
        have hnj : ∀ e ∈ o.after, Region.binds .any e = true → e.on ≠ j := fun e he hb heq => by
          rw [← heq, hp e he hb] at hunj; cases hunj
        have h1 : ∀ d, o.dst = some d → d ∉ oj.looksAt l.toArray := fun d hd hdl => by
          rcases hR.look j i oj o d hj ho hd hdl with ⟨_, e, he, hb, heq⟩ | ⟨_, e, he, hb, heq⟩
          · exact hno e he hb heq
          · exact hnj e he hb heq
        have h2 : ∀ d, o.dst = some d → oj.dst ≠ some d := fun d hd => hR.once j i oj o d hj ho hd hji
        have h3 : ∀ d, oj.dst = some d → d ∉ o.looksAt l.toArray := fun d hd hdl => by
          rcases hR.look i j o oj d ho hj hd hdl with ⟨_, e, he, hb, heq⟩ | ⟨_, e, he, hb, heq⟩
          · exact hnj e he hb heq
          · exact hno e he hb heq
        unfold Oper.apart
        rw [Bool.and_eq_true]
        constructor
        · cases hd : o.dst with
          | none => rfl
          | some d => simpa using ⟨h1 d hd, h2 d hd⟩
        · cases hd : oj.dst with
          | none => rfl
          | some d => simpa using h3 d hd
      · have hcnt := count_take hin hun
        exact any_of_FTL hR hN hlen hI hF hob hn hreach hlate hQ f _ _ w (by omega) (fun t h1 h2 => by rw [getD_set_far _ (by omega)]; exact hh t h1 h2) (h.next hR hN hI hF ho2 hp (Below.refl _ _) hu)
    · obtain ⟨j0, hj0, hl0, hu1⟩ : ∃ j, j < n ∧ late j = false ∧ listed.getD j true = false := by
        simp only [Classical.not_forall] at hall
        obtain ⟨j, h1, h2, h3⟩ := hall
        exact ⟨j, h1, h2, by simpa using h3⟩
      refine ⟨fun h0 => ?_, fun i hi => ?_⟩
      · have hall := ready_all hR h.lsize h0
        rw [hall i0] at hu0
        cases hu0
      obtain ⟨hun, o, ho, hall⟩ := mem_ready.1 hi
      have ho2 : l[i]? = some o := by simpa using ho
      have hp : ∀ e ∈ o.after, Region.binds .any e = true → listed.getD e.on true = true := fun e he hb => by
        have h1 := hall e he hb
        rw [Array.getD_eq_getD_getElem?] at h1 ⊢
        cases hx : listed[e.on]? with
        | none => rfl
        | some y => rw [hx] at h1; simpa using h1
      have hin : i < n := by
        rcases Nat.lt_or_ge i n with h1 | h1
        · exact h1
        · have h2 := reach_ready h ho2 hp fu j0 (hreach i j0 h1 (List.getElem?_eq_some_iff.1 ho2).1 hj0 hl0)
          rw [h2] at hu1; cases hu1
      obtain ⟨v, hv⟩ : ∃ v, vs[i]? = some v := ⟨_, List.getElem?_eq_getElem (by rw [hlen]; exact (List.getElem?_eq_some_iff.1 ho2).1)⟩
      have hcnt := count_take hin hun
      exact op_of_F hR hN hlen h ho2 hun hp hv (hob i o v hin ho2 hv) fun u w' hb hu =>
        any_of_FTL hR hN hlen hI hF hob hn hreach hlate hQ f _ _ w' (by omega) (fun t h1 h2 => by rw [getD_set_far _ (by omega)]; exact hh t h1 h2) (h.next hR hN hI hF ho2 hp hb hu)
/-- ONE WALK IN THE TEXT's ORDER SERVES EVERY ORDER; the tail, behind place n, as it stands; lates: moves and extracts that the tail need not wait for -/
theorem wp_region_FTL {id : Nat} {Q : Exit → Act → World → Prop} {a : Act} {w : World} {l : List Oper} (N n fu : Nat) (lates : List Nat) (fs : List Tmp) (FS : Tmp → Value → World → Prop) (I : World → Prop) (hm : P.follows .mixedOrders = true) (hB : rgB .any l.toArray N = true)
    (hn : decide (n < l.length) = true) (hre : ((List.range (l.length - n)).all fun t => (List.range n).all fun j => lates.contains j || reachB .any l.toArray fu (n + t) j) = true) (hla : (lates.all fun j => ((l[j]?).map lateB).getD false) = true)
    (hq : Region.seqB .any l.toArray (l.length - n) n (List.replicate n true ++ List.replicate (l.length - n) false).toArray = true)
    (hfs : (fs.all fun s => (l.take n).any fun o => o.dst == some s) = true) (hN : N ≤ a.tmps.size) (hI : Closed I) (hF : ∀ s x w w', FS s x w → Below w.heap.size w w' → FS s x w') (hC : I w.drew)
    (h : wpF P l.toArray I fs FS (fun a' => ∀ xs w', I w' → (∀ s ∈ fs, FS s (xs s) w') → wpList P l.toArray (Qn Q) (l.drop n) (fill fs xs a') w') (l.take n) a) : (Code.region id l.toArray true).wp P Q a w := by
  have hR := rgB_spec hB
  have hn' : n < l.length := by simpa using hn
  obtain ⟨vs0, hlen0, hob0, hE0⟩ := wpF_vals (l.take n) a h
  have htl : (l.take n).length = n := by rw [List.length_take]; omega
  rw [htl] at hlen0 hE0
  obtain ⟨vs, hvs⟩ : ∃ vs, vs0 ++ List.replicate (l.length - n) undef = vs := ⟨_, rfl⟩
  have hlen : vs.length = l.length := by rw [← hvs, List.length_append, List.length_replicate]; omega
  have hlex : ∀ j, j ≤ n → lex (l.take n) vs0 a j = lex l vs a j := fun j hj => by rw [← hvs]; exact lex_take l vs0 _ a n j hj (by rw [hlen0, htl])
  have hob : ∀ (j : Nat) o v, j < n → l[j]? = some o → vs[j]? = some v → Ob P l.toArray I fs FS o v (lex l vs a j) := fun j o v hj ho hv => by
    rw [← hlex j (by omega)]
    refine hob0 j o v (by rw [List.getElem?_take, if_pos hj]; exact ho) ?_
    rw [← hvs, List.getElem?_append_left (by omega)] at hv
    exact hv
  rw [hlex n (Nat.le_refl _)] at hE0
  refine wp_region_any hm (wpAny_imp (Q := Qn Q) (fun e a w h => ?_) _ _ _ _ ?_)
  · obtain ⟨rfl, h⟩ := h
    exact h
  have hre' : ∀ t j, n ≤ t → t < l.length → j < n → lates.contains j = false → reachB .any l.toArray fu t j = true := fun t j h1 h2 h3 h4 => by
    rw [List.all_eq_true] at hre
    have h5 := hre (t - n) (List.mem_range.2 (by omega))
    rw [List.all_eq_true] at h5
    have h6 := h5 j (List.mem_range.2 h3)
    rw [h4, Bool.false_or, show n + (t - n) = t by omega] at h6
    exact h6
  have hla' : ∀ j o, lates.contains j = true → l[j]? = some o → lateB o = true := fun j o h1 h2 => by
    rw [List.all_eq_true] at hla
    have h3 := hla j (by simpa using h1)
    rw [h2] at h3
    exact h3
  have key := any_of_FTL (Q' := Q) (late := fun j => lates.contains j) (fu := fu) (l := l) (vs := vs) (fs := fs) (FS := FS) (I := I) (a0 := a) (n := n) hR hN hlen hI hF hob hn' hre' hla' ?_ n (Array.replicate l.toArray.size false) a w.drew (by
      simp only [List.size_toArray, Array.toList_replicate, List.take_replicate, List.count_replicate_self]; omega) (fun t _ ht => getD_in (by simpa using ht) (getD_replicate_false _ _)) ?_
  · rw [show n + (l.length - n) = l.toArray.size by simp; omega] at key
    exact key
  · intro listed b W hall hno hinv
    have hw : ∀ s ∈ fs, ∃ x, b.tmps[s]? = some x ∧ FS s x W := fun s hs => by
      rw [List.all_eq_true] at hfs
      have h1 := hfs s hs
      rw [List.any_eq_true] at h1
      obtain ⟨o, ho, hd⟩ := h1
      obtain ⟨j, hj, rfl⟩ := List.getElem_of_mem ho
      have hj1 : j < n := by rw [List.length_take] at hj; omega
      have hj2 : j < l.length := by omega
      have hd' : (l[j]).dst = some s := by simpa using hd
      obtain ⟨v, hv⟩ : ∃ v, vs[j]? = some v := ⟨_, List.getElem?_eq_getElem (by rw [hlen]; exact hj2)⟩
      exact (hinv.ins j l[j] s v (List.getElem?_eq_getElem hj2) (hall j hj1) hd' hv).1 hs
    have hb : b = fill fs (fun s => b.tmps.getD s undef) (lex l vs a n) := by
      have ht : b.tmps = (fill fs (fun s => b.tmps.getD s undef) (lex l vs a n)).tmps := by
        apply Array.ext_getElem?
        intro d
        by_cases hd : d ∈ fs
        · obtain ⟨x, hx, _⟩ := hw d hd
          have hlt : d < (lex l vs a n).tmps.size := by
            rw [(lex_size l vs a n).1, ← hinv.size]
            exact (Array.getElem?_eq_some_iff.1 hx).1
          rw [fill_in fs _ _ d hd hlt, hx]
          simp [hx]
        · rw [fill_out fs _ _ d hd]
          by_cases hwr : ∃ (j : Nat) (oj : Oper), j < n ∧ l[j]? = some oj ∧ oj.dst = some d
          · obtain ⟨j, oj, hjn, hj, hdj⟩ := hwr
            obtain ⟨v, hv⟩ : ∃ v, vs[j]? = some v := ⟨_, List.getElem?_eq_getElem (by rw [hlen]; exact (List.getElem?_eq_some_iff.1 hj).1)⟩
            have hj' : l.toArray[j]? = some oj := by simpa using hj
            rw [(hinv.ins j oj d v hj (hall j hjn) hdj hv).2 hd]
            exact (lex_in l vs a n j oj d v hj hjn hv hdj (Nat.lt_of_lt_of_le (hR.small _ _ _ hj' hdj) hN) fun i oi hi _ hne => hR.once i j oi oj d (by simpa using hi) hj' hdj hne).symm
          · rw [lex_out l vs a n d fun i oi hi hin hdi => hwr ⟨i, oi, hin, hi, hdi⟩]
            refine hinv.out d fun i oi hi hli hdi => hwr ⟨i, oi, ?_, hi, hdi⟩
            rcases Nat.lt_or_ge i n with h1 | h1
            · exact h1
            · rw [hno i h1 (List.getElem?_eq_some_iff.1 hi).1] at hli; cases hli
      have hd : b.defers = (fill fs (fun s => b.tmps.getD s undef) (lex l vs a n)).defers := by
        rw [(fill_size ..).2, (lex_size ..).2]
        exact hinv.defers
      cases b
      simp only at ht hd
      rw [Act.mk.injEq]
      exact ⟨ht, hd⟩
    have hL : listed = (List.replicate n true ++ List.replicate (l.length - n) false).toArray := by
      apply Array.ext
      · simp [hinv.lsize]; omega
      · intro j h1 h2
        have hj : j < l.length := by rw [← hinv.lsize]; exact h1
        by_cases hjn : j < n
        · have h3 := hall j hjn
          rw [Array.getD_eq_getD_getElem?, Array.getElem?_eq_getElem h1] at h3
          simp only [List.getElem_toArray]
          rw [List.getElem_append_left (by simpa using hjn)]
          simpa using h3
        · have h3 := hno j (by omega) hj
          rw [Array.getD_eq_getD_getElem?, Array.getElem?_eq_getElem h1] at h3
          simp only [List.getElem_toArray]
          rw [List.getElem_append_right (by simpa using Nat.le_of_not_lt hjn)]
          simpa using h3
    have hE := hE0 (fun s => b.tmps.getD s undef) W hinv.cls fun s hs => by
      obtain ⟨x, hx, hf⟩ := hw s hs
      simpa [hx] using hf
    rw [← hb] at hE
    have := wpAny_of_seq (md := .any) (Q' := Qn Q) (l.drop n) n listed b W (fun j => by simp [List.getElem?_drop]) (by rw [List.length_drop, hL]; exact hq) hE
    rwa [List.length_drop] at this
  · refine ⟨hC, rfl, rfl, fun _ _ => rfl, fun j o d v hj hlj => ?_, fun j o hj hlj => ?_, by simp⟩
    all_goals
      have hlt := (List.getElem?_eq_some_iff.1 hj).1
      rw [Array.getD_eq_getD_getElem?] at hlj
      simp [hlt] at hlj
/-- in the tail: an operation that looks at no memory -/
theorem wpList_val {ops : Array Oper} {rest : List Oper} {o : Oper} {a : Act} {w : World} {Q : Exit → Act → World → Prop} (hgd : o.guard = none) (v : Value) (hrun : ∀ W, (execOp a.eval o).run P W = .ok (.value v) W) (h : wpList P ops Q rest (a.put o.dst v) w) : wpList P ops Q (o :: rest) a w := by
  unfold wpList
  rw [if_pos (by simp [Region.wanted, hgd])]
  left
  unfold Oper.wp
  rw [hrun w]
  exact h
end
end Go.Proofs.YtfdbcfkjablnkaaGreat

namespace Go.Proofs.YtfdbcfkjablnkaaGreat
open Go.RowKit
set_option maxRecDepth 100000

set_option maxHeartbeats 4000000 in
theorem jdnew_any (s : Int) (hs : 0 ≤ s ∧ s < 4294967296) (r : Nat) (w : World) :
    Calls Tryz.prog 6 #[.int .u32 s, .int .i64 (r : Int)] w fun e w' => e = .returned (.agg (jC (Sr.add s (-1)) 18446744073709551615 r none 0 0)) ∧ Below w.heap.size w w' := by
  have K := fun w => rnew_any s hs w
  have hcw : wC (Sr.add s (-1)) (fun _ => true) = wC (Sr.add s (-1)) (18446744073709551615 : Nat).testBit := wC_congr fun i hi => (Wn.ones_bit i hi).symm
  rw [hcw] at K
  unfold jC
  have hcs := wC_size (Sr.add s (-1)) (18446744073709551615 : Nat).testBit
  have hc1 := wC_one (Sr.add s (-1)) (18446744073709551615 : Nat).testBit
  generalize wC (Sr.add s (-1)) (18446744073709551615 : Nat).testBit = Cw at *
  obtain ⟨hz, hzi⟩ := zero_of_info (P := Tryz.prog) jdZero
  have hzs : (jCw (wC 0 (fun _ => false)) 0 none 0 0).size = 67 := jCw_size (wC_size _ _)
  generalize jCw (wC 0 (fun _ => false)) 0 none 0 0 = Z at *
  have hjs : (jCw Cw r none 0 0).size = 67 := jCw_size hcs
  have hj1 : (jCw Cw r none 0 0).all (·.oneCell') = true := jCw_one hc1
  have HB := Lib.hid (fun W => jd_build hcs r none 0 0 W)
  generalize jCw Cw r none 0 0 = Cj at *
  obtain ⟨w1, hw1⟩ : ∃ w1, w.alloc (.cells Z 36) = w1 := ⟨_, rfl⟩
  have hb1 : Below w.heap.size w w1 := by rw [← hw1]; exact (Below.refl _ w).alloc (Nat.le_refl _) _
  have hx1 : w1.heap[w.heap.size]? = some (.cells Z 36 (0, 0)) := by rw [← hw1]; exact World.alloc_heap_new _ _
  have HW1 := Lib.hid hw1
  have HZs := Lib.hid hzs
  have HJs := Lib.hid hjs
  have HJ1 := Lib.hid hj1
  clear hw1 hzs hjs hj1 hcs hc1 hcw hzi
  unfold docV at HB
  go_enter Tryz.func6, Tryz.ntmps6
  go_wp2_with fail
  rw [HW1.out]
  refine (K w1).mono ?_
  rintro e w2 ⟨rfl, hb2⟩
  have hx2 := row_keep hx1 hb2
  have HB2 := Lib.hid (hb1.trans (hb2.mono hb1.size))
  have HST := Lib.hid (jd_store (cs := Cj) hx2 HZs.out HJs.out HJ1.out)
  have HFIN : Hid (Below w.heap.size w (w2.setRow w.heap.size Cj)) := Lib.hid (setRow_new HB2.out (Nat.le_refl _) _)
  have HX := Lib.hid (setRow_heap _ _ _ Cj _ _ hx2)
  clear hb1 hx1 hb2 hx2 HW1 K hz
  simp only []
  rename ∀ (a : Act) (w : World), wpList _ _ _ _ a w → _ => hK
  refine hK _ _ ?_
  clear hK
  iterate 12 (first | (refine wpList_build_run rfl 36 #[(0, .tmp 6), (1, .tmp 8)] rfl [(0, .agg Cw), (1, .agg #[.int .i64 (r : Int), .slice none 0 0])] rfl (.agg Cj) (HB.out _) ?_) | (refine wpList_store_run rfl 36 (.tmp 4) (.tmp 9) rfl (some ⟨w.heap.size, 0, none⟩) rfl (.agg Cj) rfl HST.out ?_) | go_step)
  generalize w2.setRow w.heap.size Cj = Wf at *
  clear HST HB2 HB
  go_wp2
  refine bodyPost_ret (results_cell_row (P := Tryz.prog) (fn := Tryz.f6) rfl _ _ w.heap.size 36 Cj (0, 0) _ (by rfl) HX.out Tryz.underlying36 (by rfl) (by rw [HJs.out]; exact jdInfo)) rfl ⟨rfl, HFIN.out⟩
end Go.Proofs.YtfdbcfkjablnkaaGreat

namespace Go.Proofs.YtfdbcfkjablnkaaGreat
open Go.RowKit
set_option maxRecDepth 100000

set_option maxHeartbeats 16000000 in
theorem dput_any {w : World} {A : Option Addr} {n cp : Nat} {L : List Ds} (h : DocAt w A n cp L) (hk : (L.map Ds.s).Nodup) (r : Nat) (hr1 : 1 ≤ r) (hnr : n ≤ r) (hr2 : r ≤ 16) (f : Fr) (hf : f.At w w.heap.size) (hfl : f.zs.length ≤ 250) (Src : Fr → Prop) (hsr : SrcL Src L) (hsf : Src f) :
    Calls Tryz.prog 23 #[docV r A n cp, frV f.v f.k f.s f.i f.c (.slice f.a f.zs.length f.cp)] w (DPutR Src w r (L.map Ds.ms) f) := by
  obtain ⟨w1, hw1⟩ : ∃ w1, (((w.alloc (.cells #[.int .i64 (r : Int), .slice A n cp] 34)).alloc (.cells f.cs 52)).alloc (.cells #[.int .i64 0, .slice none 0 0] 34)).alloc (.cells (outC none 0 0 false false 0) 47) = w1 := ⟨_, rfl⟩
  obtain ⟨hp1, hs1⟩ := Dp.start hw1
  have HBad : Hid (∀ (er : Int) (W : World), Dp w r A n cp f W → w.heap.size + 4 ≤ W.heap.size → Tb.put r (L.map Ds.ms) f = ⟨er, L.map Ds.ms, .no⟩ → _) :=
    Lib.hid fun er W hp hw hput => dput_fin (w := w) (W := W) (r := r) (f := f) (A' := A) (n' := n) (cp' := cp) (L := L) (Ab := none) (cb := 0) hsr hw hp.rt hp.ro hp.below hput (h.below hp.below) rfl (Nat.zero_le _) Nums.nil (fun p hp => by cases hp)
  have HFin : Hid (∀ (W : World) (A' : Option Addr) (n' cp' : Nat) (L' : List Ds) (Ab : Option Addr) (cb : Nat) (R : Tb.Res), SrcL Src L' → _ → _ → _ → _ → _ → _ → _ → _ → _ → _ → _) :=
    Lib.hid fun W A' n' cp' L' Ab cb R h0 h1 h2 h3 h4 h5 h6 h7 h8 h9 h10 => dput_fin (w := w) (W := W) (r := r) (f := f) (A' := A') (n' := n') (cp' := cp') (L := L') (Ab := Ab) (cb := cb) (T := L.map Ds.ms) (R := R) h0 h1 h2 h3 h4 h5 h6 h7 h8 h9 h10
  have HD := Lib.hid h
  have HK := Lib.hid hk
  have HF := Lib.hid hf
  have HP1 := Lib.hid hp1
  have HS1 := Lib.hid hs1
  have HW1 : Hid ((((w.alloc (.cells #[.int .i64 (r : Int), .slice A n cp] 34)).alloc (.cells #[.int .i64 f.v, .int .i64 f.k, .int .u32 f.s, .int .i64 f.i, .int .i64 f.c, .slice f.a f.zs.length f.cp] 52)).alloc (.cells #[.int .i64 0, .slice none 0 0] 34)).alloc (.cells #[.slice none 0 0, .bool false, .bool false, .int .u32 0] 47) = w1) := Lib.hid hw1
  have KC := Lib.hid (fun W => rcheck_any f.v f.k f.s f.i f.c W)
  have hpos := hf.s0
  have hmax := hf.s1
  simp only [Tb.Out.no, List.length_nil] at HBad
  have HBad2 : Hid (∀ (er : Int) (W : World), w.heap.size + 4 ≤ W.heap.size → W.heap[w.heap.size + 2]? = some (.cells #[.int .i64 0, .slice none 0 0] 34 (0, 0)) → W.heap[w.heap.size + 3]? = some (.cells (outC none 0 0 false false 0) 47 (0, 0)) → Below w.heap.size w W → Tb.put r (L.map Ds.ms) f = ⟨er, L.map Ds.ms, .no⟩ → _) :=
    Lib.hid fun er W hw h2 h3 hb hput => dput_fin (w := w) (W := W) (r := r) (f := f) (A' := A) (n' := n) (cp' := cp) (L := L) (Ab := none) (cb := 0) hsr hw h2 h3 hb hput (h.below hb) rfl (Nat.zero_le _) Nums.nil (fun p hp => by cases hp)
  simp only [Tb.Out.no, List.length_nil] at HBad2
  have HSR := Lib.hid hsr
  have HSF := Lib.hid hsf
  clear h hk hf hs1 hw1 hsr hsf
  generalize DPutR Src w r (L.map Ds.ms) f = G at *
  obtain ⟨d0, d1⟩ := doc_cells hp1.t
  obtain ⟨e0, e1, e2, e3, e4, e5⟩ := fr_block (v := f.v) (k := f.k) (s := f.s) (i := f.i) (c := f.c) hp1.f
  unfold docV frV frC hdV at *
  clear hp1
  go_enter Tryz.func23, Tryz.ntmps23
  go_wp2_with fail
  rw [HW1.out]
  refine (KC.out w1).mono ?_
  rintro e w2 ⟨rfl, hb2⟩
  have hp2 := HP1.out.later hb2
  have hs2 : w.heap.size + 4 ≤ w2.heap.size := by have := hb2.size; have := HS1.out; omega
  obtain ⟨d0, d1⟩ := doc_cells hp2.t
  obtain ⟨e0, e1, e2, e3, e4, e5⟩ := fr_block (v := f.v) (k := f.k) (s := f.s) (i := f.i) (c := f.c) hp2.f
  by_cases hc : chk f.v f.k f.i f.c = 0
  · rw [hc]
    have HC := Lib.hid hc
    clear hc
    by_cases hz : f.zs.length = 0
    · have hz' : (f.zs.length : Int) = 0 := by omega
      have hput := Tb.put_short (r := r) (T := L.map Ds.ms) HC.out (List.eq_nil_of_length_eq_zero hz)
      obtain ⟨x3, c0, c1, o0, o1, o2, o3, HFIN⟩ := HBad.out 13 w2 hp2 hs2 hput
      have HG := Lib.hid HFIN
      have x2 := hp2.rt
      clear hput HFIN hp2 hb2
      go_wp2_with (first
        | refine wpList_store_row rfl 34 (.tmp 4) (.tmp 27) rfl (w.heap.size + 2) #[.int .i64 (r : Int), .slice A n cp] rfl rfl 34 _ x2 stInfo rfl (by simp [Value.oneCell']) ?_
        | refine wpList_store_row rfl 47 (.tmp 5) (.tmp 28) rfl (w.heap.size + 3) (outC none 0 0 false false 0) rfl rfl 47 _ x3 soInfo rfl (out_one _ _ _ _ _ _) ?_)
      refine bodyPost_ret (by simp [results, Tryz.results23, go_sem, c0, c1, o0, o1, o2, o3]; try rfl) rfl ?_
      exact HG.out
    · have hz' : ¬ (f.zs.length : Int) = 0 := by omega
      obtain ⟨w3, hw3⟩ : ∃ w3, (w2.alloc (.cells #[.int .i64 (r : Int), .slice A n cp] 34)).alloc (.cells (outC none 0 0 false false 0) 47) = w3 := ⟨_, rfl⟩
      have hb3 : Below w2.heap.size w2 w3 := by rw [← hw3]; exact ((Below.refl _ w2).alloc (Nat.le_refl _) _).alloc (by simp) _
      have hp3 := hp2.later hb3
      have hx7 : w3.heap[w2.heap.size]? = some (.cells #[.int .i64 (r : Int), .slice A n cp] 34 (0, 0)) := by rw [← hw3]; exact (Below.heap_alloc _ _ _ (by simp)).trans (World.alloc_heap_new _ _)
      have hx8 : w3.heap[w2.heap.size + 1]? = some (.cells (outC none 0 0 false false 0) 47 (0, 0)) := by
        rw [← hw3]
        have h := World.alloc_heap_new (w2.alloc (.cells #[.int .i64 (r : Int), .slice A n cp] 34)) (.cells (outC none 0 0 false false 0) 47)
        rwa [World.size_alloc] at h
      have hm3 : Dm w r A n cp f w2.heap.size (w2.heap.size + 1) A n cp L false 0 w3 := ⟨hp3.t, hp3.f, hp3.rt, hp3.ro, hx7, hx8, HD.out.below hp3.below, hp3.below, hs2, rfl⟩
      have HW3 : Hid ((w2.alloc (.cells #[.int .i64 (r : Int), .slice A n cp] 34)).alloc (.cells #[.slice none 0 0, .bool false, .bool false, .int .u32 0] 47) = w3) := Lib.hid hw3
      have KFD := dfind_any hm3.doc r f.s
      unfold docV at KFD
      obtain ⟨d0, d1⟩ := doc_cells hm3.t
      obtain ⟨e0, e1, e2, e3, e4, e5⟩ := fr_block (v := f.v) (k := f.k) (s := f.s) (i := f.i) (c := f.c) hm3.f
      have g0 : ((w2.alloc (.cells #[.int .i64 (r : Int), .slice A n cp] 34)).alloc (.cells #[.slice none 0 0, .bool false, .bool false, .int .u32 0] 47)).cell? ⟨w.heap.size, 0, none⟩ = some (.int .i64 (r : Int)) := by rw [HW3.out]; exact d0
      have g1 : ((w2.alloc (.cells #[.int .i64 (r : Int), .slice A n cp] 34)).alloc (.cells #[.slice none 0 0, .bool false, .bool false, .int .u32 0] 47)).cell? ⟨w.heap.size, 1, none⟩ = some (.slice A n cp) := by rw [HW3.out]; exact d1
      have g2 : ((w2.alloc (.cells #[.int .i64 (r : Int), .slice A n cp] 34)).alloc (.cells #[.slice none 0 0, .bool false, .bool false, .int .u32 0] 47)).cell? ⟨w.heap.size + 1, 2, none⟩ = some (.int .u32 f.s) := by rw [HW3.out]; exact e2
      have HM3 := Lib.hid hm3
      have hs3 := hb3.size
      have HZ := Lib.hid hz
      clear hw3 hp3 hx7 hx8 hm3 hp2 hz hb3 hb2
      obtain ⟨pw, hpw⟩ : ∃ pw, w2.heap.size = pw := ⟨_, rfl⟩
      rw [hpw] at HM3
      have HPW := Lib.hid hpw
      clear hpw
      go_wp2_with fail
      rw [HW3.out, HPW.out]
      refine KFD.mono ?_
      rintro e w4 ⟨hb4, hor⟩
      have hm4 := HM3.out.later hb4
      have hs4 : w.heap.size + 4 ≤ w4.heap.size := by have := hb4.size; omega
      obtain ⟨d0, d1⟩ := doc_cells hm4.t
      obtain ⟨e0, e1, e2, e3, e4, e5⟩ := fr_block (v := f.v) (k := f.k) (s := f.s) (i := f.i) (c := f.c) hm4.f
      rcases hor with ⟨hno, rfl⟩ | ⟨j, d, hj, hds, rfl⟩
      · have hfn : Tb.find (L.map Ds.ms) f.s = none := Tb.find_none.2 fun x hx => by
          obtain ⟨d, hd, rfl⟩ := List.mem_map.1 hx
          exact hno d hd
        have hzn : f.zs ≠ [] := fun e => HZ.out (by rw [e]; rfl)
        have HPN := Lib.hid (Tb.put_new (r := r) HC.out hzn hfn)
        have HER := Lib.hid (Tb.new_err HC.out hzn)
        have HNO := Lib.hid hno
        clear hfn hzn hno
        by_cases h192 : 192 < f.zs.length
        · have h192' : (192 : Int) < (f.zs.length : Int) := by omega
          have hput := HPN.out
          rw [HER.out, if_pos h192, if_pos (by omega)] at hput
          have hp4 : Dp w r A n cp f w4 := ⟨hm4.t, hm4.f, hm4.rt, hm4.ro, hm4.below⟩
          obtain ⟨x3, c0, c1, o0, o1, o2, o3, HFIN⟩ := HBad.out 6 w4 hp4 hs4 hput
          have HG := Lib.hid HFIN
          have x2 := hp4.rt
          clear hput HFIN hp4 hm4 hb4
          go_wp2_with (first
            | refine wpList_store_row rfl 34 (.tmp 4) (.tmp 41) rfl (w.heap.size + 2) #[.int .i64 (r : Int), .slice A n cp] rfl rfl 34 _ x2 stInfo rfl (by simp [Value.oneCell']) ?_
            | refine wpList_store_row rfl 47 (.tmp 5) (.tmp 42) rfl (w.heap.size + 3) (outC none 0 0 false false 0) rfl rfl 47 _ x3 soInfo rfl (out_one _ _ _ _ _ _) ?_)
          refine bodyPost_ret (by simp [results, Tryz.results23, go_sem, c0, c1, o0, o1, o2, o3]; try rfl) rfl ?_
          exact HG.out
        · have h192' : ¬ (192 : Int) < (f.zs.length : Int) := by omega
          have hput := HPN.out
          rw [HER.out, if_neg h192, if_neg (by omega), List.length_map, HD.out.len] at hput
          have HPT := Lib.hid hput
          have HER0 : Hid ((Ds.new f).ms.err f = 0) := Lib.hid (HER.out.trans (if_neg h192))
          clear HPN HER hput
          have HM4 := Lib.hid hm4
          by_cases hnr : n = r
          · have hnr' : (n : Int) = (r : Int) := by omega
            have hnrb : ((n : Int) == (r : Int)) = true := by simp [hnr]
            have HNR := Lib.hid hnr
            have KS := Lib.hid (dseqs_any hm4.doc r)
            unfold docV at KS
            clear hm4 hb4 hnr hnr'
            go_wp2_with fail
            refine KS.out.mono ?_
            rintro e w5 ⟨v5, rfl, hmk⟩
            obtain ⟨A5, c5, rfl, hc5, hnum5⟩ := hmk.slice
            have hm5 := HM4.out.later hmk.2
            have hU : Sr.U (L.map Ds.s) := fun z hz => by
              obtain ⟨d, hd, rfl⟩ := List.mem_map.1 hz
              have := (HD.out.at' d hd).num
              omega
            have hlen5 : (L.map Ds.s).length = n := by rw [List.length_map, HD.out.len]
            have KB := rbest_any false w5.heap.size n c5 A5 (L.map Ds.s) w5 hlen5 (by omega) hU hnum5
            rw [hlen5]
            have hnums : Tb.nums (L.map Ds.ms) = L.map Ds.s := by
              unfold Tb.nums
              rw [List.map_map]
              rfl
            have hold : Sr.bst false (L.map Ds.s) = Tb.old (L.map Ds.ms) := by unfold Tb.old; rw [hnums]
            have hbU := Sr.bst_U (nw := false) hU
            rw [hold] at KB hbU
            have KAF := rafter_any f.s (Tb.old (L.map Ds.ms)) w5 (by omega) hbU
            obtain ⟨d0, d1⟩ := doc_cells hm5.t
            obtain ⟨e0, e1, e2, e3, e4, e5⟩ := fr_block (v := f.v) (k := f.k) (s := f.s) (i := f.i) (c := f.c) hm5.f
            have HM5 := Lib.hid hm5
            have hs5 : w.heap.size + 4 ≤ w5.heap.size := by have := hmk.2.size; omega
            rw [if_pos HNR.out] at HPT
            clear hm5 hmk hnum5 hU hlen5 hnums hold KS
            generalize Tb.old (L.map Ds.ms) = OLD at *
            go_wp2_with fail
            refine KB.mono ?_
            rintro e w9 ⟨rfl, rfl⟩
            clear KB
            go_wp2_with fail
            refine KAF.mono ?_
            rintro e w9 ⟨rfl, rfl⟩
            clear KAF
            cases haf : Sr.after f.s OLD with
            | false =>
              rw [if_neg (by rw [haf]; simp)] at HPT
              have hp5 : Dp w r A n cp f w9 := ⟨HM5.out.t, HM5.out.f, HM5.out.rt, HM5.out.ro, HM5.out.below⟩
              obtain ⟨x3, c0, c1, o0, o1, o2, o3, HFIN⟩ := HBad.out 18 w9 hp5 hs5 HPT.out
              have HG := Lib.hid HFIN
              have x2 := hp5.rt
              clear HFIN hp5
              go_wp2_with (first
                | refine wpList_store_row rfl 34 (.tmp 4) (.tmp 61) rfl (w.heap.size + 2) #[.int .i64 (r : Int), .slice A n cp] rfl rfl 34 _ x2 stInfo rfl (by simp [Value.oneCell']) ?_
                | refine wpList_store_row rfl 47 (.tmp 5) (.tmp 62) rfl (w.heap.size + 3) (outC none 0 0 false false 0) rfl rfl 47 _ x3 soInfo rfl (out_one _ _ _ _ _ _) ?_)
              refine bodyPost_ret (by simp [results, Tryz.results23, go_sem, c0, c1, o0, o1, o2, o3]; try rfl) rfl ?_
              exact HG.out
            | true =>
              rw [if_pos haf] at HPT
              have KDR := ddrop_any HM5.out.doc r OLD
              unfold docV at KDR
              go_wp2_with fail
              refine KDR.mono ?_
              rintro e w6 ⟨hb6, A6, c6, rfl, hd6⟩
              have hm6 := HM5.out.later hb6
              obtain ⟨q6, hq6⟩ : ∃ q, (L.filter fun d => d.s != OLD).length = q := ⟨_, rfl⟩
              rw [hq6] at hd6 ⊢
              obtain ⟨u1, u2, u3, u4, hm7⟩ := Dm.gone (old := OLD) hm6 hd6
              have x0 := hm6.t
              obtain ⟨W7, hW7⟩ : ∃ W7, (((w6.setRow w.heap.size #[.int .i64 (r : Int), .slice A6 q6 c6]).setCell ⟨pw + 1, 2, none⟩ (.bool true)).setCell ⟨pw + 1, 3, none⟩ (.int .u32 OLD)) = W7 := ⟨_, rfl⟩
              have HW7 := Lib.hid hW7
              rw [hW7] at hm7
              have HM7 := Lib.hid hm7
              have hl7 : (L.filter fun d => d.s != OLD).length ≤ 16 := by
                have := List.length_filter_le (fun d : Ds => d.s != OLD) L
                have := HD.out.len
                omega
              rw [hq6] at hl7
              have HMS : Hid (Tb.drop (L.map Ds.ms) OLD = (L.filter fun d => d.s != OLD).map Ds.ms) := by
                show _ = _
                unfold Tb.drop
                rw [List.filter_map]
                rfl
              rw [HMS.out] at HPT
              have HNK7 : Hid (((L.filter fun d => d.s != OLD).map Ds.s).Nodup ∧ ∀ d ∈ (L.filter fun d => d.s != OLD), d.s ≠ f.s) := Lib.hid ⟨List.Sublist.nodup (List.Sublist.map Ds.s List.filter_sublist) HK.out, fun d hd => HNO.out d (List.mem_filter.1 hd).1⟩
              clear hW7 hm7 hm6 hd6 hb6 KDR HM5 HMS HNR
              have HSR7 : Hid (SrcL Src (L.filter fun d => d.s != OLD)) := Lib.hid fun d hd => HSR.out d (List.mem_filter.1 hd).1
              generalize (L.filter fun d => d.s != OLD) = L7 at *
              unfold docV
              go_wp2_with (refine wpList_store_row rfl 34 (.tmp 2) (.tmp 65) rfl w.heap.size #[.int .i64 (r : Int), .slice A6 q6 c6] rfl rfl 34 _ x0 stInfo rfl (by simp [Value.oneCell']) ?_)
              rw [HW7.out]
              obtain ⟨ev7, hev7⟩ : ∃ ev7, true = ev7 := ⟨_, rfl⟩
              obtain ⟨old7, hold7⟩ : ∃ old7, OLD = old7 := ⟨_, rfl⟩
              rw [hev7, hold7] at HM7 HPT
              clear hev7 hold7 HW7
              have h7t := HM7.out.t
              have L1 : ∀ V, Below W7.heap.size W7 V → (Instr.loadAt 32 (.pointer (some ⟨w.heap.size, 1, none⟩))).run Tryz.prog V = .ok (.slice A6 q6 c6) V := fun V hV => by
                obtain ⟨d0, d1⟩ := doc_cells (HM7.out.later hV).t
                simp [Instr.loadAt, go_sem, d1]
              have L2 : ∀ V, Below W7.heap.size W7 V → (Instr.loadAt 50 (.pointer (some ⟨w.heap.size + 1, 0, none⟩))).run Tryz.prog V = .ok (.agg #[.int .i64 f.v, .int .i64 f.k, .int .u32 f.s, .int .i64 f.i, .int .i64 f.c]) V := fun V hV => by
                obtain ⟨d0, d1, d2, d3, d4, d5⟩ := fr_block (v := f.v) (k := f.k) (s := f.s) (i := f.i) (c := f.c) (HM7.out.later hV).f
                simp [Instr.loadAt, go_sem, d0, d1, d2, d3, d4]
              have KN : Hid (∀ V, Below W7.heap.size W7 V → Calls Tryz.prog 43 #[.agg #[.int .i64 f.v, .int .i64 f.k, .int .u32 f.s, .int .i64 f.i, .int .i64 f.c]] V fun e w' => e = .returned (.agg #[.int .i64 f.v, .int .i64 f.k, .int .u32 f.s, .int .i64 0, .int .i64 f.c, .slice none 0 0]) ∧ Below V.heap.size V w') := Lib.hid fun V _ => rnew_any13 f.v f.k f.s f.i f.c V
              have hs7 : w.heap.size + 4 ≤ W7.heap.size := by
                have h1 := HM7.out.lo
                have h2 := (Array.getElem?_eq_some_iff.1 HM7.out.was).1
                omega
              obtain ⟨z0, hi, hz0, hz1, hz2⟩ := info_parts dsInfo
              clear h7t
              refine wp_region_FT 121 8 [69, 72, 76] (FDoc W7.heap.size q6 L7 (Ds.new f)) (fun V => Below W7.heap.size W7 V) (by kernel_rfl) (by kernel_rfl) (by rfl) (by kernel_rfl) (by kernel_rfl) (by kernel_rfl) (by rfl) (by simp) (fun W W' h hb => h.trans (hb.mono h.size)) (fun q x W W' h hb => h.later hb) (Below.refl _ _).drew ?_
              simp only [List.take_succ_cons, List.take_zero, List.drop_succ_cons, List.drop_zero]
              refine wpF_src 69 (by simp) rfl rfl rfl (fun W hW => ⟨.slice (some ⟨W.heap.size, 0, none⟩) 0 0, W.alloc (.cells #[] 84), ?_, ?_, (Below.refl _ _).alloc (Nat.le_refl _) _⟩) ?_
              · simp [go_sem]
              · unfold FDoc
                rw [if_pos rfl]
                exact ⟨_, rfl, World.ownsRow_made W #[] 0 hW.size (by unfold maxLen; omega) rfl⟩
              simp only [Act.put, List.setIfInBounds_toArray, List.set_cons_succ, List.set_cons_zero]
              repeat (refine wpF_pure rfl rfl ?_; go_big_quiet_step (fail); refine wpQuiet_nil ?_)
              refine wpF_load _ rfl (by rfl) (by rfl) (by rfl) L1 ?_
              simp only [Act.put, List.setIfInBounds_toArray, List.set_cons_succ, List.set_cons_zero]
              refine wpF_mix 72 [69] (by simp) rfl (by kernel_rfl) (by kernel_rfl) (fun xs => by rfl) (fun xs W hW hx => ?_) ?_
              · have h69 := hx 69 (by simp)
                unfold FDoc at h69
                rw [if_pos rfl] at h69
                obtain ⟨g, e69, ho69⟩ := h69
                obtain ⟨v', W', hr, ho, hbl⟩ := append_docs (P := Tryz.prog) 32 32 84 z0 _ Tryz.underlying32 hi hz0 hz1 hz2 rfl W7.heap.size g hW.size ho69 (HM7.out.doc.below hW)
                refine ⟨v', W', ?_, ?_, hbl⟩
                · exact exec_appendU (.tmp 69) (.tmp 71) 32 rfl (by simp [fill, Act.put, Act.eval, e69]) (by simp [fill, Act.put, Act.eval]) hr
                · unfold FDoc
                  rw [if_neg (by decide), if_pos rfl]
                  exact ho
              simp only [Act.put, List.setIfInBounds_toArray, List.set_cons_succ, List.set_cons_zero]
              repeat (refine wpF_pure rfl rfl ?_; go_big_quiet_step (fail); refine wpQuiet_nil ?_)
              refine wpF_load _ rfl (by rfl) (by rfl) (by rfl) L2 ?_
              simp only [Act.put, List.setIfInBounds_toArray, List.set_cons_succ, List.set_cons_zero]
              refine wpF_call (f := 43) (args := #[.agg #[.int .i64 f.v, .int .i64 f.k, .int .u32 f.s, .int .i64 f.i, .int .i64 f.c]]) (.agg #[.int .i64 f.v, .int .i64 f.k, .int .u32 f.s, .int .i64 0, .int .i64 f.c, .slice none 0 0]) rfl rfl (fun x => by first | rfl | (simp [go_sem]; done)) KN.out ?_
              simp only [Act.put, List.setIfInBounds_toArray, List.set_cons_succ, List.set_cons_zero]
              refine wpF_src 76 (by simp) rfl rfl rfl (fun W hW => ⟨.slice (some ⟨W.heap.size, 0, none⟩) 1 1, W.alloc (.cells (Ds.new f).cs 84), ?_, ?_, (Below.refl _ _).alloc (Nat.le_refl _) _⟩) ?_
              · simp [go_sem, Ds.cs, Ds.new, frC]
              · unfold FDoc
                rw [if_neg (by decide), if_neg (by decide)]
                exact ⟨_, rfl, World.alloc_heap_new _ _⟩
              simp only [Act.put, List.setIfInBounds_toArray, List.set_cons_succ, List.set_cons_zero]
              intro xs8 w8 hb8 hx
              have h72 := hx 72 (by simp)
              have h76 := hx 76 (by simp)
              unfold FDoc at h72 h76
              rw [if_neg (by decide), if_pos rfl] at h72
              rw [if_neg (by decide), if_neg (by decide)] at h76
              obtain ⟨g8, e76, hg8⟩ := h76
              simp only [fill, Act.put, List.setIfInBounds_toArray, List.set_cons_succ, List.set_cons_zero]
              rw [e76]
              generalize xs8 69 = x69
              generalize xs8 72 = x72 at *
              have hs8 : W7.heap.size ≤ w8.heap.size := hb8.size
              have HNW : Hid (∀ (q : Nat) (u : Value), [Value.int .i64 f.v, .int .i64 f.k, .int .u32 f.s, .int .i64 0, .int .i64 f.c, .slice none 0 0][q]? = some u → w8.cell? ((⟨g8, 0, none⟩ : Addr).add q) = some u) := Lib.hid fun q u hq => by
                rw [Addr.add_lit, Nat.zero_add]
                simp only [World.cell?, hg8]
                simpa [Ds.cs, Ds.new, frC] using hq
              have HR8 := Lib.hid h72
              have HX1 : Hid (q6 + 1 ≤ maxLen) := by show _ ≤ _; unfold maxLen; omega
              have HX2 : Hid ((q6 + 1) * 64 ≤ 140737488355328) := by show _ ≤ _; omega
              have HB8 := Lib.hid hb8
              clear hx e76 hg8 h72 L1 L2 hb8
              refine wpList_append_lies _ rfl (.tmp 72) (.tmp 76) 32 rfl W7.heap.size 84 z0 _ 6 64 Tryz.underlying32 hi hz0 hz1 hz2 rfl (by decide) x72 q6 (flatD L7) rfl HR8.out ⟨g8, 0, none⟩ 1 1 [Value.int .i64 f.v, .int .i64 f.k, .int .u32 f.s, .int .i64 0, .int .i64 f.c, .slice none 0 0] rfl rfl HNW.out (by simp [Value.oneCell']) (by decide) HX1.out HX2.out hs8 _ rfl ?_
              intro g9 c9 w9' hown9 hgr9 hat9 hlt9
              have hb9 : Below W7.heap.size W7 w9' := HB8.out.grown hgr9 hs8 (fun g hg => (HR8.out.lt g hg).1)
              obtain ⟨y1, y2, hm10⟩ := HM7.out.list (L2 := L7 ++ [Ds.new f]) hb9 (by rw [flatD_push]; exact hown9) (by rw [List.length_append, HM7.out.doc.len]; rfl) (fun d hd => by
                rcases List.mem_append.1 hd with h | h
                · exact .inl h
                · rw [List.mem_singleton.1 h]
                  exact .inr fun W => Ds.new_at W HC.out ⟨hpos, hmax⟩) (by omega)
              have HM10 := Lib.hid hm10
              obtain ⟨y3, y4⟩ := doc_cells hm10.t
              clear hm10 hown9 hgr9 hat9 hlt9 hb9 HX1 HX2 HNW HR8
              go_wp2_with fail
              obtain ⟨W10, hW10⟩ : ∃ W10, w9'.setCell ⟨w.heap.size, 1, none⟩ (.slice (some ⟨g9, 0, none⟩) (q6 + 1) c9) = W10 := ⟨_, rfl⟩
              rw [hW10] at HM10 ⊢
              have HJ : Hid ((L7 ++ [Ds.new f])[q6]? = some (Ds.new f)) := Lib.hid (by
                have hl := HM7.out.doc.len
                rw [List.getElem?_append_right (by omega), hl, Nat.sub_self]
                rfl)
              have HNK : Hid (((L7 ++ [Ds.new f]).map Ds.s).Nodup) := Lib.hid (by
                rw [List.map_append, List.nodup_append]
                refine ⟨HNK7.out.1, by simp, fun a ha b hb e => ?_⟩
                obtain ⟨d, hd, rfl⟩ := List.mem_map.1 ha
                have hb' : b = f.s := by simpa [Ds.new] using hb
                exact HNK7.out.2 d hd (e.trans hb'))
              have HPT10 : Hid (Tb.put r (L.map Ds.ms) f = if (Ds.new f).ms.err f ≠ 0 then ⟨(Ds.new f).ms.err f, L.map Ds.ms, .no⟩ else .ok (Tb.came (((L7 ++ [Ds.new f]).map Ds.ms).set q6 ((Ds.new f).ms.push f)) f.s ev7 old7)) := Lib.hid (by
                rw [HPT.out, if_neg (show ¬ (Ds.new f).ms.err f ≠ 0 from fun h => h HER0.out), List.map_append, List.set_append_right _ _ (by rw [List.length_map]; exact Nat.le_of_eq HM7.out.doc.len), List.length_map, HM7.out.doc.len, Nat.sub_self]
                rfl)
              have HDS : Hid ((Ds.new f).s = f.s) := Lib.hid rfl
              have hn10 : q6 + 1 ≤ 17 := by omega
              obtain ⟨A10, hA10⟩ : ∃ A10, (some ⟨g9, 0, none⟩ : Option Addr) = A10 := ⟨_, rfl⟩
              obtain ⟨n10, hn10e⟩ : ∃ n10, q6 + 1 = n10 := ⟨_, rfl⟩
              rw [hA10, hn10e] at HM10
              rw [hn10e] at hn10
              have HSR10 : Hid (SrcL Src (L7 ++ [Ds.new f])) := Lib.hid fun d hd g hg => by
                rcases List.mem_append.1 hd with hd | hd
                · exact HSR7.out d hd g hg
                · rw [List.mem_singleton.1 hd] at hg
                  cases hg
              obtain ⟨L10, hL10⟩ : ∃ L10, L7 ++ [Ds.new f] = L10 := ⟨_, rfl⟩
              rw [hL10] at HSR10
              rw [hL10] at HM10 HJ HNK HPT10
              obtain ⟨d10, hd10⟩ : ∃ d10, Ds.new f = d10 := ⟨_, rfl⟩
              rw [hd10] at HJ HPT10 HDS
              obtain ⟨cp10, hcp10⟩ : ∃ cp10, c9 = cp10 := ⟨_, rfl⟩
              rw [hcp10] at HM10
              obtain ⟨j10, hj10⟩ : ∃ j10, q6 = j10 := ⟨_, rfl⟩
              rw [hj10] at HJ HPT10 ⊢
              obtain ⟨ev10, hev10⟩ : ∃ ev10, ev7 = ev10 := ⟨_, rfl⟩
              obtain ⟨old10, hold10⟩ : ∃ old10, old7 = old10 := ⟨_, rfl⟩
              rw [hev10, hold10] at HM10 HPT10
              clear hev10 hold10 hW10 hA10 hn10e hL10 hd10 hcp10 hj10 y1 y2 y3 y4 HPT HNK7 HER0 HM7 KN hi hz0 hz1 hz2
              obtain ⟨b, off, rfl, hblt, -⟩ := HM10.out.doc.six HJ.out
              have hjn : j10 < n10 := by
                rw [← HM10.out.doc.len]
                exact (List.getElem?_eq_some_iff.1 HJ.out).1
              have hjn' : (j10 : Int) < (n10 : Int) := by omega
              have hncp : (n10 : Int) ≤ (cp10 : Int) := by have := HM10.out.doc.room; omega
              have hs10 : w.heap.size + 4 ≤ W10.heap.size := by
                have h1 := HM10.out.lo
                have h2 := (Array.getElem?_eq_some_iff.1 HM10.out.was).1
                omega
              have LT : ∀ V, Below W10.heap.size W10 V → (Instr.loadAt 32 (.pointer (some ⟨w.heap.size, 1, none⟩))).run Tryz.prog V = .ok (.slice (some ⟨b, off, none⟩) n10 cp10) V := fun V hV => by
                obtain ⟨d0, d1⟩ := doc_cells (HM10.out.later hV).t
                simp [Instr.loadAt, go_sem, d1]
              have LS : ∀ V, Below W10.heap.size W10 V → (Instr.loadAt 84 (.pointer (some ⟨b, off + j10 * 6, none⟩))).run Tryz.prog V = .ok (.agg #[.int .i64 d10.v, .int .i64 d10.k, .int .u32 d10.s, .int .i64 0, .int .i64 d10.c, .slice d10.A d10.n d10.cp]) V := fun V hV => by
                obtain ⟨b', off', e', _, a0, a1, a2, a3, a4, a5⟩ := (HM10.out.later hV).doc.six HJ.out
                injection e' with e'
                injection e' with e1 e2
                subst e1 e2
                simp [Instr.loadAt, go_sem, a0, a1, a2, a3, a4, a5]
              have LF : ∀ V, Below W10.heap.size W10 V → (Instr.loadAt 52 (.pointer (some ⟨w.heap.size + 1, 0, none⟩))).run Tryz.prog V = .ok (.agg #[.int .i64 f.v, .int .i64 f.k, .int .u32 f.s, .int .i64 f.i, .int .i64 f.c, .slice f.a f.zs.length f.cp]) V := fun V hV => by
                obtain ⟨d0, d1, d2, d3, d4, d5⟩ := fr_block (v := f.v) (k := f.k) (s := f.s) (i := f.i) (c := f.c) (HM10.out.later hV).f
                simp [Instr.loadAt, go_sem, d0, d1, d2, d3, d4, d5]
              obtain ⟨er, her⟩ : ∃ er, d10.ms.err f = er := ⟨_, rfl⟩
              rw [her] at HPT10
              have HER := Lib.hid her
              have KR : Hid (∀ V, Below W10.heap.size W10 V → Calls Tryz.prog 44 #[.agg #[.int .i64 d10.v, .int .i64 d10.k, .int .u32 d10.s, .int .i64 0, .int .i64 d10.c, .slice d10.A d10.n d10.cp], .agg #[.int .i64 f.v, .int .i64 f.k, .int .u32 f.s, .int .i64 f.i, .int .i64 f.c, .slice f.a f.zs.length f.cp]] V fun e w' => ∃ u, e = .returned u ∧ FPt W10.heap.size d10 f er 90 u w' ∧ Below V.heap.size V w') := Lib.hid fun V hV => by
                have hr := ((HM10.out.later hV).doc.at' d10 (List.mem_of_getElem? HJ.out)).ref
                have hfa : f.At V V.heap.size := by
                  have h1 := (HM10.out.later hV).below
                  exact (HF.out.below h1).mono h1.size
                refine (rput_any d10.v d10.k d10.s hr f hfa hfl).mono fun e w' h2 => ?_
                rw [show sErr d10.v d10.k d10.s d10.c f.v f.k f.s f.i f.c (d10.gs.map Fr.ct) f.zs = er from HER.out] at h2
                obtain ⟨A2, n2, cp2, he, hr2, hb⟩ := rput_nx hr h2
                exact ⟨_, he, ⟨A2, n2, cp2, rfl, hr2⟩, hb⟩
              clear her hblt
              refine wp_region_FG 121 8 [false, false, false, false, false, false, false, false, false, true, false] [90, 83, 91, 12] (FPt W10.heap.size d10 f er) (fun V => Below W10.heap.size W10 V) (fun xs V V' => ∃ g A2 n2 cp2, xs 12 = .pointer (some ⟨g, 0, none⟩) ∧ W10.heap.size ≤ g ∧ V.heap[g]? = some (.cells (frC 0 0 0 0 0 (.slice none 0 0)) 84 (0, 0)) ∧ RefAt V d10.c A2 n2 cp2 (nxF d10.gs f er) ∧ V' = V.setRow g (frC d10.v d10.k d10.s 0 d10.c (.slice A2 n2 cp2))) (by kernel_rfl) (by kernel_rfl) (by rfl) (by kernel_rfl) (by rfl) (by simp) (fun W W' h hb => h.trans (hb.mono h.size)) (fun q x W W' h hb => h.later hb) (Below.refl _ _).drew ?_
              refine wpFG_step (wpF_pure rfl rfl ?_)
              go_big_quiet_step (fail)
              refine wpQuiet_nil ?_
              simp only [wpF]
              refine wpFG_step (wpF_load _ rfl (by rfl) (by rfl) (by rfl) LT ?_)
              simp only [wpF, Act.put, List.setIfInBounds_toArray, List.set_cons_succ, List.set_cons_zero]
              refine wpFG_step (wpF_pure rfl rfl ?_)
              go_big_quiet_step (fail)
              refine wpQuiet_nil ?_
              simp only [wpF]
              refine wpFG_step (wpF_pure rfl rfl ?_)
              go_big_quiet_step (fail)
              refine wpQuiet_nil ?_
              simp only [wpF]
              refine wpFG_step (wpF_load _ rfl (by rfl) (by rfl) (by rfl) LS ?_)
              simp only [wpF, Act.put, List.setIfInBounds_toArray, List.set_cons_succ, List.set_cons_zero]
              refine wpFG_step (wpF_load _ rfl (by rfl) (by rfl) (by rfl) LF ?_)
              simp only [wpF, Act.put, List.setIfInBounds_toArray, List.set_cons_succ, List.set_cons_zero]
              refine wpFG_step (wpF_callsrc 90 (f := 44) (args := #[.agg #[.int .i64 d10.v, .int .i64 d10.k, .int .u32 d10.s, .int .i64 0, .int .i64 d10.c, .slice d10.A d10.n d10.cp], .agg #[.int .i64 f.v, .int .i64 f.k, .int .u32 f.s, .int .i64 f.i, .int .i64 f.c, .slice f.a f.zs.length f.cp]]) (by simp) rfl rfl rfl (fun x => by first | rfl | (simp [go_sem]; done)) KR.out ?_)
              simp only [wpF, Act.put, List.setIfInBounds_toArray, List.set_cons_succ, List.set_cons_zero]
              refine wpFG_step (wpF_mix 83 [90] (by simp) rfl (by kernel_rfl) (by kernel_rfl) (fun xs => by rfl) (fun xs V hV hx => ⟨xs 90, V, by simp [execOp, fill, Act.put, Act.eval, go_sem], hx 90 (by simp), Below.refl _ _⟩) ?_)
              simp only [wpF, Act.put, List.setIfInBounds_toArray, List.set_cons_succ, List.set_cons_zero]
              refine wpFG_step (wpF_mix 91 [83] (by simp) rfl (by kernel_rfl) (by kernel_rfl) (fun xs => by rfl) (fun xs V hV hx => ?_) ?_)
              · obtain ⟨A2, n2, cp2, e58, hr2⟩ := (show ∃ A2 n2 cp2, xs 83 = .tuple #[frV d10.v d10.k d10.s 0 d10.c (.slice A2 n2 cp2), .int .i64 er] ∧ RefAt V d10.c A2 n2 cp2 (nxF d10.gs f er) from hx 83 (by simp))
                exact ⟨frV d10.v d10.k d10.s 0 d10.c (.slice A2 n2 cp2), V, by simp [execOp, fill, Act.put, Act.eval, e58, go_sem], ⟨A2, n2, cp2, rfl, hr2⟩, Below.refl _ _⟩
              simp only [wpF, Act.put, List.setIfInBounds_toArray, List.set_cons_succ, List.set_cons_zero]
              refine wpFG_use 83 7 (.int .i64 er) (by simp) (by rfl) (by kernel_rfl) (by kernel_rfl) (by rfl) (fun x => by rfl) (fun x V hx V' => ?_) ?_
              · obtain ⟨A2, n2, cp2, e58, hr2⟩ := (show ∃ A2 n2 cp2, x = .tuple #[frV d10.v d10.k d10.s 0 d10.c (.slice A2 n2 cp2), .int .i64 er] ∧ RefAt V d10.c A2 n2 cp2 (nxF d10.gs f er) from hx)
                simp [execOp, Act.put, Act.eval, e58, go_sem]
              simp only [Act.put, List.setIfInBounds_toArray, List.set_cons_succ, List.set_cons_zero]
              refine wpFG_step (wpF_src 12 (by simp) rfl (by kernel_rfl) (by kernel_rfl) (fun V hV => ⟨.pointer (some ⟨V.heap.size, 0, none⟩), V.alloc (.cells (frC 0 0 0 0 0 (.slice none 0 0)) 84), ?_, ⟨_, rfl, hV.size, World.alloc_heap_new _ _⟩, (Below.refl _ _).alloc (Nat.le_refl _) _⟩) ?_)
              · have hzz : (zeroValue 84).run Tryz.prog V = .ok (frV 0 0 0 0 0 (.slice none 0 0)) V := by kernel_rfl
                simp [execOp, go_sem, hzz]
                try rfl
              simp only [wpF, Act.put, List.setIfInBounds_toArray, List.set_cons_succ, List.set_cons_zero]
              refine wpFG_storeX rfl rfl rfl (fun xs V hV hx => ?_) ?_
              · obtain ⟨g', e12, hg', hcg⟩ := (show ∃ g, xs 12 = .pointer (some ⟨g, 0, none⟩) ∧ W10.heap.size ≤ g ∧ V.heap[g]? = some (.cells (frC 0 0 0 0 0 (.slice none 0 0)) 84 (0, 0)) from hx 12 (by simp))
                obtain ⟨A2, n2, cp2, e63, hr2⟩ := (show ∃ A2 n2 cp2, xs 91 = frV d10.v d10.k d10.s 0 d10.c (.slice A2 n2 cp2) ∧ RefAt V d10.c A2 n2 cp2 (nxF d10.gs f er) from hx 91 (by simp))
                refine ⟨_, ?_, g', A2, n2, cp2, e12, hg', hcg, hr2, rfl⟩
                simp only [fill, Act.put, List.setIfInBounds_toArray, List.set_cons_succ, List.set_cons_zero, e12, e63]
                exact fs_store V g' _ _ hcg rfl rfl (fs_one _ _ _ _ _ _ _ _)
              refine wpFGn_pure (wpFS_pure rfl rfl ?_)
              go_big_quiet_step (fail)
              refine wpQuiet_nil ?_
              simp only [wpFS]
              rintro xs V V' hV hx ⟨g', A2, n2, cp2, e12, hg', hcg, hr2, rfl⟩
              simp only [fill, Act.put, List.setIfInBounds_toArray, List.set_cons_succ, List.set_cons_zero, e12]
              have hof : Off (fun q => q = g') V (V.setRow g' (frC d10.v d10.k d10.s 0 d10.c (.slice A2 n2 cp2))) := Off.setRow (S := fun q => q = g') (Off.refl _ V) rfl _
              have hvf := hV.trans (hof.below (fun q hq => by omega) hV.size)
              have hrf := hr2.off hof (fun q cs t fz hq hs => by
                subst hs
                rw [hcg] at hq
                injection hq with hq
                injection hq with h1 h2 h3
                exact ⟨_, _, _, _, _, _, _, _, h1.symm, h2.symm⟩)
              have hxg := setRow_heap V g' _ (frC d10.v d10.k d10.s 0 d10.c (.slice A2 n2 cp2)) _ _ hcg
              clear hof hcg hr2 LT LS LF KR
              generalize (V.setRow g' (frC d10.v d10.k d10.s 0 d10.c (.slice A2 n2 cp2))) = Wf at hvf hrf hxg ⊢
              have hmf := HM10.out.later hvf
              have HMF := Lib.hid hmf
              have hsf : w.heap.size + 4 ≤ Wf.heap.size := by have := hvf.size; omega
              generalize xs 90 = x90
              generalize xs 83 = x83
              generalize xs 91 = x91
              clear hx
              by_cases he0 : er = 0
              · subst he0
                have hnx : nxF d10.gs f 0 = d10.gs ++ [f] := if_pos rfl
                rw [hnx] at hrf
                have hd0 := HMF.out.doc.at' d10 (List.mem_of_getElem? HJ.out)
                have hdp : Ds.At Wf ⟨d10.v, d10.k, d10.s, d10.c, A2, n2, cp2, d10.gs ++ [f]⟩ := ⟨hrf, hd0.num, hd0.good⟩
                have hms : Ds.ms ⟨d10.v, d10.k, d10.s, d10.c, A2, n2, cp2, d10.gs ++ [f]⟩ = d10.ms.push f := by simp [Ds.ms, Tb.Ms.push]
                obtain ⟨dp, hdpe⟩ : ∃ dp : Ds, (⟨d10.v, d10.k, d10.s, d10.c, A2, n2, cp2, d10.gs ++ [f]⟩ : Ds) = dp := ⟨_, rfl⟩
                have hdc : dp.cs = #[.int .i64 d10.v, .int .i64 d10.k, .int .u32 d10.s, .int .i64 0, .int .i64 d10.c, .slice A2 n2 cp2] := by rw [← hdpe]; rfl
                have hdp5 : dp.v = d10.v ∧ dp.k = d10.k ∧ dp.s = d10.s ∧ dp.c = d10.c ∧ dp.A = A2 ∧ dp.n = n2 ∧ dp.cp = cp2 := by rw [← hdpe]; exact ⟨rfl, rfl, rfl, rfl, rfl, rfl, rfl⟩
                have HSRP : Hid (SrcL Src (L10.set j10 dp)) := Lib.hid fun d hd g hg => by
                  rcases List.mem_or_eq_of_mem_set hd with h1 | h1
                  · exact HSR10.out d h1 g hg
                  · rw [h1, ← hdpe] at hg
                    rcases List.mem_append.1 hg with h2 | h2
                    · exact HSR10.out d10 (List.mem_of_getElem? HJ.out) g h2
                    · rw [List.mem_singleton.1 h2]; exact HSF.out
                rw [hdpe] at hdp hms
                obtain ⟨z0, hi, hz0, hz1, hz2⟩ := info_parts dsInfo
                obtain ⟨v22, W22, hr22, ho22, hb22⟩ := append_docs (P := Tryz.prog) 32 32 84 z0 _ Tryz.underlying32 hi hz0 hz1 hz2 rfl Wf.heap.size Wf.heap.size (by rw [World.size_alloc]; omega) (World.ownsRow_made Wf #[] 0 (Nat.le_refl _) (by unfold maxLen; omega) rfl) (HMF.out.later ((Below.refl _ Wf).alloc (Nat.le_refl _) (.cells #[] 84))).doc
                obtain ⟨g22, c22, rfl, hc22⟩ : ∃ g c, v22 = .slice (some ⟨g, 0, none⟩) n10 c ∧ n10 ≤ c := by
                  rcases ho22.2 with ⟨_, h0⟩ | ⟨g, cap, cur, hv, _, _, hle, _⟩
                  · omega
                  · exact ⟨g, cap, hv, hle⟩
                have hbf2 : Below Wf.heap.size Wf W22 := ((Below.refl _ Wf).alloc (Nat.le_refl _) _).trans (hb22.mono (by rw [World.size_alloc]; omega))
                obtain ⟨y1, y2, y3, hth, hkp, hdp3, hm23⟩ := HMF.out.setAt (dp := dp) hbf2 ho22 hjn (by omega) hdp
                have d1 := (doc_cells (HMF.out.later ((Below.refl _ Wf).alloc (Nat.le_refl _) (.cells #[] 84))).t).2
                have hgp : g' ≠ w.heap.size := by omega
                obtain ⟨hx22, hx23⟩ := hkp g' _ hxg hgp
                have hncc : (n10 : Int) ≤ (c22 : Int) := by omega
                obtain ⟨W23, hW23⟩ : ∃ W23, (W22.setCell ⟨w.heap.size, 1, none⟩ (.slice (some ⟨g22, 0, none⟩) n10 c22)).setCells g22 (j10 * 6) dp.cs.toList = W23 := ⟨_, rfl⟩
                rw [hW23] at hm23 hdp3 hx23
                rw [hdc] at hW23
                have HW23 := Lib.hid hW23
                obtain ⟨m0, m1, m2, m3, m4, m5⟩ := fr_block hx22
                obtain ⟨l0, l1, l2, l3, l4, l5⟩ := fr_block hx23
                have HM23 := Lib.hid hm23
                have HDP3 := Lib.hid hdp3
                have HMS := Lib.hid hms
                have HP5 := Lib.hid hdp5
                have KFU := fun V : World => rfull_any (w := V) d10.v d10.k d10.s 0 (c := d10.c) (A := A2) (n := n2) (cp := cp2) hd0.pos.1
                have HNN := Lib.hid hrf.len
                unfold frV frC at KFU
                have HX23 := Lib.hid hx23
                rw [hdc] at hth
                have HTH := Lib.hid hth
                have HR22 := Lib.hid hr22
                have HDC := Lib.hid hdc
                clear hnx hrf hd0 hdp hms hdpe ho22 hb22 hbf2 hm23 hdp3 hx22 hx23 hkp hdp5 hmf hxg hvf hi hz0 hz1 hz2 hth hr22 hdc hW23
                go_wp2_with (first
                  | (at_builtin; refine wpList_appendU (v1 := .slice (some ⟨Wf.heap.size, 0, none⟩) 0 0) (v2 := .slice (some ⟨b, off, none⟩) n10 cp10) rfl (.tmp 98) (.tmp 100) 32 rfl rfl rfl HR22.out ?_)
                  | (refine wpList_store_mid rfl 84 (.tmp 107) (.tmp 106) rfl g22 (j10 * 6) #[.int .i64 d10.v, .int .i64 d10.k, .int .u32 d10.s, .int .i64 0, .int .i64 d10.c, .slice A2 n2 cp2] rfl rfl HTH.out ssInfo (by simp [Value.oneCell']) ?_; rw [HW23.out]))
                refine (KFU W23).mono ?_
                rintro e W24 ⟨rfl, hb24⟩
                have hm24 := HM23.out.later hb24
                have hs24 : w.heap.size + 4 ≤ W24.heap.size := by
                  have h1 := hm24.lo
                  have h2 := (Array.getElem?_eq_some_iff.1 hm24.was).1
                  omega
                have HL24 : Hid (dp.ms.C.length = n2) := Lib.hid (by
                  show (List.map Fr.ct dp.gs).length = n2
                  rw [List.length_map, ← HP5.out.2.2.2.2.2.1]
                  exact HDP3.out.ref.len)
                have hput := HPT10.out
                rw [if_neg (by simp), ← HMS.out, ← List.map_set] at hput
                have HNK2 : Hid ((Tb.nums ((L10.set j10 dp).map Ds.ms)).Nodup) := Lib.hid (by
                  have e : Tb.nums ((L10.set j10 dp).map Ds.ms) = L10.map Ds.s := by
                    unfold Tb.nums
                    rw [List.map_map, List.map_set]
                    apply List.ext_getElem?
                    intro i
                    rw [List.getElem?_set, List.getElem?_map, List.getElem?_map, List.length_map]
                    by_cases hij : j10 = i
                    · subst hij
                      rw [if_pos rfl, if_pos (by rw [HM10.out.doc.len]; exact hjn), HJ.out]
                      show some dp.s = some d10.s
                      rw [HP5.out.2.2.1]
                    · rw [if_neg hij]
                      rfl
                  rw [e]
                  exact HNK.out)
                have HFD : Hid (Tb.find ((L10.set j10 dp).map Ds.ms) f.s = some dp.ms) := Lib.hid (by
                  have h := Tb.find_of (x := dp.ms) HNK2.out (List.mem_map.2 ⟨dp, List.mem_set (by rw [HM10.out.doc.len]; exact hjn) dp, rfl⟩)
                  rwa [show dp.ms.s = f.s from HP5.out.2.2.1.trans HDS.out] at h)
                by_cases hfull : (n2 : Int) = d10.c
                · have hfl' : ((n2 : Int) == d10.c) = true := by simpa using hfull
                  rw [Tb.came_full HFD.out (by rw [HL24.out]; show (n2 : Int) = dp.c; rw [HP5.out.2.2.2.1]; exact hfull), HL24.out] at hput
                  have hx24 := row_keep HX23.out hb24
                  obtain ⟨l0, l1, l2, l3, l4, l5⟩ := fr_block hx24
                  have hra := (HDP3.out.below hb24).ref
                  rw [HP5.out.2.2.2.1, HP5.out.2.2.2.2.1, HP5.out.2.2.2.2.2.1, HP5.out.2.2.2.2.2.2, ← hfull] at hra
                  have KBY := rbytes_any d10.v d10.k d10.s 0 hra
                  rw [hfull] at KBY
                  unfold frV frC at KBY
                  have hdr : Tb.drop ((L10.set j10 dp).map Ds.ms) f.s = ((L10.set j10 dp).filter fun d => d.s != f.s).map Ds.ms := by
                    unfold Tb.drop
                    rw [List.filter_map]
                    rfl
                  rw [hdr] at hput
                  have HPZ := Lib.hid hput
                  have HM24 := Lib.hid hm24
                  have HFU := Lib.hid hfull
                  clear hm24 hput hb24 hfull hra hdr hx24 m0 m1 m2 m3 m4 m5 y1 y2 y3 d1
                  go_wp2_with fail
                  refine KBY.mono ?_
                  rintro e W25 ⟨u25, rfl, hmk⟩
                  obtain ⟨Ab, cb, rfl, hcb, hnb⟩ := hmk.slice
                  have hnew25 : ∀ p, Ab = some p → w.heap.size ≤ p.block := fun p hp => by
                    have h1 := (hmk.1.lt p.block (by rw [hp]; rfl)).1
                    omega
                  have hm25 := HM24.out.later hmk.2
                  obtain ⟨zs, hzs⟩ : ∃ zs, Sl.cat (dp.gs.map Fr.ct) n2 = zs := ⟨_, rfl⟩
                  have hzs' : Sl.cat dp.ms.C n2 = zs := hzs
                  rw [hzs] at hcb hnb ⊢
                  rw [hzs'] at HPZ
                  obtain ⟨u0, u1, u2, u3, hez⟩ := hm25.told (q := zs.length) rfl hnb hcb hnew25
                  obtain ⟨d0, d1⟩ := doc_cells hez.t
                  obtain ⟨e0, e1, e2, e3, e4, e5⟩ := fr_block (v := f.v) (k := f.k) (s := f.s) (i := f.i) (c := f.c) hez.f
                  have KDR := ddrop_any hez.doc r f.s
                  unfold docV at KDR
                  have HEZ0 := Lib.hid hez
                  clear hez hm25 hnb hmk hzs hzs' KBY l0 l1 l2 l3 l4 l5 e0 e1 e3 e4 e5
                  go_wp2_with fail
                  refine KDR.mono ?_
                  rintro e W27 ⟨hb27, A27, c27, rfl, hd27⟩
                  obtain ⟨q27, hq27⟩ : ∃ q, ((L10.set j10 dp).filter fun d => d.s != f.s).length = q := ⟨_, rfl⟩
                  rw [hq27] at hd27 ⊢
                  have hez27 := HEZ0.out.later hb27
                  have x0 := hez27.t
                  have hgone := hez27.gone hd27
                  have HEZ := Lib.hid hgone
                  have HSZ : Hid (w.heap.size + 4 ≤ (W27.setRow w.heap.size #[.int .i64 (r : Int), .slice A27 q27 c27]).heap.size) := Lib.hid (by
                    have h1 := hgone.lo
                    have h2 := (Array.getElem?_eq_some_iff.1 hgone.out).1
                    omega)
                  clear hgone hez27 hd27 hb27 KDR HEZ0 u0 u1 u2 u3 d0 d1 e2 hq27
                  unfold docV
                  go_wp2_with (refine wpList_store_row rfl 34 (.tmp 2) (.tmp 118) rfl w.heap.size #[.int .i64 (r : Int), .slice A27 q27 c27] rfl rfl 34 _ x0 stInfo rfl (by simp [Value.oneCell']) ?_)
                  obtain ⟨Wz, hWz⟩ : ∃ Wz, W27.setRow w.heap.size #[.int .i64 (r : Int), .slice A27 q27 c27] = Wz := ⟨_, rfl⟩
                  obtain ⟨Az, hAz⟩ : ∃ Az, A27 = Az := ⟨_, rfl⟩
                  obtain ⟨nz, hnz⟩ : ∃ nz, q27 = nz := ⟨_, rfl⟩
                  obtain ⟨cz, hcz⟩ : ∃ cz, c27 = cz := ⟨_, rfl⟩
                  obtain ⟨Lz, hLz⟩ : ∃ Lz, ((L10.set j10 dp).filter fun d => d.s != f.s) = Lz := ⟨_, rfl⟩
                  have HSRZ : Hid (SrcL Src Lz) := Lib.hid (by rw [← hLz]; exact fun d hd => HSRP.out d (List.mem_filter.1 hd).1)
                  obtain ⟨Abz, hAbz⟩ : ∃ Abz, Ab = Abz := ⟨_, rfl⟩
                  obtain ⟨cbz, hcbz⟩ : ∃ cbz, cb = cbz := ⟨_, rfl⟩
                  obtain ⟨zsz, hzsz⟩ : ∃ zsz, zs = zsz := ⟨_, rfl⟩
                  obtain ⟨whz, hwhz⟩ : ∃ whz, true = whz := ⟨_, rfl⟩
                  have HEZ : Hid (De w r f (pw + 1) Az nz cz Lz Abz cbz zsz whz ev10 old10 Wz) := Lib.hid (by rw [← hWz, ← hAz, ← hnz, ← hcz, ← hLz, ← hAbz, ← hcbz, ← hzsz, ← hwhz]; exact HEZ.out)
                  have HPZ : Hid (Tb.put r (L.map Ds.ms) f = ⟨0, Lz.map Ds.ms, ⟨zsz, whz, ev10, old10⟩⟩) := Lib.hid (by rw [← hLz, ← hzsz, ← hwhz]; exact HPZ.out)
                  have HSZ : Hid (w.heap.size + 4 ≤ Wz.heap.size) := Lib.hid (by rw [← hWz]; exact HSZ.out)
                  rw [hWz]
                  clear hWz hAz hnz hcz hLz hAbz hcbz hzsz hwhz x0
                  have hloz := HEZ.out.lo
                  refine wp_region_order6 (0 :: 1 :: 2 :: 3 :: 4 :: []) (fun V => V.heap[pw + 1]? = some (.cells #[.slice Abz zsz.length cbz, .bool whz, .bool ev10, .int .u32 old10] 47 (0, 0)) ∧ V.heap[w.heap.size]? = some (.cells #[.int .i64 (r : Int), .slice Az nz cz] 34 (0, 0)))
                    (C := fun V => Below Wz.heap.size Wz V ∧ ∃ k, V = Wz.drewN k) (by kernel_rfl) (by kernel_rfl) ⟨(Below.refl _ _).drew, 1, rfl⟩ (fun V hV => ⟨(HEZ.out.later hV.1).out, (HEZ.out.later hV.1).t⟩) ?_
                  refine wpO6_load (ad := ⟨w.heap.size, 0, none⟩) (.agg #[.int .i64 (r : Int), .slice Az nz cz]) rfl rfl rfl (by rfl) (fun V hV => ?_) ?_
                  · obtain ⟨d0, d1⟩ := doc_cells hV.2
                    simp [Instr.loadAt, go_sem, d0, d1]
                  simp only [Act.put, List.setIfInBounds_toArray, List.set_cons_succ, List.set_cons_zero]
                  refine wpO6_load (ad := ⟨pw + 1, 0, none⟩) (.agg #[.slice Abz zsz.length cbz, .bool whz, .bool ev10, .int .u32 old10]) rfl rfl rfl (by rfl) (fun V hV => ?_) ?_
                  · obtain ⟨k0, k1, k2, k3⟩ := out_block hV.1
                    simp [Instr.loadAt, go_sem, k0, k1, k2, k3]
                  simp only [Act.put, List.setIfInBounds_toArray, List.set_cons_succ, List.set_cons_zero]
                  refine wpO6_store (fun V' => ∃ k, V' = (Wz.drewN k).setRow (w.heap.size + 2) #[.int .i64 (r : Int), .slice Az nz cz]) rfl rfl rfl rfl ⟨w.heap.size + 2, 0, none⟩ (.agg #[.int .i64 (r : Int), .slice Az nz cz]) (by rfl) (by rfl) ?_ (fun V hV => ?_) ?_
                  · rintro V' ⟨k, rfl⟩
                    exact ⟨(setRow_other _ _ _ _ (by omega)).trans HEZ.out.out, (setRow_other _ _ _ _ (by omega)).trans HEZ.out.t⟩
                  · obtain ⟨_, k, rfl⟩ := hV
                    exact ⟨_, run_storeVar_rowT HEZ.out.rt, k, rfl⟩
                  refine wpO6_store (fun V' => ∃ k, V' = ((Wz.drewN k).setRow (w.heap.size + 2) #[.int .i64 (r : Int), .slice Az nz cz]).setRow (w.heap.size + 3) (outC Abz zsz.length cbz whz ev10 old10)) rfl rfl rfl rfl ⟨w.heap.size + 3, 0, none⟩ (.agg (outC Abz zsz.length cbz whz ev10 old10)) (by rfl) (by rfl) ?_ ?_ ?_
                  · rintro V' ⟨k, rfl⟩
                    exact ⟨(setRow_other _ _ _ _ (by omega)).trans ((setRow_other _ _ _ _ (by omega)).trans HEZ.out.out), (setRow_other _ _ _ _ (by omega)).trans ((setRow_other _ _ _ _ (by omega)).trans HEZ.out.t)⟩
                  · rintro V' ⟨k, rfl⟩
                    exact ⟨_, run_storeVar_rowO ((setRow_other _ _ _ _ (by omega)).trans HEZ.out.ro), k, rfl⟩
                  refine wpO6_pure rfl rfl ?_
                  go_big_quiet_step (fail)
                  refine wpQuiet_nil ?_
                  rintro w27 ⟨k, rfl⟩
                  have hez := HEZ.out.later (below_drewN (Below.refl _ _) k)
                  obtain ⟨x3, c0, c1, o0, o1, o2, o3, HFIN⟩ := HFin.out (Wz.drewN k) Az nz cz Lz Abz cbz ⟨0, Lz.map Ds.ms, ⟨zsz, whz, ev10, old10⟩⟩ HSRZ.out HSZ.out hez.rt hez.ro hez.below HPZ.out hez.doc rfl hez.room hez.nums hez.new
                  have HG := Lib.hid HFIN
                  clear HFIN x3 hez
                  go_wp2_with fail
                  refine bodyPost_ret (by simp [results, Tryz.results23, go_sem, c0, c1, o0, o1, o2, o3]; try rfl) rfl ?_
                  exact HG.out
                · have hfl' : ((n2 : Int) == d10.c) = false := by simpa using hfull
                  rw [Tb.came_part HFD.out (by rw [HL24.out]; show (n2 : Int) ≠ dp.c; rw [HP5.out.2.2.2.1]; exact hfull)] at hput
                  have HEZ := Lib.hid hm24.part
                  have HPZ := Lib.hid hput
                  have HSZ := Lib.hid hs24
                  clear hm24 hput hb24 hfull m0 m1 m2 m3 m4 m5 l0 l1 l2 l3 l4 l5 y1 y2 y3 d1
                  go_wp2_with fail
                  obtain ⟨Wz, hWz⟩ : ∃ Wz, W24 = Wz := ⟨_, rfl⟩
                  obtain ⟨Az, hAz⟩ : ∃ Az, (some ⟨g22, 0, none⟩ : Option Addr) = Az := ⟨_, rfl⟩
                  obtain ⟨nz, hnz⟩ : ∃ nz, n10 = nz := ⟨_, rfl⟩
                  obtain ⟨cz, hcz⟩ : ∃ cz, c22 = cz := ⟨_, rfl⟩
                  obtain ⟨Lz, hLz⟩ : ∃ Lz, L10.set j10 dp = Lz := ⟨_, rfl⟩
                  have HSRZ : Hid (SrcL Src Lz) := Lib.hid (by rw [← hLz]; exact HSRP.out)
                  obtain ⟨Abz, hAbz⟩ : ∃ Abz, (none : Option Addr) = Abz := ⟨_, rfl⟩
                  obtain ⟨cbz, hcbz⟩ : ∃ cbz, 0 = cbz := ⟨_, rfl⟩
                  obtain ⟨zsz, hzsz⟩ : ∃ zsz, ([] : List Int) = zsz := ⟨_, rfl⟩
                  obtain ⟨whz, hwhz⟩ : ∃ whz, false = whz := ⟨_, rfl⟩
                  have HEZ : Hid (De w r f (pw + 1) Az nz cz Lz Abz cbz zsz whz ev10 old10 Wz) := Lib.hid (by rw [← hWz, ← hAz, ← hnz, ← hcz, ← hLz, ← hAbz, ← hcbz, ← hzsz, ← hwhz]; exact HEZ.out)
                  have HPZ : Hid (Tb.put r (L.map Ds.ms) f = ⟨0, Lz.map Ds.ms, ⟨zsz, whz, ev10, old10⟩⟩) := Lib.hid (by rw [← hLz, ← hzsz, ← hwhz]; exact HPZ.out)
                  have HSZ : Hid (w.heap.size + 4 ≤ Wz.heap.size) := Lib.hid (by rw [← hWz]; exact HSZ.out)
                  rw [hWz]
                  clear hWz hAz hnz hcz hLz hAbz hcbz hzsz hwhz
                  have hloz := HEZ.out.lo
                  refine wp_region_order6 (0 :: 1 :: 2 :: 3 :: 4 :: []) (fun V => V.heap[pw + 1]? = some (.cells #[.slice Abz zsz.length cbz, .bool whz, .bool ev10, .int .u32 old10] 47 (0, 0)) ∧ V.heap[w.heap.size]? = some (.cells #[.int .i64 (r : Int), .slice Az nz cz] 34 (0, 0)))
                    (C := fun V => Below Wz.heap.size Wz V ∧ ∃ k, V = Wz.drewN k) (by kernel_rfl) (by kernel_rfl) ⟨(Below.refl _ _).drew, 1, rfl⟩ (fun V hV => ⟨(HEZ.out.later hV.1).out, (HEZ.out.later hV.1).t⟩) ?_
                  refine wpO6_load (ad := ⟨w.heap.size, 0, none⟩) (.agg #[.int .i64 (r : Int), .slice Az nz cz]) rfl rfl rfl (by rfl) (fun V hV => ?_) ?_
                  · obtain ⟨d0, d1⟩ := doc_cells hV.2
                    simp [Instr.loadAt, go_sem, d0, d1]
                  simp only [Act.put, List.setIfInBounds_toArray, List.set_cons_succ, List.set_cons_zero]
                  refine wpO6_load (ad := ⟨pw + 1, 0, none⟩) (.agg #[.slice Abz zsz.length cbz, .bool whz, .bool ev10, .int .u32 old10]) rfl rfl rfl (by rfl) (fun V hV => ?_) ?_
                  · obtain ⟨k0, k1, k2, k3⟩ := out_block hV.1
                    simp [Instr.loadAt, go_sem, k0, k1, k2, k3]
                  simp only [Act.put, List.setIfInBounds_toArray, List.set_cons_succ, List.set_cons_zero]
                  refine wpO6_store (fun V' => ∃ k, V' = (Wz.drewN k).setRow (w.heap.size + 2) #[.int .i64 (r : Int), .slice Az nz cz]) rfl rfl rfl rfl ⟨w.heap.size + 2, 0, none⟩ (.agg #[.int .i64 (r : Int), .slice Az nz cz]) (by rfl) (by rfl) ?_ (fun V hV => ?_) ?_
                  · rintro V' ⟨k, rfl⟩
                    exact ⟨(setRow_other _ _ _ _ (by omega)).trans HEZ.out.out, (setRow_other _ _ _ _ (by omega)).trans HEZ.out.t⟩
                  · obtain ⟨_, k, rfl⟩ := hV
                    exact ⟨_, run_storeVar_rowT HEZ.out.rt, k, rfl⟩
                  refine wpO6_store (fun V' => ∃ k, V' = ((Wz.drewN k).setRow (w.heap.size + 2) #[.int .i64 (r : Int), .slice Az nz cz]).setRow (w.heap.size + 3) (outC Abz zsz.length cbz whz ev10 old10)) rfl rfl rfl rfl ⟨w.heap.size + 3, 0, none⟩ (.agg (outC Abz zsz.length cbz whz ev10 old10)) (by rfl) (by rfl) ?_ ?_ ?_
                  · rintro V' ⟨k, rfl⟩
                    exact ⟨(setRow_other _ _ _ _ (by omega)).trans ((setRow_other _ _ _ _ (by omega)).trans HEZ.out.out), (setRow_other _ _ _ _ (by omega)).trans ((setRow_other _ _ _ _ (by omega)).trans HEZ.out.t)⟩
                  · rintro V' ⟨k, rfl⟩
                    exact ⟨_, run_storeVar_rowO ((setRow_other _ _ _ _ (by omega)).trans HEZ.out.ro), k, rfl⟩
                  refine wpO6_pure rfl rfl ?_
                  go_big_quiet_step (fail)
                  refine wpQuiet_nil ?_
                  rintro w27 ⟨k, rfl⟩
                  have hez := HEZ.out.later (below_drewN (Below.refl _ _) k)
                  obtain ⟨x3, c0, c1, o0, o1, o2, o3, HFIN⟩ := HFin.out (Wz.drewN k) Az nz cz Lz Abz cbz ⟨0, Lz.map Ds.ms, ⟨zsz, whz, ev10, old10⟩⟩ HSRZ.out HSZ.out hez.rt hez.ro hez.below HPZ.out hez.doc rfl hez.room hez.nums hez.new
                  have HG := Lib.hid HFIN
                  clear HFIN x3 hez
                  go_wp2_with fail
                  refine bodyPost_ret (by simp [results, Tryz.results23, go_sem, c0, c1, o0, o1, o2, o3]; try rfl) rfl ?_
                  exact HG.out
              · have he' : (er != 0) = true := by simpa using he0
                have hput := HPT10.out
                rw [if_pos he0] at hput
                obtain ⟨x3, c0, c1, o0, o1, o2, o3, HFIN⟩ := HBad2.out er Wf hsf hmf.rt hmf.ro hmf.below hput
                have x2 := hmf.rt
                obtain ⟨d0, d1⟩ := doc_cells hmf.was
                have HG := Lib.hid HFIN
                clear HFIN hput hmf hxg hrf hvf
                go_wp2_with (first
                  | refine wpList_store_row rfl 34 (.tmp 4) (.tmp 95) rfl (w.heap.size + 2) #[.int .i64 (r : Int), .slice A n cp] rfl rfl 34 _ x2 stInfo rfl (by simp [Value.oneCell']) ?_
                  | refine wpList_store_row rfl 47 (.tmp 5) (.tmp 96) rfl (w.heap.size + 3) (outC none 0 0 false false 0) rfl rfl 47 _ x3 soInfo rfl (out_one _ _ _ _ _ _) ?_)
                refine bodyPost_ret (by simp [results, Tryz.results23, go_sem, c0, c1, o0, o1, o2, o3]; try rfl) rfl ?_
                exact HG.out
          · have hnrb : ((n : Int) == (r : Int)) = false := by simp; omega
            rw [if_neg hnr] at HPT
            have HNK7 : Hid ((L.map Ds.s).Nodup ∧ ∀ d ∈ L, d.s ≠ f.s) := Lib.hid ⟨HK.out, HNO.out⟩
            have hl7 : n ≤ 16 := by omega
            clear hm4 hb4 hnr
            go_wp2_with fail
            obtain ⟨ev7, hev7⟩ : ∃ ev7, false = ev7 := ⟨_, rfl⟩
            obtain ⟨old7, hold7⟩ : ∃ old7, (0 : Int) = old7 := ⟨_, rfl⟩
            obtain ⟨W7, hW7⟩ : ∃ W7, w4 = W7 := ⟨_, rfl⟩
            obtain ⟨L7, hL7⟩ : ∃ L7, L = L7 := ⟨_, rfl⟩
            obtain ⟨q6, hq6⟩ : ∃ q6, n = q6 := ⟨_, rfl⟩
            obtain ⟨A6, hA6⟩ : ∃ A6, A = A6 := ⟨_, rfl⟩
            obtain ⟨c6, hc6⟩ : ∃ c6, cp = c6 := ⟨_, rfl⟩
            have HM7 : Hid (Dm w r A n cp f pw (pw + 1) A6 q6 c6 L7 ev7 old7 W7) := Lib.hid (by rw [← hev7, ← hold7, ← hW7, ← hL7, ← hq6, ← hA6, ← hc6]; exact HM4.out)
            have HPT : Hid (Tb.put r (L.map Ds.ms) f = .ok (Tb.came (L7.map Ds.ms ++ [(Tb.Ms.new f).push f]) f.s ev7 old7)) := Lib.hid (by rw [← hev7, ← hold7, ← hL7]; exact HPT.out)
            have HSR7 : Hid (SrcL Src L7) := Lib.hid (by rw [← hL7]; exact HSR.out)
            rw [hL7] at HNK7
            rw [hq6] at hl7
            rw [hW7]
            clear hev7 hold7 hW7 hL7 hq6 hA6 hc6 HM4 HM3
            have h7t := HM7.out.t
            have L1 : ∀ V, Below W7.heap.size W7 V → (Instr.loadAt 32 (.pointer (some ⟨w.heap.size, 1, none⟩))).run Tryz.prog V = .ok (.slice A6 q6 c6) V := fun V hV => by
              obtain ⟨d0, d1⟩ := doc_cells (HM7.out.later hV).t
              simp [Instr.loadAt, go_sem, d1]
            have L2 : ∀ V, Below W7.heap.size W7 V → (Instr.loadAt 50 (.pointer (some ⟨w.heap.size + 1, 0, none⟩))).run Tryz.prog V = .ok (.agg #[.int .i64 f.v, .int .i64 f.k, .int .u32 f.s, .int .i64 f.i, .int .i64 f.c]) V := fun V hV => by
              obtain ⟨d0, d1, d2, d3, d4, d5⟩ := fr_block (v := f.v) (k := f.k) (s := f.s) (i := f.i) (c := f.c) (HM7.out.later hV).f
              simp [Instr.loadAt, go_sem, d0, d1, d2, d3, d4]
            have KN : Hid (∀ V, Below W7.heap.size W7 V → Calls Tryz.prog 43 #[.agg #[.int .i64 f.v, .int .i64 f.k, .int .u32 f.s, .int .i64 f.i, .int .i64 f.c]] V fun e w' => e = .returned (.agg #[.int .i64 f.v, .int .i64 f.k, .int .u32 f.s, .int .i64 0, .int .i64 f.c, .slice none 0 0]) ∧ Below V.heap.size V w') := Lib.hid fun V _ => rnew_any13 f.v f.k f.s f.i f.c V
            have hs7 : w.heap.size + 4 ≤ W7.heap.size := by
              have h1 := HM7.out.lo
              have h2 := (Array.getElem?_eq_some_iff.1 HM7.out.was).1
              omega
            obtain ⟨z0, hi, hz0, hz1, hz2⟩ := info_parts dsInfo
            clear h7t
            refine wp_region_FT 121 8 [69, 72, 76] (FDoc W7.heap.size q6 L7 (Ds.new f)) (fun V => Below W7.heap.size W7 V) (by kernel_rfl) (by kernel_rfl) (by rfl) (by kernel_rfl) (by kernel_rfl) (by kernel_rfl) (by rfl) (by simp) (fun W W' h hb => h.trans (hb.mono h.size)) (fun q x W W' h hb => h.later hb) (Below.refl _ _).drew ?_
            simp only [List.take_succ_cons, List.take_zero, List.drop_succ_cons, List.drop_zero]
            refine wpF_src 69 (by simp) rfl rfl rfl (fun W hW => ⟨.slice (some ⟨W.heap.size, 0, none⟩) 0 0, W.alloc (.cells #[] 84), ?_, ?_, (Below.refl _ _).alloc (Nat.le_refl _) _⟩) ?_
            · simp [go_sem]
            · unfold FDoc
              rw [if_pos rfl]
              exact ⟨_, rfl, World.ownsRow_made W #[] 0 hW.size (by unfold maxLen; omega) rfl⟩
            simp only [Act.put, List.setIfInBounds_toArray, List.set_cons_succ, List.set_cons_zero]
            repeat (refine wpF_pure rfl rfl ?_; go_big_quiet_step (fail); refine wpQuiet_nil ?_)
            refine wpF_load _ rfl (by rfl) (by rfl) (by rfl) L1 ?_
            simp only [Act.put, List.setIfInBounds_toArray, List.set_cons_succ, List.set_cons_zero]
            refine wpF_mix 72 [69] (by simp) rfl (by kernel_rfl) (by kernel_rfl) (fun xs => by rfl) (fun xs W hW hx => ?_) ?_
            · have h69 := hx 69 (by simp)
              unfold FDoc at h69
              rw [if_pos rfl] at h69
              obtain ⟨g, e69, ho69⟩ := h69
              obtain ⟨v', W', hr, ho, hbl⟩ := append_docs (P := Tryz.prog) 32 32 84 z0 _ Tryz.underlying32 hi hz0 hz1 hz2 rfl W7.heap.size g hW.size ho69 (HM7.out.doc.below hW)
              refine ⟨v', W', ?_, ?_, hbl⟩
              · exact exec_appendU (.tmp 69) (.tmp 71) 32 rfl (by simp [fill, Act.put, Act.eval, e69]) (by simp [fill, Act.put, Act.eval]) hr
              · unfold FDoc
                rw [if_neg (by decide), if_pos rfl]
                exact ho
            simp only [Act.put, List.setIfInBounds_toArray, List.set_cons_succ, List.set_cons_zero]
            repeat (refine wpF_pure rfl rfl ?_; go_big_quiet_step (fail); refine wpQuiet_nil ?_)
            refine wpF_load _ rfl (by rfl) (by rfl) (by rfl) L2 ?_
            simp only [Act.put, List.setIfInBounds_toArray, List.set_cons_succ, List.set_cons_zero]
            refine wpF_call (f := 43) (args := #[.agg #[.int .i64 f.v, .int .i64 f.k, .int .u32 f.s, .int .i64 f.i, .int .i64 f.c]]) (.agg #[.int .i64 f.v, .int .i64 f.k, .int .u32 f.s, .int .i64 0, .int .i64 f.c, .slice none 0 0]) rfl rfl (fun x => by first | rfl | (simp [go_sem]; done)) KN.out ?_
            simp only [Act.put, List.setIfInBounds_toArray, List.set_cons_succ, List.set_cons_zero]
            refine wpF_src 76 (by simp) rfl rfl rfl (fun W hW => ⟨.slice (some ⟨W.heap.size, 0, none⟩) 1 1, W.alloc (.cells (Ds.new f).cs 84), ?_, ?_, (Below.refl _ _).alloc (Nat.le_refl _) _⟩) ?_
            · simp [go_sem, Ds.cs, Ds.new, frC]
            · unfold FDoc
              rw [if_neg (by decide), if_neg (by decide)]
              exact ⟨_, rfl, World.alloc_heap_new _ _⟩
            simp only [Act.put, List.setIfInBounds_toArray, List.set_cons_succ, List.set_cons_zero]
            intro xs8 w8 hb8 hx
            have h72 := hx 72 (by simp)
            have h76 := hx 76 (by simp)
            unfold FDoc at h72 h76
            rw [if_neg (by decide), if_pos rfl] at h72
            rw [if_neg (by decide), if_neg (by decide)] at h76
            obtain ⟨g8, e76, hg8⟩ := h76
            simp only [fill, Act.put, List.setIfInBounds_toArray, List.set_cons_succ, List.set_cons_zero]
            rw [e76]
            generalize xs8 69 = x69
            generalize xs8 72 = x72 at *
            have hs8 : W7.heap.size ≤ w8.heap.size := hb8.size
            have HNW : Hid (∀ (q : Nat) (u : Value), [Value.int .i64 f.v, .int .i64 f.k, .int .u32 f.s, .int .i64 0, .int .i64 f.c, .slice none 0 0][q]? = some u → w8.cell? ((⟨g8, 0, none⟩ : Addr).add q) = some u) := Lib.hid fun q u hq => by
              rw [Addr.add_lit, Nat.zero_add]
              simp only [World.cell?, hg8]
              simpa [Ds.cs, Ds.new, frC] using hq
            have HR8 := Lib.hid h72
            have HX1 : Hid (q6 + 1 ≤ maxLen) := by show _ ≤ _; unfold maxLen; omega
            have HX2 : Hid ((q6 + 1) * 64 ≤ 140737488355328) := by show _ ≤ _; omega
            have HB8 := Lib.hid hb8
            clear hx e76 hg8 h72 L1 L2 hb8
            refine wpList_append_lies _ rfl (.tmp 72) (.tmp 76) 32 rfl W7.heap.size 84 z0 _ 6 64 Tryz.underlying32 hi hz0 hz1 hz2 rfl (by decide) x72 q6 (flatD L7) rfl HR8.out ⟨g8, 0, none⟩ 1 1 [Value.int .i64 f.v, .int .i64 f.k, .int .u32 f.s, .int .i64 0, .int .i64 f.c, .slice none 0 0] rfl rfl HNW.out (by simp [Value.oneCell']) (by decide) HX1.out HX2.out hs8 _ rfl ?_
            intro g9 c9 w9' hown9 hgr9 hat9 hlt9
            have hb9 : Below W7.heap.size W7 w9' := HB8.out.grown hgr9 hs8 (fun g hg => (HR8.out.lt g hg).1)
            obtain ⟨y1, y2, hm10⟩ := HM7.out.list (L2 := L7 ++ [Ds.new f]) hb9 (by rw [flatD_push]; exact hown9) (by rw [List.length_append, HM7.out.doc.len]; rfl) (fun d hd => by
              rcases List.mem_append.1 hd with h | h
              · exact .inl h
              · rw [List.mem_singleton.1 h]
                exact .inr fun W => Ds.new_at W HC.out ⟨hpos, hmax⟩) (by omega)
            have HM10 := Lib.hid hm10
            obtain ⟨y3, y4⟩ := doc_cells hm10.t
            clear hm10 hown9 hgr9 hat9 hlt9 hb9 HX1 HX2 HNW HR8
            go_wp2_with fail
            obtain ⟨W10, hW10⟩ : ∃ W10, w9'.setCell ⟨w.heap.size, 1, none⟩ (.slice (some ⟨g9, 0, none⟩) (q6 + 1) c9) = W10 := ⟨_, rfl⟩
            rw [hW10] at HM10 ⊢
            have HJ : Hid ((L7 ++ [Ds.new f])[q6]? = some (Ds.new f)) := Lib.hid (by
              have hl := HM7.out.doc.len
              rw [List.getElem?_append_right (by omega), hl, Nat.sub_self]
              rfl)
            have HNK : Hid (((L7 ++ [Ds.new f]).map Ds.s).Nodup) := Lib.hid (by
              rw [List.map_append, List.nodup_append]
              refine ⟨HNK7.out.1, by simp, fun a ha b hb e => ?_⟩
              obtain ⟨d, hd, rfl⟩ := List.mem_map.1 ha
              have hb' : b = f.s := by simpa [Ds.new] using hb
              exact HNK7.out.2 d hd (e.trans hb'))
            have HPT10 : Hid (Tb.put r (L.map Ds.ms) f = if (Ds.new f).ms.err f ≠ 0 then ⟨(Ds.new f).ms.err f, L.map Ds.ms, .no⟩ else .ok (Tb.came (((L7 ++ [Ds.new f]).map Ds.ms).set q6 ((Ds.new f).ms.push f)) f.s ev7 old7)) := Lib.hid (by
              rw [HPT.out, if_neg (show ¬ (Ds.new f).ms.err f ≠ 0 from fun h => h HER0.out), List.map_append, List.set_append_right _ _ (by rw [List.length_map]; exact Nat.le_of_eq HM7.out.doc.len), List.length_map, HM7.out.doc.len, Nat.sub_self]
              rfl)
            have HDS : Hid ((Ds.new f).s = f.s) := Lib.hid rfl
            have hn10 : q6 + 1 ≤ 17 := by omega
            obtain ⟨A10, hA10⟩ : ∃ A10, (some ⟨g9, 0, none⟩ : Option Addr) = A10 := ⟨_, rfl⟩
            obtain ⟨n10, hn10e⟩ : ∃ n10, q6 + 1 = n10 := ⟨_, rfl⟩
            rw [hA10, hn10e] at HM10
            rw [hn10e] at hn10
            have HSR10 : Hid (SrcL Src (L7 ++ [Ds.new f])) := Lib.hid fun d hd g hg => by
              rcases List.mem_append.1 hd with hd | hd
              · exact HSR7.out d hd g hg
              · rw [List.mem_singleton.1 hd] at hg
                cases hg
            obtain ⟨L10, hL10⟩ : ∃ L10, L7 ++ [Ds.new f] = L10 := ⟨_, rfl⟩
            rw [hL10] at HSR10
            rw [hL10] at HM10 HJ HNK HPT10
            obtain ⟨d10, hd10⟩ : ∃ d10, Ds.new f = d10 := ⟨_, rfl⟩
            rw [hd10] at HJ HPT10 HDS
            obtain ⟨cp10, hcp10⟩ : ∃ cp10, c9 = cp10 := ⟨_, rfl⟩
            rw [hcp10] at HM10
            obtain ⟨j10, hj10⟩ : ∃ j10, q6 = j10 := ⟨_, rfl⟩
            rw [hj10] at HJ HPT10 ⊢
            obtain ⟨ev10, hev10⟩ : ∃ ev10, ev7 = ev10 := ⟨_, rfl⟩
            obtain ⟨old10, hold10⟩ : ∃ old10, old7 = old10 := ⟨_, rfl⟩
            rw [hev10, hold10] at HM10 HPT10
            clear hev10 hold10 hW10 hA10 hn10e hL10 hd10 hcp10 hj10 y1 y2 y3 y4 HPT HNK7 HER0 HM7 KN hi hz0 hz1 hz2
            obtain ⟨b, off, rfl, hblt, -⟩ := HM10.out.doc.six HJ.out
            have hjn : j10 < n10 := by
              rw [← HM10.out.doc.len]
              exact (List.getElem?_eq_some_iff.1 HJ.out).1
            have hjn' : (j10 : Int) < (n10 : Int) := by omega
            have hncp : (n10 : Int) ≤ (cp10 : Int) := by have := HM10.out.doc.room; omega
            have hs10 : w.heap.size + 4 ≤ W10.heap.size := by
              have h1 := HM10.out.lo
              have h2 := (Array.getElem?_eq_some_iff.1 HM10.out.was).1
              omega
            have LT : ∀ V, Below W10.heap.size W10 V → (Instr.loadAt 32 (.pointer (some ⟨w.heap.size, 1, none⟩))).run Tryz.prog V = .ok (.slice (some ⟨b, off, none⟩) n10 cp10) V := fun V hV => by
              obtain ⟨d0, d1⟩ := doc_cells (HM10.out.later hV).t
              simp [Instr.loadAt, go_sem, d1]
            have LS : ∀ V, Below W10.heap.size W10 V → (Instr.loadAt 84 (.pointer (some ⟨b, off + j10 * 6, none⟩))).run Tryz.prog V = .ok (.agg #[.int .i64 d10.v, .int .i64 d10.k, .int .u32 d10.s, .int .i64 0, .int .i64 d10.c, .slice d10.A d10.n d10.cp]) V := fun V hV => by
              obtain ⟨b', off', e', _, a0, a1, a2, a3, a4, a5⟩ := (HM10.out.later hV).doc.six HJ.out
              injection e' with e'
              injection e' with e1 e2
              subst e1 e2
              simp [Instr.loadAt, go_sem, a0, a1, a2, a3, a4, a5]
            have LF : ∀ V, Below W10.heap.size W10 V → (Instr.loadAt 52 (.pointer (some ⟨w.heap.size + 1, 0, none⟩))).run Tryz.prog V = .ok (.agg #[.int .i64 f.v, .int .i64 f.k, .int .u32 f.s, .int .i64 f.i, .int .i64 f.c, .slice f.a f.zs.length f.cp]) V := fun V hV => by
              obtain ⟨d0, d1, d2, d3, d4, d5⟩ := fr_block (v := f.v) (k := f.k) (s := f.s) (i := f.i) (c := f.c) (HM10.out.later hV).f
              simp [Instr.loadAt, go_sem, d0, d1, d2, d3, d4, d5]
            obtain ⟨er, her⟩ : ∃ er, d10.ms.err f = er := ⟨_, rfl⟩
            rw [her] at HPT10
            have HER := Lib.hid her
            have KR : Hid (∀ V, Below W10.heap.size W10 V → Calls Tryz.prog 44 #[.agg #[.int .i64 d10.v, .int .i64 d10.k, .int .u32 d10.s, .int .i64 0, .int .i64 d10.c, .slice d10.A d10.n d10.cp], .agg #[.int .i64 f.v, .int .i64 f.k, .int .u32 f.s, .int .i64 f.i, .int .i64 f.c, .slice f.a f.zs.length f.cp]] V fun e w' => ∃ u, e = .returned u ∧ FPt W10.heap.size d10 f er 90 u w' ∧ Below V.heap.size V w') := Lib.hid fun V hV => by
              have hr := ((HM10.out.later hV).doc.at' d10 (List.mem_of_getElem? HJ.out)).ref
              have hfa : f.At V V.heap.size := by
                have h1 := (HM10.out.later hV).below
                exact (HF.out.below h1).mono h1.size
              refine (rput_any d10.v d10.k d10.s hr f hfa hfl).mono fun e w' h2 => ?_
              rw [show sErr d10.v d10.k d10.s d10.c f.v f.k f.s f.i f.c (d10.gs.map Fr.ct) f.zs = er from HER.out] at h2
              obtain ⟨A2, n2, cp2, he, hr2, hb⟩ := rput_nx hr h2
              exact ⟨_, he, ⟨A2, n2, cp2, rfl, hr2⟩, hb⟩
            clear her hblt
            refine wp_region_FG 121 8 [false, false, false, false, false, false, false, false, false, true, false] [90, 83, 91, 12] (FPt W10.heap.size d10 f er) (fun V => Below W10.heap.size W10 V) (fun xs V V' => ∃ g A2 n2 cp2, xs 12 = .pointer (some ⟨g, 0, none⟩) ∧ W10.heap.size ≤ g ∧ V.heap[g]? = some (.cells (frC 0 0 0 0 0 (.slice none 0 0)) 84 (0, 0)) ∧ RefAt V d10.c A2 n2 cp2 (nxF d10.gs f er) ∧ V' = V.setRow g (frC d10.v d10.k d10.s 0 d10.c (.slice A2 n2 cp2))) (by kernel_rfl) (by kernel_rfl) (by rfl) (by kernel_rfl) (by rfl) (by simp) (fun W W' h hb => h.trans (hb.mono h.size)) (fun q x W W' h hb => h.later hb) (Below.refl _ _).drew ?_
            refine wpFG_step (wpF_pure rfl rfl ?_)
            go_big_quiet_step (fail)
            refine wpQuiet_nil ?_
            simp only [wpF]
            refine wpFG_step (wpF_load _ rfl (by rfl) (by rfl) (by rfl) LT ?_)
            simp only [wpF, Act.put, List.setIfInBounds_toArray, List.set_cons_succ, List.set_cons_zero]
            refine wpFG_step (wpF_pure rfl rfl ?_)
            go_big_quiet_step (fail)
            refine wpQuiet_nil ?_
            simp only [wpF]
            refine wpFG_step (wpF_pure rfl rfl ?_)
            go_big_quiet_step (fail)
            refine wpQuiet_nil ?_
            simp only [wpF]
            refine wpFG_step (wpF_load _ rfl (by rfl) (by rfl) (by rfl) LS ?_)
            simp only [wpF, Act.put, List.setIfInBounds_toArray, List.set_cons_succ, List.set_cons_zero]
            refine wpFG_step (wpF_load _ rfl (by rfl) (by rfl) (by rfl) LF ?_)
            simp only [wpF, Act.put, List.setIfInBounds_toArray, List.set_cons_succ, List.set_cons_zero]
            refine wpFG_step (wpF_callsrc 90 (f := 44) (args := #[.agg #[.int .i64 d10.v, .int .i64 d10.k, .int .u32 d10.s, .int .i64 0, .int .i64 d10.c, .slice d10.A d10.n d10.cp], .agg #[.int .i64 f.v, .int .i64 f.k, .int .u32 f.s, .int .i64 f.i, .int .i64 f.c, .slice f.a f.zs.length f.cp]]) (by simp) rfl rfl rfl (fun x => by first | rfl | (simp [go_sem]; done)) KR.out ?_)
            simp only [wpF, Act.put, List.setIfInBounds_toArray, List.set_cons_succ, List.set_cons_zero]
            refine wpFG_step (wpF_mix 83 [90] (by simp) rfl (by kernel_rfl) (by kernel_rfl) (fun xs => by rfl) (fun xs V hV hx => ⟨xs 90, V, by simp [execOp, fill, Act.put, Act.eval, go_sem], hx 90 (by simp), Below.refl _ _⟩) ?_)
            simp only [wpF, Act.put, List.setIfInBounds_toArray, List.set_cons_succ, List.set_cons_zero]
            refine wpFG_step (wpF_mix 91 [83] (by simp) rfl (by kernel_rfl) (by kernel_rfl) (fun xs => by rfl) (fun xs V hV hx => ?_) ?_)
            · obtain ⟨A2, n2, cp2, e58, hr2⟩ := (show ∃ A2 n2 cp2, xs 83 = .tuple #[frV d10.v d10.k d10.s 0 d10.c (.slice A2 n2 cp2), .int .i64 er] ∧ RefAt V d10.c A2 n2 cp2 (nxF d10.gs f er) from hx 83 (by simp))
              exact ⟨frV d10.v d10.k d10.s 0 d10.c (.slice A2 n2 cp2), V, by simp [execOp, fill, Act.put, Act.eval, e58, go_sem], ⟨A2, n2, cp2, rfl, hr2⟩, Below.refl _ _⟩
            simp only [wpF, Act.put, List.setIfInBounds_toArray, List.set_cons_succ, List.set_cons_zero]
            refine wpFG_use 83 7 (.int .i64 er) (by simp) (by rfl) (by kernel_rfl) (by kernel_rfl) (by rfl) (fun x => by rfl) (fun x V hx V' => ?_) ?_
            · obtain ⟨A2, n2, cp2, e58, hr2⟩ := (show ∃ A2 n2 cp2, x = .tuple #[frV d10.v d10.k d10.s 0 d10.c (.slice A2 n2 cp2), .int .i64 er] ∧ RefAt V d10.c A2 n2 cp2 (nxF d10.gs f er) from hx)
              simp [execOp, Act.put, Act.eval, e58, go_sem]
            simp only [Act.put, List.setIfInBounds_toArray, List.set_cons_succ, List.set_cons_zero]
            refine wpFG_step (wpF_src 12 (by simp) rfl (by kernel_rfl) (by kernel_rfl) (fun V hV => ⟨.pointer (some ⟨V.heap.size, 0, none⟩), V.alloc (.cells (frC 0 0 0 0 0 (.slice none 0 0)) 84), ?_, ⟨_, rfl, hV.size, World.alloc_heap_new _ _⟩, (Below.refl _ _).alloc (Nat.le_refl _) _⟩) ?_)
            · have hzz : (zeroValue 84).run Tryz.prog V = .ok (frV 0 0 0 0 0 (.slice none 0 0)) V := by kernel_rfl
              simp [execOp, go_sem, hzz]
              try rfl
            simp only [wpF, Act.put, List.setIfInBounds_toArray, List.set_cons_succ, List.set_cons_zero]
            refine wpFG_storeX rfl rfl rfl (fun xs V hV hx => ?_) ?_
            · obtain ⟨g', e12, hg', hcg⟩ := (show ∃ g, xs 12 = .pointer (some ⟨g, 0, none⟩) ∧ W10.heap.size ≤ g ∧ V.heap[g]? = some (.cells (frC 0 0 0 0 0 (.slice none 0 0)) 84 (0, 0)) from hx 12 (by simp))
              obtain ⟨A2, n2, cp2, e63, hr2⟩ := (show ∃ A2 n2 cp2, xs 91 = frV d10.v d10.k d10.s 0 d10.c (.slice A2 n2 cp2) ∧ RefAt V d10.c A2 n2 cp2 (nxF d10.gs f er) from hx 91 (by simp))
              refine ⟨_, ?_, g', A2, n2, cp2, e12, hg', hcg, hr2, rfl⟩
              simp only [fill, Act.put, List.setIfInBounds_toArray, List.set_cons_succ, List.set_cons_zero, e12, e63]
              exact fs_store V g' _ _ hcg rfl rfl (fs_one _ _ _ _ _ _ _ _)
            refine wpFGn_pure (wpFS_pure rfl rfl ?_)
            go_big_quiet_step (fail)
            refine wpQuiet_nil ?_
            simp only [wpFS]
            rintro xs V V' hV hx ⟨g', A2, n2, cp2, e12, hg', hcg, hr2, rfl⟩
            simp only [fill, Act.put, List.setIfInBounds_toArray, List.set_cons_succ, List.set_cons_zero, e12]
            have hof : Off (fun q => q = g') V (V.setRow g' (frC d10.v d10.k d10.s 0 d10.c (.slice A2 n2 cp2))) := Off.setRow (S := fun q => q = g') (Off.refl _ V) rfl _
            have hvf := hV.trans (hof.below (fun q hq => by omega) hV.size)
            have hrf := hr2.off hof (fun q cs t fz hq hs => by
              subst hs
              rw [hcg] at hq
              injection hq with hq
              injection hq with h1 h2 h3
              exact ⟨_, _, _, _, _, _, _, _, h1.symm, h2.symm⟩)
            have hxg := setRow_heap V g' _ (frC d10.v d10.k d10.s 0 d10.c (.slice A2 n2 cp2)) _ _ hcg
            clear hof hcg hr2 LT LS LF KR
            generalize (V.setRow g' (frC d10.v d10.k d10.s 0 d10.c (.slice A2 n2 cp2))) = Wf at hvf hrf hxg ⊢
            have hmf := HM10.out.later hvf
            have HMF := Lib.hid hmf
            have hsf : w.heap.size + 4 ≤ Wf.heap.size := by have := hvf.size; omega
            generalize xs 90 = x90
            generalize xs 83 = x83
            generalize xs 91 = x91
            clear hx
            by_cases he0 : er = 0
            · subst he0
              have hnx : nxF d10.gs f 0 = d10.gs ++ [f] := if_pos rfl
              rw [hnx] at hrf
              have hd0 := HMF.out.doc.at' d10 (List.mem_of_getElem? HJ.out)
              have hdp : Ds.At Wf ⟨d10.v, d10.k, d10.s, d10.c, A2, n2, cp2, d10.gs ++ [f]⟩ := ⟨hrf, hd0.num, hd0.good⟩
              have hms : Ds.ms ⟨d10.v, d10.k, d10.s, d10.c, A2, n2, cp2, d10.gs ++ [f]⟩ = d10.ms.push f := by simp [Ds.ms, Tb.Ms.push]
              obtain ⟨dp, hdpe⟩ : ∃ dp : Ds, (⟨d10.v, d10.k, d10.s, d10.c, A2, n2, cp2, d10.gs ++ [f]⟩ : Ds) = dp := ⟨_, rfl⟩
              have hdc : dp.cs = #[.int .i64 d10.v, .int .i64 d10.k, .int .u32 d10.s, .int .i64 0, .int .i64 d10.c, .slice A2 n2 cp2] := by rw [← hdpe]; rfl
              have hdp5 : dp.v = d10.v ∧ dp.k = d10.k ∧ dp.s = d10.s ∧ dp.c = d10.c ∧ dp.A = A2 ∧ dp.n = n2 ∧ dp.cp = cp2 := by rw [← hdpe]; exact ⟨rfl, rfl, rfl, rfl, rfl, rfl, rfl⟩
              have HSRP : Hid (SrcL Src (L10.set j10 dp)) := Lib.hid fun d hd g hg => by
                rcases List.mem_or_eq_of_mem_set hd with h1 | h1
                · exact HSR10.out d h1 g hg
                · rw [h1, ← hdpe] at hg
                  rcases List.mem_append.1 hg with h2 | h2
                  · exact HSR10.out d10 (List.mem_of_getElem? HJ.out) g h2
                  · rw [List.mem_singleton.1 h2]; exact HSF.out
              rw [hdpe] at hdp hms
              obtain ⟨z0, hi, hz0, hz1, hz2⟩ := info_parts dsInfo
              obtain ⟨v22, W22, hr22, ho22, hb22⟩ := append_docs (P := Tryz.prog) 32 32 84 z0 _ Tryz.underlying32 hi hz0 hz1 hz2 rfl Wf.heap.size Wf.heap.size (by rw [World.size_alloc]; omega) (World.ownsRow_made Wf #[] 0 (Nat.le_refl _) (by unfold maxLen; omega) rfl) (HMF.out.later ((Below.refl _ Wf).alloc (Nat.le_refl _) (.cells #[] 84))).doc
              obtain ⟨g22, c22, rfl, hc22⟩ : ∃ g c, v22 = .slice (some ⟨g, 0, none⟩) n10 c ∧ n10 ≤ c := by
                rcases ho22.2 with ⟨_, h0⟩ | ⟨g, cap, cur, hv, _, _, hle, _⟩
                · omega
                · exact ⟨g, cap, hv, hle⟩
              have hbf2 : Below Wf.heap.size Wf W22 := ((Below.refl _ Wf).alloc (Nat.le_refl _) _).trans (hb22.mono (by rw [World.size_alloc]; omega))
              obtain ⟨y1, y2, y3, hth, hkp, hdp3, hm23⟩ := HMF.out.setAt (dp := dp) hbf2 ho22 hjn (by omega) hdp
              have d1 := (doc_cells (HMF.out.later ((Below.refl _ Wf).alloc (Nat.le_refl _) (.cells #[] 84))).t).2
              have hgp : g' ≠ w.heap.size := by omega
              obtain ⟨hx22, hx23⟩ := hkp g' _ hxg hgp
              have hncc : (n10 : Int) ≤ (c22 : Int) := by omega
              obtain ⟨W23, hW23⟩ : ∃ W23, (W22.setCell ⟨w.heap.size, 1, none⟩ (.slice (some ⟨g22, 0, none⟩) n10 c22)).setCells g22 (j10 * 6) dp.cs.toList = W23 := ⟨_, rfl⟩
              rw [hW23] at hm23 hdp3 hx23
              rw [hdc] at hW23
              have HW23 := Lib.hid hW23
              obtain ⟨m0, m1, m2, m3, m4, m5⟩ := fr_block hx22
              obtain ⟨l0, l1, l2, l3, l4, l5⟩ := fr_block hx23
              have HM23 := Lib.hid hm23
              have HDP3 := Lib.hid hdp3
              have HMS := Lib.hid hms
              have HP5 := Lib.hid hdp5
              have KFU := fun V : World => rfull_any (w := V) d10.v d10.k d10.s 0 (c := d10.c) (A := A2) (n := n2) (cp := cp2) hd0.pos.1
              have HNN := Lib.hid hrf.len
              unfold frV frC at KFU
              have HX23 := Lib.hid hx23
              rw [hdc] at hth
              have HTH := Lib.hid hth
              have HR22 := Lib.hid hr22
              have HDC := Lib.hid hdc
              clear hnx hrf hd0 hdp hms hdpe ho22 hb22 hbf2 hm23 hdp3 hx22 hx23 hkp hdp5 hmf hxg hvf hi hz0 hz1 hz2 hth hr22 hdc hW23
              go_wp2_with (first
                | (at_builtin; refine wpList_appendU (v1 := .slice (some ⟨Wf.heap.size, 0, none⟩) 0 0) (v2 := .slice (some ⟨b, off, none⟩) n10 cp10) rfl (.tmp 98) (.tmp 100) 32 rfl rfl rfl HR22.out ?_)
                | (refine wpList_store_mid rfl 84 (.tmp 107) (.tmp 106) rfl g22 (j10 * 6) #[.int .i64 d10.v, .int .i64 d10.k, .int .u32 d10.s, .int .i64 0, .int .i64 d10.c, .slice A2 n2 cp2] rfl rfl HTH.out ssInfo (by simp [Value.oneCell']) ?_; rw [HW23.out]))
              refine (KFU W23).mono ?_
              rintro e W24 ⟨rfl, hb24⟩
              have hm24 := HM23.out.later hb24
              have hs24 : w.heap.size + 4 ≤ W24.heap.size := by
                have h1 := hm24.lo
                have h2 := (Array.getElem?_eq_some_iff.1 hm24.was).1
                omega
              have HL24 : Hid (dp.ms.C.length = n2) := Lib.hid (by
                show (List.map Fr.ct dp.gs).length = n2
                rw [List.length_map, ← HP5.out.2.2.2.2.2.1]
                exact HDP3.out.ref.len)
              have hput := HPT10.out
              rw [if_neg (by simp), ← HMS.out, ← List.map_set] at hput
              have HNK2 : Hid ((Tb.nums ((L10.set j10 dp).map Ds.ms)).Nodup) := Lib.hid (by
                have e : Tb.nums ((L10.set j10 dp).map Ds.ms) = L10.map Ds.s := by
                  unfold Tb.nums
                  rw [List.map_map, List.map_set]
                  apply List.ext_getElem?
                  intro i
                  rw [List.getElem?_set, List.getElem?_map, List.getElem?_map, List.length_map]
                  by_cases hij : j10 = i
                  · subst hij
                    rw [if_pos rfl, if_pos (by rw [HM10.out.doc.len]; exact hjn), HJ.out]
                    show some dp.s = some d10.s
                    rw [HP5.out.2.2.1]
                  · rw [if_neg hij]
                    rfl
                rw [e]
                exact HNK.out)
              have HFD : Hid (Tb.find ((L10.set j10 dp).map Ds.ms) f.s = some dp.ms) := Lib.hid (by
                have h := Tb.find_of (x := dp.ms) HNK2.out (List.mem_map.2 ⟨dp, List.mem_set (by rw [HM10.out.doc.len]; exact hjn) dp, rfl⟩)
                rwa [show dp.ms.s = f.s from HP5.out.2.2.1.trans HDS.out] at h)
              by_cases hfull : (n2 : Int) = d10.c
              · have hfl' : ((n2 : Int) == d10.c) = true := by simpa using hfull
                rw [Tb.came_full HFD.out (by rw [HL24.out]; show (n2 : Int) = dp.c; rw [HP5.out.2.2.2.1]; exact hfull), HL24.out] at hput
                have hx24 := row_keep HX23.out hb24
                obtain ⟨l0, l1, l2, l3, l4, l5⟩ := fr_block hx24
                have hra := (HDP3.out.below hb24).ref
                rw [HP5.out.2.2.2.1, HP5.out.2.2.2.2.1, HP5.out.2.2.2.2.2.1, HP5.out.2.2.2.2.2.2, ← hfull] at hra
                have KBY := rbytes_any d10.v d10.k d10.s 0 hra
                rw [hfull] at KBY
                unfold frV frC at KBY
                have hdr : Tb.drop ((L10.set j10 dp).map Ds.ms) f.s = ((L10.set j10 dp).filter fun d => d.s != f.s).map Ds.ms := by
                  unfold Tb.drop
                  rw [List.filter_map]
                  rfl
                rw [hdr] at hput
                have HPZ := Lib.hid hput
                have HM24 := Lib.hid hm24
                have HFU := Lib.hid hfull
                clear hm24 hput hb24 hfull hra hdr hx24 m0 m1 m2 m3 m4 m5 y1 y2 y3 d1
                go_wp2_with fail
                refine KBY.mono ?_
                rintro e W25 ⟨u25, rfl, hmk⟩
                obtain ⟨Ab, cb, rfl, hcb, hnb⟩ := hmk.slice
                have hnew25 : ∀ p, Ab = some p → w.heap.size ≤ p.block := fun p hp => by
                  have h1 := (hmk.1.lt p.block (by rw [hp]; rfl)).1
                  omega
                have hm25 := HM24.out.later hmk.2
                obtain ⟨zs, hzs⟩ : ∃ zs, Sl.cat (dp.gs.map Fr.ct) n2 = zs := ⟨_, rfl⟩
                have hzs' : Sl.cat dp.ms.C n2 = zs := hzs
                rw [hzs] at hcb hnb ⊢
                rw [hzs'] at HPZ
                obtain ⟨u0, u1, u2, u3, hez⟩ := hm25.told (q := zs.length) rfl hnb hcb hnew25
                obtain ⟨d0, d1⟩ := doc_cells hez.t
                obtain ⟨e0, e1, e2, e3, e4, e5⟩ := fr_block (v := f.v) (k := f.k) (s := f.s) (i := f.i) (c := f.c) hez.f
                have KDR := ddrop_any hez.doc r f.s
                unfold docV at KDR
                have HEZ0 := Lib.hid hez
                clear hez hm25 hnb hmk hzs hzs' KBY l0 l1 l2 l3 l4 l5 e0 e1 e3 e4 e5
                go_wp2_with fail
                refine KDR.mono ?_
                rintro e W27 ⟨hb27, A27, c27, rfl, hd27⟩
                obtain ⟨q27, hq27⟩ : ∃ q, ((L10.set j10 dp).filter fun d => d.s != f.s).length = q := ⟨_, rfl⟩
                rw [hq27] at hd27 ⊢
                have hez27 := HEZ0.out.later hb27
                have x0 := hez27.t
                have hgone := hez27.gone hd27
                have HEZ := Lib.hid hgone
                have HSZ : Hid (w.heap.size + 4 ≤ (W27.setRow w.heap.size #[.int .i64 (r : Int), .slice A27 q27 c27]).heap.size) := Lib.hid (by
                  have h1 := hgone.lo
                  have h2 := (Array.getElem?_eq_some_iff.1 hgone.out).1
                  omega)
                clear hgone hez27 hd27 hb27 KDR HEZ0 u0 u1 u2 u3 d0 d1 e2 hq27
                unfold docV
                go_wp2_with (refine wpList_store_row rfl 34 (.tmp 2) (.tmp 118) rfl w.heap.size #[.int .i64 (r : Int), .slice A27 q27 c27] rfl rfl 34 _ x0 stInfo rfl (by simp [Value.oneCell']) ?_)
                obtain ⟨Wz, hWz⟩ : ∃ Wz, W27.setRow w.heap.size #[.int .i64 (r : Int), .slice A27 q27 c27] = Wz := ⟨_, rfl⟩
                obtain ⟨Az, hAz⟩ : ∃ Az, A27 = Az := ⟨_, rfl⟩
                obtain ⟨nz, hnz⟩ : ∃ nz, q27 = nz := ⟨_, rfl⟩
                obtain ⟨cz, hcz⟩ : ∃ cz, c27 = cz := ⟨_, rfl⟩
                obtain ⟨Lz, hLz⟩ : ∃ Lz, ((L10.set j10 dp).filter fun d => d.s != f.s) = Lz := ⟨_, rfl⟩
                have HSRZ : Hid (SrcL Src Lz) := Lib.hid (by rw [← hLz]; exact fun d hd => HSRP.out d (List.mem_filter.1 hd).1)
                obtain ⟨Abz, hAbz⟩ : ∃ Abz, Ab = Abz := ⟨_, rfl⟩
                obtain ⟨cbz, hcbz⟩ : ∃ cbz, cb = cbz := ⟨_, rfl⟩
                obtain ⟨zsz, hzsz⟩ : ∃ zsz, zs = zsz := ⟨_, rfl⟩
                obtain ⟨whz, hwhz⟩ : ∃ whz, true = whz := ⟨_, rfl⟩
                have HEZ : Hid (De w r f (pw + 1) Az nz cz Lz Abz cbz zsz whz ev10 old10 Wz) := Lib.hid (by rw [← hWz, ← hAz, ← hnz, ← hcz, ← hLz, ← hAbz, ← hcbz, ← hzsz, ← hwhz]; exact HEZ.out)
                have HPZ : Hid (Tb.put r (L.map Ds.ms) f = ⟨0, Lz.map Ds.ms, ⟨zsz, whz, ev10, old10⟩⟩) := Lib.hid (by rw [← hLz, ← hzsz, ← hwhz]; exact HPZ.out)
                have HSZ : Hid (w.heap.size + 4 ≤ Wz.heap.size) := Lib.hid (by rw [← hWz]; exact HSZ.out)
                rw [hWz]
                clear hWz hAz hnz hcz hLz hAbz hcbz hzsz hwhz x0
                have hloz := HEZ.out.lo
                refine wp_region_order6 (0 :: 1 :: 2 :: 3 :: 4 :: []) (fun V => V.heap[pw + 1]? = some (.cells #[.slice Abz zsz.length cbz, .bool whz, .bool ev10, .int .u32 old10] 47 (0, 0)) ∧ V.heap[w.heap.size]? = some (.cells #[.int .i64 (r : Int), .slice Az nz cz] 34 (0, 0)))
                  (C := fun V => Below Wz.heap.size Wz V ∧ ∃ k, V = Wz.drewN k) (by kernel_rfl) (by kernel_rfl) ⟨(Below.refl _ _).drew, 1, rfl⟩ (fun V hV => ⟨(HEZ.out.later hV.1).out, (HEZ.out.later hV.1).t⟩) ?_
                refine wpO6_load (ad := ⟨w.heap.size, 0, none⟩) (.agg #[.int .i64 (r : Int), .slice Az nz cz]) rfl rfl rfl (by rfl) (fun V hV => ?_) ?_
                · obtain ⟨d0, d1⟩ := doc_cells hV.2
                  simp [Instr.loadAt, go_sem, d0, d1]
                simp only [Act.put, List.setIfInBounds_toArray, List.set_cons_succ, List.set_cons_zero]
                refine wpO6_load (ad := ⟨pw + 1, 0, none⟩) (.agg #[.slice Abz zsz.length cbz, .bool whz, .bool ev10, .int .u32 old10]) rfl rfl rfl (by rfl) (fun V hV => ?_) ?_
                · obtain ⟨k0, k1, k2, k3⟩ := out_block hV.1
                  simp [Instr.loadAt, go_sem, k0, k1, k2, k3]
                simp only [Act.put, List.setIfInBounds_toArray, List.set_cons_succ, List.set_cons_zero]
                refine wpO6_store (fun V' => ∃ k, V' = (Wz.drewN k).setRow (w.heap.size + 2) #[.int .i64 (r : Int), .slice Az nz cz]) rfl rfl rfl rfl ⟨w.heap.size + 2, 0, none⟩ (.agg #[.int .i64 (r : Int), .slice Az nz cz]) (by rfl) (by rfl) ?_ (fun V hV => ?_) ?_
                · rintro V' ⟨k, rfl⟩
                  exact ⟨(setRow_other _ _ _ _ (by omega)).trans HEZ.out.out, (setRow_other _ _ _ _ (by omega)).trans HEZ.out.t⟩
                · obtain ⟨_, k, rfl⟩ := hV
                  exact ⟨_, run_storeVar_rowT HEZ.out.rt, k, rfl⟩
                refine wpO6_store (fun V' => ∃ k, V' = ((Wz.drewN k).setRow (w.heap.size + 2) #[.int .i64 (r : Int), .slice Az nz cz]).setRow (w.heap.size + 3) (outC Abz zsz.length cbz whz ev10 old10)) rfl rfl rfl rfl ⟨w.heap.size + 3, 0, none⟩ (.agg (outC Abz zsz.length cbz whz ev10 old10)) (by rfl) (by rfl) ?_ ?_ ?_
                · rintro V' ⟨k, rfl⟩
                  exact ⟨(setRow_other _ _ _ _ (by omega)).trans ((setRow_other _ _ _ _ (by omega)).trans HEZ.out.out), (setRow_other _ _ _ _ (by omega)).trans ((setRow_other _ _ _ _ (by omega)).trans HEZ.out.t)⟩
                · rintro V' ⟨k, rfl⟩
                  exact ⟨_, run_storeVar_rowO ((setRow_other _ _ _ _ (by omega)).trans HEZ.out.ro), k, rfl⟩
                refine wpO6_pure rfl rfl ?_
                go_big_quiet_step (fail)
                refine wpQuiet_nil ?_
                rintro w27 ⟨k, rfl⟩
                have hez := HEZ.out.later (below_drewN (Below.refl _ _) k)
                obtain ⟨x3, c0, c1, o0, o1, o2, o3, HFIN⟩ := HFin.out (Wz.drewN k) Az nz cz Lz Abz cbz ⟨0, Lz.map Ds.ms, ⟨zsz, whz, ev10, old10⟩⟩ HSRZ.out HSZ.out hez.rt hez.ro hez.below HPZ.out hez.doc rfl hez.room hez.nums hez.new
                have HG := Lib.hid HFIN
                clear HFIN x3 hez
                go_wp2_with fail
                refine bodyPost_ret (by simp [results, Tryz.results23, go_sem, c0, c1, o0, o1, o2, o3]; try rfl) rfl ?_
                exact HG.out
              · have hfl' : ((n2 : Int) == d10.c) = false := by simpa using hfull
                rw [Tb.came_part HFD.out (by rw [HL24.out]; show (n2 : Int) ≠ dp.c; rw [HP5.out.2.2.2.1]; exact hfull)] at hput
                have HEZ := Lib.hid hm24.part
                have HPZ := Lib.hid hput
                have HSZ := Lib.hid hs24
                clear hm24 hput hb24 hfull m0 m1 m2 m3 m4 m5 l0 l1 l2 l3 l4 l5 y1 y2 y3 d1
                go_wp2_with fail
                obtain ⟨Wz, hWz⟩ : ∃ Wz, W24 = Wz := ⟨_, rfl⟩
                obtain ⟨Az, hAz⟩ : ∃ Az, (some ⟨g22, 0, none⟩ : Option Addr) = Az := ⟨_, rfl⟩
                obtain ⟨nz, hnz⟩ : ∃ nz, n10 = nz := ⟨_, rfl⟩
                obtain ⟨cz, hcz⟩ : ∃ cz, c22 = cz := ⟨_, rfl⟩
                obtain ⟨Lz, hLz⟩ : ∃ Lz, L10.set j10 dp = Lz := ⟨_, rfl⟩
                have HSRZ : Hid (SrcL Src Lz) := Lib.hid (by rw [← hLz]; exact HSRP.out)
                obtain ⟨Abz, hAbz⟩ : ∃ Abz, (none : Option Addr) = Abz := ⟨_, rfl⟩
                obtain ⟨cbz, hcbz⟩ : ∃ cbz, 0 = cbz := ⟨_, rfl⟩
                obtain ⟨zsz, hzsz⟩ : ∃ zsz, ([] : List Int) = zsz := ⟨_, rfl⟩
                obtain ⟨whz, hwhz⟩ : ∃ whz, false = whz := ⟨_, rfl⟩
                have HEZ : Hid (De w r f (pw + 1) Az nz cz Lz Abz cbz zsz whz ev10 old10 Wz) := Lib.hid (by rw [← hWz, ← hAz, ← hnz, ← hcz, ← hLz, ← hAbz, ← hcbz, ← hzsz, ← hwhz]; exact HEZ.out)
                have HPZ : Hid (Tb.put r (L.map Ds.ms) f = ⟨0, Lz.map Ds.ms, ⟨zsz, whz, ev10, old10⟩⟩) := Lib.hid (by rw [← hLz, ← hzsz, ← hwhz]; exact HPZ.out)
                have HSZ : Hid (w.heap.size + 4 ≤ Wz.heap.size) := Lib.hid (by rw [← hWz]; exact HSZ.out)
                rw [hWz]
                clear hWz hAz hnz hcz hLz hAbz hcbz hzsz hwhz
                have hloz := HEZ.out.lo
                refine wp_region_order6 (0 :: 1 :: 2 :: 3 :: 4 :: []) (fun V => V.heap[pw + 1]? = some (.cells #[.slice Abz zsz.length cbz, .bool whz, .bool ev10, .int .u32 old10] 47 (0, 0)) ∧ V.heap[w.heap.size]? = some (.cells #[.int .i64 (r : Int), .slice Az nz cz] 34 (0, 0)))
                  (C := fun V => Below Wz.heap.size Wz V ∧ ∃ k, V = Wz.drewN k) (by kernel_rfl) (by kernel_rfl) ⟨(Below.refl _ _).drew, 1, rfl⟩ (fun V hV => ⟨(HEZ.out.later hV.1).out, (HEZ.out.later hV.1).t⟩) ?_
                refine wpO6_load (ad := ⟨w.heap.size, 0, none⟩) (.agg #[.int .i64 (r : Int), .slice Az nz cz]) rfl rfl rfl (by rfl) (fun V hV => ?_) ?_
                · obtain ⟨d0, d1⟩ := doc_cells hV.2
                  simp [Instr.loadAt, go_sem, d0, d1]
                simp only [Act.put, List.setIfInBounds_toArray, List.set_cons_succ, List.set_cons_zero]
                refine wpO6_load (ad := ⟨pw + 1, 0, none⟩) (.agg #[.slice Abz zsz.length cbz, .bool whz, .bool ev10, .int .u32 old10]) rfl rfl rfl (by rfl) (fun V hV => ?_) ?_
                · obtain ⟨k0, k1, k2, k3⟩ := out_block hV.1
                  simp [Instr.loadAt, go_sem, k0, k1, k2, k3]
                simp only [Act.put, List.setIfInBounds_toArray, List.set_cons_succ, List.set_cons_zero]
                refine wpO6_store (fun V' => ∃ k, V' = (Wz.drewN k).setRow (w.heap.size + 2) #[.int .i64 (r : Int), .slice Az nz cz]) rfl rfl rfl rfl ⟨w.heap.size + 2, 0, none⟩ (.agg #[.int .i64 (r : Int), .slice Az nz cz]) (by rfl) (by rfl) ?_ (fun V hV => ?_) ?_
                · rintro V' ⟨k, rfl⟩
                  exact ⟨(setRow_other _ _ _ _ (by omega)).trans HEZ.out.out, (setRow_other _ _ _ _ (by omega)).trans HEZ.out.t⟩
                · obtain ⟨_, k, rfl⟩ := hV
                  exact ⟨_, run_storeVar_rowT HEZ.out.rt, k, rfl⟩
                refine wpO6_store (fun V' => ∃ k, V' = ((Wz.drewN k).setRow (w.heap.size + 2) #[.int .i64 (r : Int), .slice Az nz cz]).setRow (w.heap.size + 3) (outC Abz zsz.length cbz whz ev10 old10)) rfl rfl rfl rfl ⟨w.heap.size + 3, 0, none⟩ (.agg (outC Abz zsz.length cbz whz ev10 old10)) (by rfl) (by rfl) ?_ ?_ ?_
                · rintro V' ⟨k, rfl⟩
                  exact ⟨(setRow_other _ _ _ _ (by omega)).trans ((setRow_other _ _ _ _ (by omega)).trans HEZ.out.out), (setRow_other _ _ _ _ (by omega)).trans ((setRow_other _ _ _ _ (by omega)).trans HEZ.out.t)⟩
                · rintro V' ⟨k, rfl⟩
                  exact ⟨_, run_storeVar_rowO ((setRow_other _ _ _ _ (by omega)).trans HEZ.out.ro), k, rfl⟩
                refine wpO6_pure rfl rfl ?_
                go_big_quiet_step (fail)
                refine wpQuiet_nil ?_
                rintro w27 ⟨k, rfl⟩
                have hez := HEZ.out.later (below_drewN (Below.refl _ _) k)
                obtain ⟨x3, c0, c1, o0, o1, o2, o3, HFIN⟩ := HFin.out (Wz.drewN k) Az nz cz Lz Abz cbz ⟨0, Lz.map Ds.ms, ⟨zsz, whz, ev10, old10⟩⟩ HSRZ.out HSZ.out hez.rt hez.ro hez.below HPZ.out hez.doc rfl hez.room hez.nums hez.new
                have HG := Lib.hid HFIN
                clear HFIN x3 hez
                go_wp2_with fail
                refine bodyPost_ret (by simp [results, Tryz.results23, go_sem, c0, c1, o0, o1, o2, o3]; try rfl) rfl ?_
                exact HG.out
            · have he' : (er != 0) = true := by simpa using he0
              have hput := HPT10.out
              rw [if_pos he0] at hput
              obtain ⟨x3, c0, c1, o0, o1, o2, o3, HFIN⟩ := HBad2.out er Wf hsf hmf.rt hmf.ro hmf.below hput
              have x2 := hmf.rt
              obtain ⟨d0, d1⟩ := doc_cells hmf.was
              have HG := Lib.hid HFIN
              clear HFIN hput hmf hxg hrf hvf
              go_wp2_with (first
                | refine wpList_store_row rfl 34 (.tmp 4) (.tmp 95) rfl (w.heap.size + 2) #[.int .i64 (r : Int), .slice A n cp] rfl rfl 34 _ x2 stInfo rfl (by simp [Value.oneCell']) ?_
                | refine wpList_store_row rfl 47 (.tmp 5) (.tmp 96) rfl (w.heap.size + 3) (outC none 0 0 false false 0) rfl rfl 47 _ x3 soInfo rfl (out_one _ _ _ _ _ _) ?_)
              refine bodyPost_ret (by simp [results, Tryz.results23, go_sem, c0, c1, o0, o1, o2, o3]; try rfl) rfl ?_
              exact HG.out
      · have hzn : f.zs ≠ [] := fun e => HZ.out (by rw [e]; rfl)
        have hfs : Tb.find (L.map Ds.ms) f.s = some d.ms := by
          rw [← hds]
          refine Tb.find_of (x := d.ms) ?_ (List.mem_map.2 ⟨d, List.mem_of_getElem? hj, rfl⟩)
          unfold Tb.nums
          rw [List.map_map]
          exact HK.out
        have HPT10 : Hid (Tb.put r (L.map Ds.ms) f = if d.ms.err f ≠ 0 then ⟨d.ms.err f, L.map Ds.ms, .no⟩ else .ok (Tb.came ((L.map Ds.ms).set j (d.ms.push f)) f.s false 0)) := Lib.hid (by
          rw [Tb.put_there HC.out hzn hfs, put1_set HK.out hj hds])
        have HJ := Lib.hid hj
        have HDS := Lib.hid hds
        have HM4 := Lib.hid hm4
        have hj0 : ¬ (j : Int) < 0 := by omega
        have hn10 : n ≤ 17 := by omega
        have HNK : Hid (L.map Ds.s).Nodup := Lib.hid HK.out
        clear hj hds hm4 hfs hzn hb4
        go_wp2_with fail
        obtain ⟨ev10, hev7⟩ : ∃ ev7, false = ev7 := ⟨_, rfl⟩
        obtain ⟨old10, hold7⟩ : ∃ old7, (0 : Int) = old7 := ⟨_, rfl⟩
        obtain ⟨W10, hW7⟩ : ∃ W7, w4 = W7 := ⟨_, rfl⟩
        obtain ⟨L10, hL7⟩ : ∃ L7, L = L7 := ⟨_, rfl⟩
        obtain ⟨n10, hq6⟩ : ∃ q6, n = q6 := ⟨_, rfl⟩
        obtain ⟨A10, hA6⟩ : ∃ A6, A = A6 := ⟨_, rfl⟩
        obtain ⟨cp10, hc6⟩ : ∃ c6, cp = c6 := ⟨_, rfl⟩
        obtain ⟨j10, hj10⟩ : ∃ j10, j = j10 := ⟨_, rfl⟩
        obtain ⟨d10, hd10⟩ : ∃ d10, d = d10 := ⟨_, rfl⟩
        have HM10 : Hid (Dm w r A n cp f pw (pw + 1) A10 n10 cp10 L10 ev10 old10 W10) := Lib.hid (by rw [← hev7, ← hold7, ← hW7, ← hL7, ← hq6, ← hA6, ← hc6]; exact HM4.out)
        have HPT10 : Hid (Tb.put r (L.map Ds.ms) f = if d10.ms.err f ≠ 0 then ⟨d10.ms.err f, L.map Ds.ms, .no⟩ else .ok (Tb.came ((L10.map Ds.ms).set j10 (d10.ms.push f)) f.s ev10 old10)) := Lib.hid (by rw [← hev7, ← hold7, ← hL7, ← hd10, ← hj10]; exact HPT10.out)
        have HSR10 : Hid (SrcL Src L10) := Lib.hid (by rw [← hL7]; exact HSR.out)
        have HJ : Hid (L10[j10]? = some d10) := Lib.hid (by rw [← hL7, ← hj10, ← hd10]; exact HJ.out)
        rw [hd10] at HDS
        rw [hL7] at HNK
        rw [hq6] at hn10
        rw [hW7, hj10]
        clear hev7 hold7 hW7 hL7 hq6 hA6 hc6 hj10 hd10 HM4 HM3 hj0
        obtain ⟨b, off, rfl, hblt, -⟩ := HM10.out.doc.six HJ.out
        have hjn : j10 < n10 := by
          rw [← HM10.out.doc.len]
          exact (List.getElem?_eq_some_iff.1 HJ.out).1
        have hjn' : (j10 : Int) < (n10 : Int) := by omega
        have hncp : (n10 : Int) ≤ (cp10 : Int) := by have := HM10.out.doc.room; omega
        have hs10 : w.heap.size + 4 ≤ W10.heap.size := by
          have h1 := HM10.out.lo
          have h2 := (Array.getElem?_eq_some_iff.1 HM10.out.was).1
          omega
        have LT : ∀ V, Below W10.heap.size W10 V → (Instr.loadAt 32 (.pointer (some ⟨w.heap.size, 1, none⟩))).run Tryz.prog V = .ok (.slice (some ⟨b, off, none⟩) n10 cp10) V := fun V hV => by
          obtain ⟨d0, d1⟩ := doc_cells (HM10.out.later hV).t
          simp [Instr.loadAt, go_sem, d1]
        have LS : ∀ V, Below W10.heap.size W10 V → (Instr.loadAt 84 (.pointer (some ⟨b, off + j10 * 6, none⟩))).run Tryz.prog V = .ok (.agg #[.int .i64 d10.v, .int .i64 d10.k, .int .u32 d10.s, .int .i64 0, .int .i64 d10.c, .slice d10.A d10.n d10.cp]) V := fun V hV => by
          obtain ⟨b', off', e', _, a0, a1, a2, a3, a4, a5⟩ := (HM10.out.later hV).doc.six HJ.out
          injection e' with e'
          injection e' with e1 e2
          subst e1 e2
          simp [Instr.loadAt, go_sem, a0, a1, a2, a3, a4, a5]
        have LF : ∀ V, Below W10.heap.size W10 V → (Instr.loadAt 52 (.pointer (some ⟨w.heap.size + 1, 0, none⟩))).run Tryz.prog V = .ok (.agg #[.int .i64 f.v, .int .i64 f.k, .int .u32 f.s, .int .i64 f.i, .int .i64 f.c, .slice f.a f.zs.length f.cp]) V := fun V hV => by
          obtain ⟨d0, d1, d2, d3, d4, d5⟩ := fr_block (v := f.v) (k := f.k) (s := f.s) (i := f.i) (c := f.c) (HM10.out.later hV).f
          simp [Instr.loadAt, go_sem, d0, d1, d2, d3, d4, d5]
        obtain ⟨er, her⟩ : ∃ er, d10.ms.err f = er := ⟨_, rfl⟩
        rw [her] at HPT10
        have HER := Lib.hid her
        have KR : Hid (∀ V, Below W10.heap.size W10 V → Calls Tryz.prog 44 #[.agg #[.int .i64 d10.v, .int .i64 d10.k, .int .u32 d10.s, .int .i64 0, .int .i64 d10.c, .slice d10.A d10.n d10.cp], .agg #[.int .i64 f.v, .int .i64 f.k, .int .u32 f.s, .int .i64 f.i, .int .i64 f.c, .slice f.a f.zs.length f.cp]] V fun e w' => ∃ u, e = .returned u ∧ FPt W10.heap.size d10 f er 90 u w' ∧ Below V.heap.size V w') := Lib.hid fun V hV => by
          have hr := ((HM10.out.later hV).doc.at' d10 (List.mem_of_getElem? HJ.out)).ref
          have hfa : f.At V V.heap.size := by
            have h1 := (HM10.out.later hV).below
            exact (HF.out.below h1).mono h1.size
          refine (rput_any d10.v d10.k d10.s hr f hfa hfl).mono fun e w' h2 => ?_
          rw [show sErr d10.v d10.k d10.s d10.c f.v f.k f.s f.i f.c (d10.gs.map Fr.ct) f.zs = er from HER.out] at h2
          obtain ⟨A2, n2, cp2, he, hr2, hb⟩ := rput_nx hr h2
          exact ⟨_, he, ⟨A2, n2, cp2, rfl, hr2⟩, hb⟩
        clear her hblt
        refine wp_region_FG 121 8 [false, false, false, false, false, false, false, false, false, true, false] [90, 83, 91, 12] (FPt W10.heap.size d10 f er) (fun V => Below W10.heap.size W10 V) (fun xs V V' => ∃ g A2 n2 cp2, xs 12 = .pointer (some ⟨g, 0, none⟩) ∧ W10.heap.size ≤ g ∧ V.heap[g]? = some (.cells (frC 0 0 0 0 0 (.slice none 0 0)) 84 (0, 0)) ∧ RefAt V d10.c A2 n2 cp2 (nxF d10.gs f er) ∧ V' = V.setRow g (frC d10.v d10.k d10.s 0 d10.c (.slice A2 n2 cp2))) (by kernel_rfl) (by kernel_rfl) (by rfl) (by kernel_rfl) (by rfl) (by simp) (fun W W' h hb => h.trans (hb.mono h.size)) (fun q x W W' h hb => h.later hb) (Below.refl _ _).drew ?_
        refine wpFG_step (wpF_pure rfl rfl ?_)
        go_big_quiet_step (fail)
        refine wpQuiet_nil ?_
        simp only [wpF]
        refine wpFG_step (wpF_load _ rfl (by rfl) (by rfl) (by rfl) LT ?_)
        simp only [wpF, Act.put, List.setIfInBounds_toArray, List.set_cons_succ, List.set_cons_zero]
        refine wpFG_step (wpF_pure rfl rfl ?_)
        go_big_quiet_step (fail)
        refine wpQuiet_nil ?_
        simp only [wpF]
        refine wpFG_step (wpF_pure rfl rfl ?_)
        go_big_quiet_step (fail)
        refine wpQuiet_nil ?_
        simp only [wpF]
        refine wpFG_step (wpF_load _ rfl (by rfl) (by rfl) (by rfl) LS ?_)
        simp only [wpF, Act.put, List.setIfInBounds_toArray, List.set_cons_succ, List.set_cons_zero]
        refine wpFG_step (wpF_load _ rfl (by rfl) (by rfl) (by rfl) LF ?_)
        simp only [wpF, Act.put, List.setIfInBounds_toArray, List.set_cons_succ, List.set_cons_zero]
        refine wpFG_step (wpF_callsrc 90 (f := 44) (args := #[.agg #[.int .i64 d10.v, .int .i64 d10.k, .int .u32 d10.s, .int .i64 0, .int .i64 d10.c, .slice d10.A d10.n d10.cp], .agg #[.int .i64 f.v, .int .i64 f.k, .int .u32 f.s, .int .i64 f.i, .int .i64 f.c, .slice f.a f.zs.length f.cp]]) (by simp) rfl rfl rfl (fun x => by first | rfl | (simp [go_sem]; done)) KR.out ?_)
        simp only [wpF, Act.put, List.setIfInBounds_toArray, List.set_cons_succ, List.set_cons_zero]
        refine wpFG_step (wpF_mix 83 [90] (by simp) rfl (by kernel_rfl) (by kernel_rfl) (fun xs => by rfl) (fun xs V hV hx => ⟨xs 90, V, by simp [execOp, fill, Act.put, Act.eval, go_sem], hx 90 (by simp), Below.refl _ _⟩) ?_)
        simp only [wpF, Act.put, List.setIfInBounds_toArray, List.set_cons_succ, List.set_cons_zero]
        refine wpFG_step (wpF_mix 91 [83] (by simp) rfl (by kernel_rfl) (by kernel_rfl) (fun xs => by rfl) (fun xs V hV hx => ?_) ?_)
        · obtain ⟨A2, n2, cp2, e58, hr2⟩ := (show ∃ A2 n2 cp2, xs 83 = .tuple #[frV d10.v d10.k d10.s 0 d10.c (.slice A2 n2 cp2), .int .i64 er] ∧ RefAt V d10.c A2 n2 cp2 (nxF d10.gs f er) from hx 83 (by simp))
          exact ⟨frV d10.v d10.k d10.s 0 d10.c (.slice A2 n2 cp2), V, by simp [execOp, fill, Act.put, Act.eval, e58, go_sem], ⟨A2, n2, cp2, rfl, hr2⟩, Below.refl _ _⟩
        simp only [wpF, Act.put, List.setIfInBounds_toArray, List.set_cons_succ, List.set_cons_zero]
        refine wpFG_use 83 7 (.int .i64 er) (by simp) (by rfl) (by kernel_rfl) (by kernel_rfl) (by rfl) (fun x => by rfl) (fun x V hx V' => ?_) ?_
        · obtain ⟨A2, n2, cp2, e58, hr2⟩ := (show ∃ A2 n2 cp2, x = .tuple #[frV d10.v d10.k d10.s 0 d10.c (.slice A2 n2 cp2), .int .i64 er] ∧ RefAt V d10.c A2 n2 cp2 (nxF d10.gs f er) from hx)
          simp [execOp, Act.put, Act.eval, e58, go_sem]
        simp only [Act.put, List.setIfInBounds_toArray, List.set_cons_succ, List.set_cons_zero]
        refine wpFG_step (wpF_src 12 (by simp) rfl (by kernel_rfl) (by kernel_rfl) (fun V hV => ⟨.pointer (some ⟨V.heap.size, 0, none⟩), V.alloc (.cells (frC 0 0 0 0 0 (.slice none 0 0)) 84), ?_, ⟨_, rfl, hV.size, World.alloc_heap_new _ _⟩, (Below.refl _ _).alloc (Nat.le_refl _) _⟩) ?_)
        · have hzz : (zeroValue 84).run Tryz.prog V = .ok (frV 0 0 0 0 0 (.slice none 0 0)) V := by kernel_rfl
          simp [execOp, go_sem, hzz]
          try rfl
        simp only [wpF, Act.put, List.setIfInBounds_toArray, List.set_cons_succ, List.set_cons_zero]
        refine wpFG_storeX rfl rfl rfl (fun xs V hV hx => ?_) ?_
        · obtain ⟨g', e12, hg', hcg⟩ := (show ∃ g, xs 12 = .pointer (some ⟨g, 0, none⟩) ∧ W10.heap.size ≤ g ∧ V.heap[g]? = some (.cells (frC 0 0 0 0 0 (.slice none 0 0)) 84 (0, 0)) from hx 12 (by simp))
          obtain ⟨A2, n2, cp2, e63, hr2⟩ := (show ∃ A2 n2 cp2, xs 91 = frV d10.v d10.k d10.s 0 d10.c (.slice A2 n2 cp2) ∧ RefAt V d10.c A2 n2 cp2 (nxF d10.gs f er) from hx 91 (by simp))
          refine ⟨_, ?_, g', A2, n2, cp2, e12, hg', hcg, hr2, rfl⟩
          simp only [fill, Act.put, List.setIfInBounds_toArray, List.set_cons_succ, List.set_cons_zero, e12, e63]
          exact fs_store V g' _ _ hcg rfl rfl (fs_one _ _ _ _ _ _ _ _)
        refine wpFGn_pure (wpFS_pure rfl rfl ?_)
        go_big_quiet_step (fail)
        refine wpQuiet_nil ?_
        simp only [wpFS]
        rintro xs V V' hV hx ⟨g', A2, n2, cp2, e12, hg', hcg, hr2, rfl⟩
        simp only [fill, Act.put, List.setIfInBounds_toArray, List.set_cons_succ, List.set_cons_zero, e12]
        have hof : Off (fun q => q = g') V (V.setRow g' (frC d10.v d10.k d10.s 0 d10.c (.slice A2 n2 cp2))) := Off.setRow (S := fun q => q = g') (Off.refl _ V) rfl _
        have hvf := hV.trans (hof.below (fun q hq => by omega) hV.size)
        have hrf := hr2.off hof (fun q cs t fz hq hs => by
          subst hs
          rw [hcg] at hq
          injection hq with hq
          injection hq with h1 h2 h3
          exact ⟨_, _, _, _, _, _, _, _, h1.symm, h2.symm⟩)
        have hxg := setRow_heap V g' _ (frC d10.v d10.k d10.s 0 d10.c (.slice A2 n2 cp2)) _ _ hcg
        clear hof hcg hr2 LT LS LF KR
        generalize (V.setRow g' (frC d10.v d10.k d10.s 0 d10.c (.slice A2 n2 cp2))) = Wf at hvf hrf hxg ⊢
        have hmf := HM10.out.later hvf
        have HMF := Lib.hid hmf
        have hsf : w.heap.size + 4 ≤ Wf.heap.size := by have := hvf.size; omega
        generalize xs 90 = x90
        generalize xs 83 = x83
        generalize xs 91 = x91
        clear hx
        by_cases he0 : er = 0
        · subst he0
          have hnx : nxF d10.gs f 0 = d10.gs ++ [f] := if_pos rfl
          rw [hnx] at hrf
          have hd0 := HMF.out.doc.at' d10 (List.mem_of_getElem? HJ.out)
          have hdp : Ds.At Wf ⟨d10.v, d10.k, d10.s, d10.c, A2, n2, cp2, d10.gs ++ [f]⟩ := ⟨hrf, hd0.num, hd0.good⟩
          have hms : Ds.ms ⟨d10.v, d10.k, d10.s, d10.c, A2, n2, cp2, d10.gs ++ [f]⟩ = d10.ms.push f := by simp [Ds.ms, Tb.Ms.push]
          obtain ⟨dp, hdpe⟩ : ∃ dp : Ds, (⟨d10.v, d10.k, d10.s, d10.c, A2, n2, cp2, d10.gs ++ [f]⟩ : Ds) = dp := ⟨_, rfl⟩
          have hdc : dp.cs = #[.int .i64 d10.v, .int .i64 d10.k, .int .u32 d10.s, .int .i64 0, .int .i64 d10.c, .slice A2 n2 cp2] := by rw [← hdpe]; rfl
          have hdp5 : dp.v = d10.v ∧ dp.k = d10.k ∧ dp.s = d10.s ∧ dp.c = d10.c ∧ dp.A = A2 ∧ dp.n = n2 ∧ dp.cp = cp2 := by rw [← hdpe]; exact ⟨rfl, rfl, rfl, rfl, rfl, rfl, rfl⟩
          have HSRP : Hid (SrcL Src (L10.set j10 dp)) := Lib.hid fun d hd g hg => by
            rcases List.mem_or_eq_of_mem_set hd with h1 | h1
            · exact HSR10.out d h1 g hg
            · rw [h1, ← hdpe] at hg
              rcases List.mem_append.1 hg with h2 | h2
              · exact HSR10.out d10 (List.mem_of_getElem? HJ.out) g h2
              · rw [List.mem_singleton.1 h2]; exact HSF.out
          rw [hdpe] at hdp hms
          obtain ⟨z0, hi, hz0, hz1, hz2⟩ := info_parts dsInfo
          obtain ⟨v22, W22, hr22, ho22, hb22⟩ := append_docs (P := Tryz.prog) 32 32 84 z0 _ Tryz.underlying32 hi hz0 hz1 hz2 rfl Wf.heap.size Wf.heap.size (by rw [World.size_alloc]; omega) (World.ownsRow_made Wf #[] 0 (Nat.le_refl _) (by unfold maxLen; omega) rfl) (HMF.out.later ((Below.refl _ Wf).alloc (Nat.le_refl _) (.cells #[] 84))).doc
          obtain ⟨g22, c22, rfl, hc22⟩ : ∃ g c, v22 = .slice (some ⟨g, 0, none⟩) n10 c ∧ n10 ≤ c := by
            rcases ho22.2 with ⟨_, h0⟩ | ⟨g, cap, cur, hv, _, _, hle, _⟩
            · omega
            · exact ⟨g, cap, hv, hle⟩
          have hbf2 : Below Wf.heap.size Wf W22 := ((Below.refl _ Wf).alloc (Nat.le_refl _) _).trans (hb22.mono (by rw [World.size_alloc]; omega))
          obtain ⟨y1, y2, y3, hth, hkp, hdp3, hm23⟩ := HMF.out.setAt (dp := dp) hbf2 ho22 hjn (by omega) hdp
          have d1 := (doc_cells (HMF.out.later ((Below.refl _ Wf).alloc (Nat.le_refl _) (.cells #[] 84))).t).2
          have hgp : g' ≠ w.heap.size := by omega
          obtain ⟨hx22, hx23⟩ := hkp g' _ hxg hgp
          have hncc : (n10 : Int) ≤ (c22 : Int) := by omega
          obtain ⟨W23, hW23⟩ : ∃ W23, (W22.setCell ⟨w.heap.size, 1, none⟩ (.slice (some ⟨g22, 0, none⟩) n10 c22)).setCells g22 (j10 * 6) dp.cs.toList = W23 := ⟨_, rfl⟩
          rw [hW23] at hm23 hdp3 hx23
          rw [hdc] at hW23
          have HW23 := Lib.hid hW23
          obtain ⟨m0, m1, m2, m3, m4, m5⟩ := fr_block hx22
          obtain ⟨l0, l1, l2, l3, l4, l5⟩ := fr_block hx23
          have HM23 := Lib.hid hm23
          have HDP3 := Lib.hid hdp3
          have HMS := Lib.hid hms
          have HP5 := Lib.hid hdp5
          have KFU := fun V : World => rfull_any (w := V) d10.v d10.k d10.s 0 (c := d10.c) (A := A2) (n := n2) (cp := cp2) hd0.pos.1
          have HNN := Lib.hid hrf.len
          unfold frV frC at KFU
          have HX23 := Lib.hid hx23
          rw [hdc] at hth
          have HTH := Lib.hid hth
          have HR22 := Lib.hid hr22
          have HDC := Lib.hid hdc
          clear hnx hrf hd0 hdp hms hdpe ho22 hb22 hbf2 hm23 hdp3 hx22 hx23 hkp hdp5 hmf hxg hvf hi hz0 hz1 hz2 hth hr22 hdc hW23
          go_wp2_with (first
            | (at_builtin; refine wpList_appendU (v1 := .slice (some ⟨Wf.heap.size, 0, none⟩) 0 0) (v2 := .slice (some ⟨b, off, none⟩) n10 cp10) rfl (.tmp 98) (.tmp 100) 32 rfl rfl rfl HR22.out ?_)
            | (refine wpList_store_mid rfl 84 (.tmp 107) (.tmp 106) rfl g22 (j10 * 6) #[.int .i64 d10.v, .int .i64 d10.k, .int .u32 d10.s, .int .i64 0, .int .i64 d10.c, .slice A2 n2 cp2] rfl rfl HTH.out ssInfo (by simp [Value.oneCell']) ?_; rw [HW23.out]))
          refine (KFU W23).mono ?_
          rintro e W24 ⟨rfl, hb24⟩
          have hm24 := HM23.out.later hb24
          have hs24 : w.heap.size + 4 ≤ W24.heap.size := by
            have h1 := hm24.lo
            have h2 := (Array.getElem?_eq_some_iff.1 hm24.was).1
            omega
          have HL24 : Hid (dp.ms.C.length = n2) := Lib.hid (by
            show (List.map Fr.ct dp.gs).length = n2
            rw [List.length_map, ← HP5.out.2.2.2.2.2.1]
            exact HDP3.out.ref.len)
          have hput := HPT10.out
          rw [if_neg (by simp), ← HMS.out, ← List.map_set] at hput
          have HNK2 : Hid ((Tb.nums ((L10.set j10 dp).map Ds.ms)).Nodup) := Lib.hid (by
            have e : Tb.nums ((L10.set j10 dp).map Ds.ms) = L10.map Ds.s := by
              unfold Tb.nums
              rw [List.map_map, List.map_set]
              apply List.ext_getElem?
              intro i
              rw [List.getElem?_set, List.getElem?_map, List.getElem?_map, List.length_map]
              by_cases hij : j10 = i
              · subst hij
                rw [if_pos rfl, if_pos (by rw [HM10.out.doc.len]; exact hjn), HJ.out]
                show some dp.s = some d10.s
                rw [HP5.out.2.2.1]
              · rw [if_neg hij]
                rfl
            rw [e]
            exact HNK.out)
          have HFD : Hid (Tb.find ((L10.set j10 dp).map Ds.ms) f.s = some dp.ms) := Lib.hid (by
            have h := Tb.find_of (x := dp.ms) HNK2.out (List.mem_map.2 ⟨dp, List.mem_set (by rw [HM10.out.doc.len]; exact hjn) dp, rfl⟩)
            rwa [show dp.ms.s = f.s from HP5.out.2.2.1.trans HDS.out] at h)
          by_cases hfull : (n2 : Int) = d10.c
          · have hfl' : ((n2 : Int) == d10.c) = true := by simpa using hfull
            rw [Tb.came_full HFD.out (by rw [HL24.out]; show (n2 : Int) = dp.c; rw [HP5.out.2.2.2.1]; exact hfull), HL24.out] at hput
            have hx24 := row_keep HX23.out hb24
            obtain ⟨l0, l1, l2, l3, l4, l5⟩ := fr_block hx24
            have hra := (HDP3.out.below hb24).ref
            rw [HP5.out.2.2.2.1, HP5.out.2.2.2.2.1, HP5.out.2.2.2.2.2.1, HP5.out.2.2.2.2.2.2, ← hfull] at hra
            have KBY := rbytes_any d10.v d10.k d10.s 0 hra
            rw [hfull] at KBY
            unfold frV frC at KBY
            have hdr : Tb.drop ((L10.set j10 dp).map Ds.ms) f.s = ((L10.set j10 dp).filter fun d => d.s != f.s).map Ds.ms := by
              unfold Tb.drop
              rw [List.filter_map]
              rfl
            rw [hdr] at hput
            have HPZ := Lib.hid hput
            have HM24 := Lib.hid hm24
            have HFU := Lib.hid hfull
            clear hm24 hput hb24 hfull hra hdr hx24 m0 m1 m2 m3 m4 m5 y1 y2 y3 d1
            go_wp2_with fail
            refine KBY.mono ?_
            rintro e W25 ⟨u25, rfl, hmk⟩
            obtain ⟨Ab, cb, rfl, hcb, hnb⟩ := hmk.slice
            have hnew25 : ∀ p, Ab = some p → w.heap.size ≤ p.block := fun p hp => by
              have h1 := (hmk.1.lt p.block (by rw [hp]; rfl)).1
              omega
            have hm25 := HM24.out.later hmk.2
            obtain ⟨zs, hzs⟩ : ∃ zs, Sl.cat (dp.gs.map Fr.ct) n2 = zs := ⟨_, rfl⟩
            have hzs' : Sl.cat dp.ms.C n2 = zs := hzs
            rw [hzs] at hcb hnb ⊢
            rw [hzs'] at HPZ
            obtain ⟨u0, u1, u2, u3, hez⟩ := hm25.told (q := zs.length) rfl hnb hcb hnew25
            obtain ⟨d0, d1⟩ := doc_cells hez.t
            obtain ⟨e0, e1, e2, e3, e4, e5⟩ := fr_block (v := f.v) (k := f.k) (s := f.s) (i := f.i) (c := f.c) hez.f
            have KDR := ddrop_any hez.doc r f.s
            unfold docV at KDR
            have HEZ0 := Lib.hid hez
            clear hez hm25 hnb hmk hzs hzs' KBY l0 l1 l2 l3 l4 l5 e0 e1 e3 e4 e5
            go_wp2_with fail
            refine KDR.mono ?_
            rintro e W27 ⟨hb27, A27, c27, rfl, hd27⟩
            obtain ⟨q27, hq27⟩ : ∃ q, ((L10.set j10 dp).filter fun d => d.s != f.s).length = q := ⟨_, rfl⟩
            rw [hq27] at hd27 ⊢
            have hez27 := HEZ0.out.later hb27
            have x0 := hez27.t
            have hgone := hez27.gone hd27
            have HEZ := Lib.hid hgone
            have HSZ : Hid (w.heap.size + 4 ≤ (W27.setRow w.heap.size #[.int .i64 (r : Int), .slice A27 q27 c27]).heap.size) := Lib.hid (by
              have h1 := hgone.lo
              have h2 := (Array.getElem?_eq_some_iff.1 hgone.out).1
              omega)
            clear hgone hez27 hd27 hb27 KDR HEZ0 u0 u1 u2 u3 d0 d1 e2 hq27
            unfold docV
            go_wp2_with (refine wpList_store_row rfl 34 (.tmp 2) (.tmp 118) rfl w.heap.size #[.int .i64 (r : Int), .slice A27 q27 c27] rfl rfl 34 _ x0 stInfo rfl (by simp [Value.oneCell']) ?_)
            obtain ⟨Wz, hWz⟩ : ∃ Wz, W27.setRow w.heap.size #[.int .i64 (r : Int), .slice A27 q27 c27] = Wz := ⟨_, rfl⟩
            obtain ⟨Az, hAz⟩ : ∃ Az, A27 = Az := ⟨_, rfl⟩
            obtain ⟨nz, hnz⟩ : ∃ nz, q27 = nz := ⟨_, rfl⟩
            obtain ⟨cz, hcz⟩ : ∃ cz, c27 = cz := ⟨_, rfl⟩
            obtain ⟨Lz, hLz⟩ : ∃ Lz, ((L10.set j10 dp).filter fun d => d.s != f.s) = Lz := ⟨_, rfl⟩
            have HSRZ : Hid (SrcL Src Lz) := Lib.hid (by rw [← hLz]; exact fun d hd => HSRP.out d (List.mem_filter.1 hd).1)
            obtain ⟨Abz, hAbz⟩ : ∃ Abz, Ab = Abz := ⟨_, rfl⟩
            obtain ⟨cbz, hcbz⟩ : ∃ cbz, cb = cbz := ⟨_, rfl⟩
            obtain ⟨zsz, hzsz⟩ : ∃ zsz, zs = zsz := ⟨_, rfl⟩
            obtain ⟨whz, hwhz⟩ : ∃ whz, true = whz := ⟨_, rfl⟩
            have HEZ : Hid (De w r f (pw + 1) Az nz cz Lz Abz cbz zsz whz ev10 old10 Wz) := Lib.hid (by rw [← hWz, ← hAz, ← hnz, ← hcz, ← hLz, ← hAbz, ← hcbz, ← hzsz, ← hwhz]; exact HEZ.out)
            have HPZ : Hid (Tb.put r (L.map Ds.ms) f = ⟨0, Lz.map Ds.ms, ⟨zsz, whz, ev10, old10⟩⟩) := Lib.hid (by rw [← hLz, ← hzsz, ← hwhz]; exact HPZ.out)
            have HSZ : Hid (w.heap.size + 4 ≤ Wz.heap.size) := Lib.hid (by rw [← hWz]; exact HSZ.out)
            rw [hWz]
            clear hWz hAz hnz hcz hLz hAbz hcbz hzsz hwhz x0
            have hloz := HEZ.out.lo
            refine wp_region_order6 (0 :: 1 :: 2 :: 3 :: 4 :: []) (fun V => V.heap[pw + 1]? = some (.cells #[.slice Abz zsz.length cbz, .bool whz, .bool ev10, .int .u32 old10] 47 (0, 0)) ∧ V.heap[w.heap.size]? = some (.cells #[.int .i64 (r : Int), .slice Az nz cz] 34 (0, 0)))
              (C := fun V => Below Wz.heap.size Wz V ∧ ∃ k, V = Wz.drewN k) (by kernel_rfl) (by kernel_rfl) ⟨(Below.refl _ _).drew, 1, rfl⟩ (fun V hV => ⟨(HEZ.out.later hV.1).out, (HEZ.out.later hV.1).t⟩) ?_
            refine wpO6_load (ad := ⟨w.heap.size, 0, none⟩) (.agg #[.int .i64 (r : Int), .slice Az nz cz]) rfl rfl rfl (by rfl) (fun V hV => ?_) ?_
            · obtain ⟨d0, d1⟩ := doc_cells hV.2
              simp [Instr.loadAt, go_sem, d0, d1]
            simp only [Act.put, List.setIfInBounds_toArray, List.set_cons_succ, List.set_cons_zero]
            refine wpO6_load (ad := ⟨pw + 1, 0, none⟩) (.agg #[.slice Abz zsz.length cbz, .bool whz, .bool ev10, .int .u32 old10]) rfl rfl rfl (by rfl) (fun V hV => ?_) ?_
            · obtain ⟨k0, k1, k2, k3⟩ := out_block hV.1
              simp [Instr.loadAt, go_sem, k0, k1, k2, k3]
            simp only [Act.put, List.setIfInBounds_toArray, List.set_cons_succ, List.set_cons_zero]
            refine wpO6_store (fun V' => ∃ k, V' = (Wz.drewN k).setRow (w.heap.size + 2) #[.int .i64 (r : Int), .slice Az nz cz]) rfl rfl rfl rfl ⟨w.heap.size + 2, 0, none⟩ (.agg #[.int .i64 (r : Int), .slice Az nz cz]) (by rfl) (by rfl) ?_ (fun V hV => ?_) ?_
            · rintro V' ⟨k, rfl⟩
              exact ⟨(setRow_other _ _ _ _ (by omega)).trans HEZ.out.out, (setRow_other _ _ _ _ (by omega)).trans HEZ.out.t⟩
            · obtain ⟨_, k, rfl⟩ := hV
              exact ⟨_, run_storeVar_rowT HEZ.out.rt, k, rfl⟩
            refine wpO6_store (fun V' => ∃ k, V' = ((Wz.drewN k).setRow (w.heap.size + 2) #[.int .i64 (r : Int), .slice Az nz cz]).setRow (w.heap.size + 3) (outC Abz zsz.length cbz whz ev10 old10)) rfl rfl rfl rfl ⟨w.heap.size + 3, 0, none⟩ (.agg (outC Abz zsz.length cbz whz ev10 old10)) (by rfl) (by rfl) ?_ ?_ ?_
            · rintro V' ⟨k, rfl⟩
              exact ⟨(setRow_other _ _ _ _ (by omega)).trans ((setRow_other _ _ _ _ (by omega)).trans HEZ.out.out), (setRow_other _ _ _ _ (by omega)).trans ((setRow_other _ _ _ _ (by omega)).trans HEZ.out.t)⟩
            · rintro V' ⟨k, rfl⟩
              exact ⟨_, run_storeVar_rowO ((setRow_other _ _ _ _ (by omega)).trans HEZ.out.ro), k, rfl⟩
            refine wpO6_pure rfl rfl ?_
            go_big_quiet_step (fail)
            refine wpQuiet_nil ?_
            rintro w27 ⟨k, rfl⟩
            have hez := HEZ.out.later (below_drewN (Below.refl _ _) k)
            obtain ⟨x3, c0, c1, o0, o1, o2, o3, HFIN⟩ := HFin.out (Wz.drewN k) Az nz cz Lz Abz cbz ⟨0, Lz.map Ds.ms, ⟨zsz, whz, ev10, old10⟩⟩ HSRZ.out HSZ.out hez.rt hez.ro hez.below HPZ.out hez.doc rfl hez.room hez.nums hez.new
            have HG := Lib.hid HFIN
            clear HFIN x3 hez
            go_wp2_with fail
            refine bodyPost_ret (by simp [results, Tryz.results23, go_sem, c0, c1, o0, o1, o2, o3]; try rfl) rfl ?_
            exact HG.out
          · have hfl' : ((n2 : Int) == d10.c) = false := by simpa using hfull
            rw [Tb.came_part HFD.out (by rw [HL24.out]; show (n2 : Int) ≠ dp.c; rw [HP5.out.2.2.2.1]; exact hfull)] at hput
            have HEZ := Lib.hid hm24.part
            have HPZ := Lib.hid hput
            have HSZ := Lib.hid hs24
            clear hm24 hput hb24 hfull m0 m1 m2 m3 m4 m5 l0 l1 l2 l3 l4 l5 y1 y2 y3 d1
            go_wp2_with fail
            obtain ⟨Wz, hWz⟩ : ∃ Wz, W24 = Wz := ⟨_, rfl⟩
            obtain ⟨Az, hAz⟩ : ∃ Az, (some ⟨g22, 0, none⟩ : Option Addr) = Az := ⟨_, rfl⟩
            obtain ⟨nz, hnz⟩ : ∃ nz, n10 = nz := ⟨_, rfl⟩
            obtain ⟨cz, hcz⟩ : ∃ cz, c22 = cz := ⟨_, rfl⟩
            obtain ⟨Lz, hLz⟩ : ∃ Lz, L10.set j10 dp = Lz := ⟨_, rfl⟩
            have HSRZ : Hid (SrcL Src Lz) := Lib.hid (by rw [← hLz]; exact HSRP.out)
            obtain ⟨Abz, hAbz⟩ : ∃ Abz, (none : Option Addr) = Abz := ⟨_, rfl⟩
            obtain ⟨cbz, hcbz⟩ : ∃ cbz, 0 = cbz := ⟨_, rfl⟩
            obtain ⟨zsz, hzsz⟩ : ∃ zsz, ([] : List Int) = zsz := ⟨_, rfl⟩
            obtain ⟨whz, hwhz⟩ : ∃ whz, false = whz := ⟨_, rfl⟩
            have HEZ : Hid (De w r f (pw + 1) Az nz cz Lz Abz cbz zsz whz ev10 old10 Wz) := Lib.hid (by rw [← hWz, ← hAz, ← hnz, ← hcz, ← hLz, ← hAbz, ← hcbz, ← hzsz, ← hwhz]; exact HEZ.out)
            have HPZ : Hid (Tb.put r (L.map Ds.ms) f = ⟨0, Lz.map Ds.ms, ⟨zsz, whz, ev10, old10⟩⟩) := Lib.hid (by rw [← hLz, ← hzsz, ← hwhz]; exact HPZ.out)
            have HSZ : Hid (w.heap.size + 4 ≤ Wz.heap.size) := Lib.hid (by rw [← hWz]; exact HSZ.out)
            rw [hWz]
            clear hWz hAz hnz hcz hLz hAbz hcbz hzsz hwhz
            have hloz := HEZ.out.lo
            refine wp_region_order6 (0 :: 1 :: 2 :: 3 :: 4 :: []) (fun V => V.heap[pw + 1]? = some (.cells #[.slice Abz zsz.length cbz, .bool whz, .bool ev10, .int .u32 old10] 47 (0, 0)) ∧ V.heap[w.heap.size]? = some (.cells #[.int .i64 (r : Int), .slice Az nz cz] 34 (0, 0)))
              (C := fun V => Below Wz.heap.size Wz V ∧ ∃ k, V = Wz.drewN k) (by kernel_rfl) (by kernel_rfl) ⟨(Below.refl _ _).drew, 1, rfl⟩ (fun V hV => ⟨(HEZ.out.later hV.1).out, (HEZ.out.later hV.1).t⟩) ?_
            refine wpO6_load (ad := ⟨w.heap.size, 0, none⟩) (.agg #[.int .i64 (r : Int), .slice Az nz cz]) rfl rfl rfl (by rfl) (fun V hV => ?_) ?_
            · obtain ⟨d0, d1⟩ := doc_cells hV.2
              simp [Instr.loadAt, go_sem, d0, d1]
            simp only [Act.put, List.setIfInBounds_toArray, List.set_cons_succ, List.set_cons_zero]
            refine wpO6_load (ad := ⟨pw + 1, 0, none⟩) (.agg #[.slice Abz zsz.length cbz, .bool whz, .bool ev10, .int .u32 old10]) rfl rfl rfl (by rfl) (fun V hV => ?_) ?_
            · obtain ⟨k0, k1, k2, k3⟩ := out_block hV.1
              simp [Instr.loadAt, go_sem, k0, k1, k2, k3]
            simp only [Act.put, List.setIfInBounds_toArray, List.set_cons_succ, List.set_cons_zero]
            refine wpO6_store (fun V' => ∃ k, V' = (Wz.drewN k).setRow (w.heap.size + 2) #[.int .i64 (r : Int), .slice Az nz cz]) rfl rfl rfl rfl ⟨w.heap.size + 2, 0, none⟩ (.agg #[.int .i64 (r : Int), .slice Az nz cz]) (by rfl) (by rfl) ?_ (fun V hV => ?_) ?_
            · rintro V' ⟨k, rfl⟩
              exact ⟨(setRow_other _ _ _ _ (by omega)).trans HEZ.out.out, (setRow_other _ _ _ _ (by omega)).trans HEZ.out.t⟩
            · obtain ⟨_, k, rfl⟩ := hV
              exact ⟨_, run_storeVar_rowT HEZ.out.rt, k, rfl⟩
            refine wpO6_store (fun V' => ∃ k, V' = ((Wz.drewN k).setRow (w.heap.size + 2) #[.int .i64 (r : Int), .slice Az nz cz]).setRow (w.heap.size + 3) (outC Abz zsz.length cbz whz ev10 old10)) rfl rfl rfl rfl ⟨w.heap.size + 3, 0, none⟩ (.agg (outC Abz zsz.length cbz whz ev10 old10)) (by rfl) (by rfl) ?_ ?_ ?_
            · rintro V' ⟨k, rfl⟩
              exact ⟨(setRow_other _ _ _ _ (by omega)).trans ((setRow_other _ _ _ _ (by omega)).trans HEZ.out.out), (setRow_other _ _ _ _ (by omega)).trans ((setRow_other _ _ _ _ (by omega)).trans HEZ.out.t)⟩
            · rintro V' ⟨k, rfl⟩
              exact ⟨_, run_storeVar_rowO ((setRow_other _ _ _ _ (by omega)).trans HEZ.out.ro), k, rfl⟩
            refine wpO6_pure rfl rfl ?_
            go_big_quiet_step (fail)
            refine wpQuiet_nil ?_
            rintro w27 ⟨k, rfl⟩
            have hez := HEZ.out.later (below_drewN (Below.refl _ _) k)
            obtain ⟨x3, c0, c1, o0, o1, o2, o3, HFIN⟩ := HFin.out (Wz.drewN k) Az nz cz Lz Abz cbz ⟨0, Lz.map Ds.ms, ⟨zsz, whz, ev10, old10⟩⟩ HSRZ.out HSZ.out hez.rt hez.ro hez.below HPZ.out hez.doc rfl hez.room hez.nums hez.new
            have HG := Lib.hid HFIN
            clear HFIN x3 hez
            go_wp2_with fail
            refine bodyPost_ret (by simp [results, Tryz.results23, go_sem, c0, c1, o0, o1, o2, o3]; try rfl) rfl ?_
            exact HG.out
        · have he' : (er != 0) = true := by simpa using he0
          have hput := HPT10.out
          rw [if_pos he0] at hput
          obtain ⟨x3, c0, c1, o0, o1, o2, o3, HFIN⟩ := HBad2.out er Wf hsf hmf.rt hmf.ro hmf.below hput
          have x2 := hmf.rt
          obtain ⟨d0, d1⟩ := doc_cells hmf.was
          have HG := Lib.hid HFIN
          clear HFIN hput hmf hxg hrf hvf
          go_wp2_with (first
            | refine wpList_store_row rfl 34 (.tmp 4) (.tmp 95) rfl (w.heap.size + 2) #[.int .i64 (r : Int), .slice A n cp] rfl rfl 34 _ x2 stInfo rfl (by simp [Value.oneCell']) ?_
            | refine wpList_store_row rfl 47 (.tmp 5) (.tmp 96) rfl (w.heap.size + 3) (outC none 0 0 false false 0) rfl rfl 47 _ x3 soInfo rfl (out_one _ _ _ _ _ _) ?_)
          refine bodyPost_ret (by simp [results, Tryz.results23, go_sem, c0, c1, o0, o1, o2, o3]; try rfl) rfl ?_
          exact HG.out
  · have hc' : (chk f.v f.k f.i f.c != 0) = true := by simpa using hc
    have hput := Tb.put_head (r := r) (T := L.map Ds.ms) hc
    have HPT := Lib.hid hput
    have HP2 := Lib.hid hp2
    have L1 : ∀ V, Below w2.heap.size w2 V → (Instr.loadAt 34 (.pointer (some ⟨w.heap.size, 0, none⟩))).run Tryz.prog V = .ok (.agg #[.int .i64 (r : Int), .slice A n cp]) V := fun V hV => by
      obtain ⟨d0, d1⟩ := doc_cells (HP2.out.later hV).t
      simp [Instr.loadAt, go_sem, d0, d1]
    have L2 : ∀ V, Below w2.heap.size w2 V → (Instr.loadAt 50 (.pointer (some ⟨w.heap.size + 1, 0, none⟩))).run Tryz.prog V = .ok (.agg #[.int .i64 f.v, .int .i64 f.k, .int .u32 f.s, .int .i64 f.i, .int .i64 f.c]) V := fun V hV => by
      obtain ⟨d0, d1, d2, d3, d4, d5⟩ := fr_block (v := f.v) (k := f.k) (s := f.s) (i := f.i) (c := f.c) (HP2.out.later hV).f
      simp [Instr.loadAt, go_sem, d0, d1, d2, d3, d4]
    have KC2 : Hid (∀ V, Below w2.heap.size w2 V → _) := Lib.hid fun V _ => KC.out V
    clear hb2 hp2 hput hc
    generalize chk f.v f.k f.i f.c = E at *
    go_wp2_with fail
    refine wp_region_order6 (1 :: 0 :: 2 :: 3 :: 4 :: 5 :: 6 :: 7 :: []) (fun V => V.heap[w.heap.size]? = some (.cells #[.int .i64 (r : Int), .slice A n cp] 34 (0, 0)) ∧ V.heap[w.heap.size + 1]? = some (.cells #[.int .i64 f.v, .int .i64 f.k, .int .u32 f.s, .int .i64 f.i, .int .i64 f.c, .slice f.a f.zs.length f.cp] 52 (0, 0)))
      (C := fun V => Below w2.heap.size w2 V) (by kernel_rfl) (by kernel_rfl) (Below.refl _ _).drew (fun V hV => ⟨(HP2.out.later hV).t, (HP2.out.later hV).f⟩) ?_
    refine wpO6_build (.agg #[.slice none 0 0, .bool false, .bool false, .int .u32 0]) rfl rfl rfl (fun V _ => by kernel_rfl) ?_
    simp only [Act.put, List.setIfInBounds_toArray, List.set_cons_succ, List.set_cons_zero]
    refine wpO6_load (ad := ⟨w.heap.size, 0, none⟩) (.agg #[.int .i64 (r : Int), .slice A n cp]) rfl rfl rfl (by rfl) (fun V hV => ?_) ?_
    · obtain ⟨d0, d1⟩ := doc_cells hV.1
      simp [Instr.loadAt, go_sem, d0, d1]
    simp only [Act.put, List.setIfInBounds_toArray, List.set_cons_succ, List.set_cons_zero]
    refine wpO6_pure rfl rfl ?_
    go_big_quiet_step (fail)
    refine wpQuiet_nil ?_
    refine wpO6_load (ad := ⟨w.heap.size + 1, 0, none⟩) (.agg #[.int .i64 f.v, .int .i64 f.k, .int .u32 f.s, .int .i64 f.i, .int .i64 f.c]) rfl rfl rfl (by rfl) (fun V hV => ?_) ?_
    · obtain ⟨d0, d1, d2, d3, d4, d5⟩ := fr_block (v := f.v) (k := f.k) (s := f.s) (i := f.i) (c := f.c) hV.2
      simp [Instr.loadAt, go_sem, d0, d1, d2, d3, d4]
    simp only [Act.put, List.setIfInBounds_toArray, List.set_cons_succ, List.set_cons_zero]
    refine wpO6_call (fun v => v = .int .i64 E) (fun _ V => Below w2.heap.size w2 V) (f := 21) (args := #[.agg #[.int .i64 f.v, .int .i64 f.k, .int .u32 f.s, .int .i64 f.i, .int .i64 f.c]]) rfl rfl rfl (fun _ V hV => ⟨(HP2.out.later hV).t, (HP2.out.later hV).f⟩) (fun V => by first | rfl | (simp [go_sem]; done)) (fun V hV => (KC.out V).mono fun e W' h => ⟨_, h.1, rfl, hV.trans (h.2.mono hV.size)⟩) ?_
    rintro v rfl
    simp only [Act.put, List.setIfInBounds_toArray, List.set_cons_succ, List.set_cons_zero]
    refine wpO6_store (fun V' => ∃ V, Below w2.heap.size w2 V ∧ V' = V.setRow (w.heap.size + 2) #[.int .i64 (r : Int), .slice A n cp]) rfl rfl rfl rfl ⟨w.heap.size + 2, 0, none⟩ (.agg #[.int .i64 (r : Int), .slice A n cp]) (by rfl) (by rfl) ?_ (fun V hV => ?_) ?_
    · rintro V' ⟨V, hV, rfl⟩
      exact ⟨(setRow_other _ _ _ _ (by omega)).trans (HP2.out.later hV).t, (setRow_other _ _ _ _ (by omega)).trans (HP2.out.later hV).f⟩
    · exact ⟨_, run_storeVar_rowT (HP2.out.later hV).rt, V, hV, rfl⟩
    refine wpO6_store (fun V' => ∃ V, Below w2.heap.size w2 V ∧ V' = (V.setRow (w.heap.size + 2) #[.int .i64 (r : Int), .slice A n cp]).setRow (w.heap.size + 3) (outC none 0 0 false false 0)) rfl rfl rfl rfl ⟨w.heap.size + 3, 0, none⟩ (.agg (outC none 0 0 false false 0)) (by rfl) (by rfl) ?_ ?_ ?_
    · rintro V' ⟨V, hV, rfl⟩
      exact ⟨(setRow_other _ _ _ _ (by omega)).trans ((setRow_other _ _ _ _ (by omega)).trans (HP2.out.later hV).t), (setRow_other _ _ _ _ (by omega)).trans ((setRow_other _ _ _ _ (by omega)).trans (HP2.out.later hV).f)⟩
    · rintro V' ⟨V, hV, rfl⟩
      exact ⟨_, run_storeVar_rowO ((setRow_other _ _ _ _ (by omega)).trans (HP2.out.later hV).ro), V, hV, rfl⟩
    refine wpO6_pure rfl rfl ?_
    go_big_quiet_step (fail)
    refine wpQuiet_nil ?_
    rintro w5 ⟨w4, hb4, rfl⟩
    have hp4 := HP2.out.later hb4
    have hs4 : w.heap.size + 4 ≤ w4.heap.size := by have := hb4.size; omega
    obtain ⟨x3, c0, c1, o0, o1, o2, o3, HFIN⟩ := HBad.out E w4 hp4 hs4 HPT.out
    have HG := Lib.hid HFIN
    clear hp4 HFIN L1 L2 hb4 x3
    go_wp2_with fail
    refine bodyPost_ret (by simp [results, Tryz.results23, go_sem, c0, c1, o0, o1, o2, o3]; try rfl) rfl ?_
    exact HG.out
end Go.Proofs.YtfdbcfkjablnkaaGreat
