/-
  The law SchemaPacks returns true for every message and every version: its body, whether it fits, the best version and what is lost are the document's, and it is unpacked as its projection.
-/
import Derived.Test.YtlbfibnfmijahaaGreatRows
import Derived.Below
import Derived.WalkKit
import Derived.ProofKit
import Derived.OpenShut
import Derived.ShutString
import Derived.ChangeOld
import Derived.Test.YtlbfibnfmijahaaGreatMPaPacksProof6
namespace Go.Proofs.YtlbfibnfmijahaaGreat
open Go.RowKit Go.Shelf
set_option maxRecDepth 100000
attribute [local go_sem] Oper.semAt_some

def likeF (M N : Mg) (f : Fd) : Bool := if f.so = 6 then decide (M.tg = N.tg) else decide (M.at' f.pl.toNat = N.at' f.pl.toNat)
set_option maxHeartbeats 4000000 in
theorem alike_any (M N : Mg) (f : Fd) (P C P' C' : Value) (w : World) (hf : (f.so = 1 ∧ ∃ jj : Nat, jj < 6 ∧ f.pl = (jj : Int)) ∨ (f.so = 6 ∧ f.pl = -1)) : Calls Tryz.prog 35 #[.agg (mC M P C), .agg (mC N P' C'), f.v] w fun e w' => e = .returned (.bool (likeF M N f)) ∧ Below w.heap.size w w' := by
  obtain ⟨w2, hw2⟩ : ∃ w2, ((w.alloc (.cells (mC M P C) 26)).alloc (.cells (mC N P' C') 26)).alloc (.cells f.cs 87) = w2 := ⟨_, rfl⟩
  have hb2 : Below w.heap.size w w2 := by rw [← hw2]; exact (((Below.refl _ w).alloc (Nat.le_refl _) _).alloc (by simp) _).alloc (by simp; omega) _
  have q0 : w2.heap[w.heap.size]? = some (.cells (mC M P C) 26 (0, 0)) := by
    rw [← hw2, Below.heap_alloc _ _ _ (by simp; omega), Below.heap_alloc _ _ _ (by simp)]; exact World.alloc_heap_new _ _
  have q1 : w2.heap[w.heap.size + 1]? = some (.cells (mC N P' C') 26 (0, 0)) := by
    rw [← hw2, Below.heap_alloc _ _ _ (by simp)]
    have := World.alloc_heap_new (w.alloc (.cells (mC M P C) 26)) (.cells (mC N P' C') 26)
    rwa [World.size_alloc] at this
  have q2 : w2.heap[w.heap.size + 1 + 1]? = some (.cells f.cs 87 (0, 0)) := by
    rw [← hw2]
    have := World.alloc_heap_new ((w.alloc (.cells (mC M P C) 26)).alloc (.cells (mC N P' C') 26)) (.cells f.cs 87)
    rwa [World.size_alloc, World.size_alloc] at this
  obtain ⟨_, d1, d2, _, _, _, _⟩ := fd_block q2
  have HW2 := Lib.hid hw2
  have HB2 := Lib.hid hb2
  unfold likeF
  rcases hf with ⟨hso, jj, hj6, hpl⟩ | ⟨hso, hpl⟩
  · have k0 := mg_at q0 hj6
    have k1 := mg_at q1 hj6
    rw [hso] at d1
    rw [hpl] at d2
    rw [if_neg (by omega), hpl, Int.toNat_natCast]
    obtain ⟨x, hx⟩ : ∃ x, M.at' jj = x := ⟨_, rfl⟩
    obtain ⟨y, hy⟩ : ∃ y, N.at' jj = y := ⟨_, rfl⟩
    rw [hx] at k0 ⊢
    rw [hy] at k1 ⊢
    have hz6 : (jj : Int) < 6 := by omega
    have hz0 : (0 : Int) ≤ (jj : Int) := by omega
    rw [← hw2] at d1 d2 k0 k1
    clear hx hy hw2 hb2 q0 q1 q2 hso hpl
    unfold Fd.v
    go_enter Tryz.func35, Tryz.ntmps35
    go_wp2_with fail
    go_quiet (fail)
    rw [HW2.out]
    go_wp2
    go_ret
    refine ⟨?_, below_drewN HB2.out _⟩
    rw [show decide (x = y) = (x == y) by by_cases h : x = y <;> simp [h]]
    rfl
  · have k0 := row_cell q0 10 (.string M.tg) rfl
    have k1 := row_cell q1 10 (.string N.tg) rfl
    rw [hso] at d1
    rw [if_pos hso]
    obtain ⟨x, hx⟩ : ∃ x, M.tg = x := ⟨_, rfl⟩
    obtain ⟨y, hy⟩ : ∃ y, N.tg = y := ⟨_, rfl⟩
    rw [hx] at k0 ⊢
    rw [hy] at k1 ⊢
    rw [← hw2] at d1 k0 k1
    clear hx hy hw2 hb2 q0 q1 q2 d2 hso hpl
    unfold Fd.v
    by_cases hxy : x = y
    · subst hxy
      rw [decide_eq_true rfl]
      go_enter Tryz.func35, Tryz.ntmps35
      go_wp2
      go_ret
      refine ⟨rfl, ?_⟩
      rw [HW2.out]
      exact HB2.out
    · rw [decide_eq_false hxy]
      have hne := str_ne hxy
      go_enter Tryz.func35, Tryz.ntmps35
      go_wp2
      go_ret
      refine ⟨rfl, ?_⟩
      rw [HW2.out]
      exact HB2.out

theorem lost_func (p q : Nat) (w : World) : (Instr.makeFunc (.func 33) #[] #[.pointer (some ⟨p, 0, none⟩), .pointer (some ⟨q, 0, none⟩)]).run Tryz.prog w = .ok (.func (.func 33) #[] #[.pointer (some ⟨p, 0, none⟩), .pointer (some ⟨q, 0, none⟩)]) w := by
  kernel_rfl
/-- what Lost answers: nothing to hand out, or a message and its projection in two boxes -/
theorem slost_no (M : Mg) (P C : Value) (v : Int) (w : World) (hs : Msm M) (h1 : MAt w w.heap.size M P C) (hE : mck M ≠ 0) : Calls Tryz.prog 11 #[mV M P C, .int .i64 v] w fun e w' => e = .returned (.func (.func 30) #[] #[]) ∧ Below w.heap.size w w' := by
  obtain ⟨w2, hw2⟩ : ∃ w2, w.alloc (.cells (mC M P C) 26) = w2 := ⟨_, rfl⟩
  have hb2 : Below w.heap.size w w2 := by rw [← hw2]; exact (Below.refl _ w).alloc (Nat.le_refl _) _
  have q0 : w2.heap[w.heap.size]? = some (.cells (mC M P C) 26 (0, 0)) := by rw [← hw2]; exact World.alloc_heap_new _ _
  have KC : Calls Tryz.prog 25 #[.agg (mC M P C)] w2 fun e w' => e = .returned (.int .i64 (mck M)) ∧ Below w2.heap.size w2 w' := chk_F hs ⟨P, C, rfl, h1.later hb2⟩
  have LM := Lib.hid (mg_read q0)
  have HW2 := Lib.hid hw2
  have HB2 := Lib.hid hb2
  obtain ⟨E, hEe⟩ : ∃ E, mck M = E := ⟨_, rfl⟩
  rw [hEe] at KC hE
  have KC := Lib.hid KC
  have e1 : (E != 0) = true := by simpa using hE
  clear hw2 hb2 q0 h1 hEe
  unfold mV at *
  go_enter Tryz.func11, Tryz.ntmps11
  go_wp2_with (rw [HW2.out]; refine wpList_load_run rfl 26 (.tmp 2) rfl (some ⟨w.heap.size, 0, none⟩) rfl (.agg (mC M P C)) LM.out ?_)
  refine KC.out.mono ?_
  rintro e w3 ⟨rfl, hb3⟩
  have HF := Lib.hid (HB2.out.trans (hb3.mono HB2.out.size))
  clear hb3 KC
  go_wp2
  go_ret
  exact ⟨rfl, HF.out⟩
/-- a message box of the call's own -/
def LBx (B : Nat) (x : Value) (W : World) : Prop := ∃ g, x = .pointer (some ⟨g, 0, none⟩) ∧ B ≤ g ∧ W.heap[g]? = some (.cells #[.int .i64 0, .int .i64 0, .int .i64 0, .int .i64 0, .int .i64 0, .int .i64 0, .int .i64 0, .slice none 0 0, .slice none 0 0, .string ⟨#[]⟩, .string ⟨#[]⟩] 26 (0, 0))
def LMs (M : Mg) (x : Value) : Prop := ∃ a n c a' n' c', x = mV M (.slice a n c) (.slice a' n' c')
def FLo (B : Nat) (M N : Mg) (s : Tmp) (x : Value) (W : World) : Prop := (s = 11 → LMs M x) ∧ (s = 14 → LMs N x) ∧ (s = 5 ∨ s = 6 → LBx B x W)
def PLo (s : Tmp) (x : Value) (s' : Tmp) (x' : Value) : Prop := s = 5 ∨ s = 6 → s' = 5 ∨ s' = 6 → x ≠ x'
theorem FLo.later {B : Nat} {M N : Mg} {s : Tmp} {x : Value} {W W' : World} (h : FLo B M N s x W) (hb : Below W.heap.size W W') : FLo B M N s x W' := ⟨h.1, h.2.1, fun e => by
  obtain ⟨g, h1, h2, h3⟩ := h.2.2 e
  exact ⟨g, h1, h2, (hb.block _ (Array.getElem?_eq_some_iff.1 h3).1).trans h3⟩⟩
theorem FMs.two {M : Mg} {x : Value} {W : World} (h : FMs M x W) : LMs M x := by
  obtain ⟨P, C, rfl, ⟨⟨a, c, rfl, _, _⟩, ⟨a', c', rfl, _, _⟩⟩⟩ := h
  exact ⟨_, _, _, _, _, _, rfl⟩
theorem lbx_new (B : Nat) (M N : Mg) (s : Tmp) (hs : s = 5 ∨ s = 6) (fs : List Tmp) {w : World} (hB : B ≤ w.heap.size) : FLo B M N s (.pointer (some ⟨w.heap.size, 0, none⟩)) (w.alloc (.cells #[.int .i64 0, .int .i64 0, .int .i64 0, .int .i64 0, .int .i64 0, .int .i64 0, .int .i64 0, .slice none 0 0, .slice none 0 0, .string ⟨#[]⟩, .string ⟨#[]⟩] 26)) ∧ Below w.heap.size w (w.alloc (.cells #[.int .i64 0, .int .i64 0, .int .i64 0, .int .i64 0, .int .i64 0, .int .i64 0, .int .i64 0, .slice none 0 0, .slice none 0 0, .string ⟨#[]⟩, .string ⟨#[]⟩] 26)) ∧
    ∀ d' ∈ fs, d' ≠ s → ∀ x', FLo B M N d' x' w → PLo s (.pointer (some ⟨w.heap.size, 0, none⟩)) d' x' ∧ PLo d' x' s (.pointer (some ⟨w.heap.size, 0, none⟩)) := by
  refine ⟨⟨fun e => by rcases hs with rfl | rfl <;> exact absurd e (by decide), fun e => by rcases hs with rfl | rfl <;> exact absurd e (by decide), fun _ => ⟨_, rfl, hB, World.alloc_heap_new _ _⟩⟩, (Below.refl _ _).alloc (Nat.le_refl _) _, fun d' _ _ x' hx => ?_⟩
  have key : d' = 5 ∨ d' = 6 → x' ≠ .pointer (some ⟨w.heap.size, 0, none⟩) := fun h e => by
    obtain ⟨g, h1, _, h3⟩ := hx.2.2 h
    rw [h1] at e
    injection e with e
    injection e with e
    injection e with e
    subst e
    have := (Array.getElem?_eq_some_iff.1 h3).1
    omega
  exact ⟨fun _ h e => key h e.symm, fun h _ e => key h e⟩
set_option maxHeartbeats 8000000 in
theorem slost_yes (M : Mg) (P C : Value) (v : Int) (w : World) (hs : Msm M) (h1 : MAt w w.heap.size M P C) (hE : mck M = 0) : Calls Tryz.prog 11 #[mV M P C, .int .i64 v] w fun e w' => ∃ b d P1 C1 P2 C2, e = .returned (.func (.func 33) #[] #[.pointer (some ⟨b, 0, none⟩), .pointer (some ⟨d, 0, none⟩)]) ∧ w.heap.size ≤ b ∧ w.heap.size ≤ d ∧ w'.heap[b]? = some (.cells (mC M P1 C1) 26 (0, 0)) ∧ w'.heap[d]? = some (.cells (mC (mproj M v) P2 C2) 26 (0, 0)) ∧ Below w.heap.size w w' := by
  obtain ⟨w2, hw2⟩ : ∃ w2, w.alloc (.cells (mC M P C) 26) = w2 := ⟨_, rfl⟩
  have hb2 : Below w.heap.size w w2 := by rw [← hw2]; exact (Below.refl _ w).alloc (Nat.le_refl _) _
  have q0 : w2.heap[w.heap.size]? = some (.cells (mC M P C) 26 (0, 0)) := by rw [← hw2]; exact World.alloc_heap_new _ _
  have hlt := (Array.getElem?_eq_some_iff.1 q0).1
  have KC : Calls Tryz.prog 25 #[.agg (mC M P C)] w2 fun e w' => e = .returned (.int .i64 (mck M)) ∧ Below w2.heap.size w2 w' := chk_F hs ⟨P, C, rfl, h1.later hb2⟩
  rw [hE] at KC
  have KC := Lib.hid KC
  have LM := Lib.hid (mg_read q0)
  have HW2 := Lib.hid hw2
  have HB2 := Lib.hid hb2
  have HQ := Lib.hid q0
  have HFM : Hid (∀ W, Below w2.heap.size w2 W → FMs M (.agg (mC M P C)) W) := Lib.hid fun W hW => ⟨P, C, rfl, (h1.later hb2).later hW⟩
  obtain ⟨N, hN⟩ : ∃ N, mproj M v = N := ⟨_, rfl⟩
  rw [hN]
  clear hw2 hb2 q0 h1 hE
  unfold mV at *
  go_enter Tryz.func11, Tryz.ntmps11
  go_wp2_with (rw [HW2.out]; refine wpList_load_run rfl 26 (.tmp 2) rfl (some ⟨w.heap.size, 0, none⟩) rfl (.agg (mC M P C)) LM.out ?_)
  refine KC.out.mono ?_
  rintro e w3 ⟨rfl, hb3⟩
  have HB3 := Lib.hid hb3
  have LM3 : ∀ W, Below w3.heap.size w3 W → (Instr.loadAt 26 (.pointer (some ⟨w.heap.size, 0, none⟩))).run Tryz.prog W = .ok (.agg (mC M P C)) W := fun W hW => mg_read (((hb3.trans (hW.mono hb3.size)).block _ hlt).trans HQ.out)
  have FM3 : ∀ W, Below w3.heap.size w3 W → FMs M (.agg (mC M P C)) W := fun W hW => HFM.out W (hb3.trans (hW.mono hb3.size))
  clear hb3 KC LM
  go_wp2_with fail
  refine wp_region_FTP 16 7 [11, 14, 5, 6] (FLo w3.heap.size M N) PLo (fun W => Below w3.heap.size w3 W) (by kernel_rfl) (by kernel_rfl) (by rfl) (by kernel_rfl) (by kernel_rfl) (by kernel_rfl) (by rfl) (by simp) (fun W W' h hb => h.trans (hb.mono h.size)) (fun s x W W' h hb => h.later hb) (Below.refl _ _).drew ?_
  simp only [List.take_succ_cons, List.take_zero, List.drop_succ_cons, List.drop_zero]
  refine wpP_F rfl ?_
  refine wpF_load (ad := ⟨w.heap.size, 0, none⟩) (.agg (mC M P C)) rfl (by rfl) (by rfl) (by rfl) LM3 ?_
  refine wpF_end ?_
  simp only [Act.put, List.setIfInBounds_toArray, List.set_cons_succ, List.set_cons_zero]
  refine wpP_callsrc 11 (f := 31) (args := #[.agg (mC M P C)]) (by simp) rfl rfl rfl (fun x => by first | rfl | (simp [go_sem]; done)) (fun W hW => (copy_F hs (FM3 W hW)).mono fun e w' h => by
    obtain ⟨u, e1, h2, h3⟩ := h
    exact ⟨u, e1, ⟨fun _ => h2.two, fun e => absurd e (by decide), fun e => absurd e (by decide)⟩, h3⟩) (fun u d' _ _ x' => ⟨fun e => absurd e (by decide), fun _ e => absurd e (by decide)⟩) ?_
  simp only [Act.put, List.setIfInBounds_toArray, List.set_cons_succ, List.set_cons_zero]
  refine wpP_F rfl ?_
  refine wpF_load (ad := ⟨w.heap.size, 0, none⟩) (.agg (mC M P C)) rfl (by rfl) (by rfl) (by rfl) LM3 ?_
  refine wpF_end ?_
  simp only [Act.put, List.setIfInBounds_toArray, List.set_cons_succ, List.set_cons_zero]
  refine wpP_F rfl ?_
  refine wpF_pure rfl rfl ?_; go_big_quiet_step (fail); refine wpQuiet_nil ?_
  refine wpF_end ?_
  refine wpP_callsrc 14 (f := 32) (args := #[.agg (mC M P C), .int .i64 v]) (by simp) rfl rfl rfl (fun x => by first | rfl | (simp [go_sem]; done)) (fun W hW => (proj_F v hs (FM3 W hW)).mono fun e w' h => by
    obtain ⟨u, e1, h2, h3⟩ := h
    rw [hN] at h2
    exact ⟨u, e1, ⟨fun e => absurd e (by decide), fun _ => h2.two, fun e => absurd e (by decide)⟩, h3⟩) (fun u d' _ _ x' => ⟨fun e => absurd e (by decide), fun _ e => absurd e (by decide)⟩) ?_
  simp only [Act.put, List.setIfInBounds_toArray, List.set_cons_succ, List.set_cons_zero]
  have hzz : ∀ W : World, (zeroValue 26).run Tryz.prog W = .ok (.agg #[.int .i64 0, .int .i64 0, .int .i64 0, .int .i64 0, .int .i64 0, .int .i64 0, .int .i64 0, .slice none 0 0, .slice none 0 0, .string ⟨#[]⟩, .string ⟨#[]⟩]) W := fun W => by kernel_rfl
  refine wpP_new 5 (by simp) rfl (by kernel_rfl) (by kernel_rfl) (fun W hW => ?_) ?_
  · obtain ⟨k1, k2, k3⟩ := lbx_new w3.heap.size M N 5 (.inl rfl) [11, 14, 5, 6] hW.size
    exact ⟨.pointer (some ⟨W.heap.size, 0, none⟩), _, by simp [execOp, go_sem, hzz W]; try rfl, k1, k2, k3⟩
  simp only [Act.put, List.setIfInBounds_toArray, List.set_cons_succ, List.set_cons_zero]
  refine wpP_new 6 (by simp) rfl (by kernel_rfl) (by kernel_rfl) (fun W hW => ?_) ?_
  · obtain ⟨k1, k2, k3⟩ := lbx_new w3.heap.size M N 6 (.inr rfl) [11, 14, 5, 6] hW.size
    exact ⟨.pointer (some ⟨W.heap.size, 0, none⟩), _, by simp [execOp, go_sem, hzz W]; try rfl, k1, k2, k3⟩
  simp only [Act.put, List.setIfInBounds_toArray, List.set_cons_succ, List.set_cons_zero]
  intro xs w4 hb4 hx hpr
  obtain ⟨a1, n1, c1, a2, n2, c2, e11⟩ := (hx 11 (by simp)).1 rfl
  obtain ⟨a3, n3, c3, a4, n4, c4, e14⟩ := (hx 14 (by simp)).2.1 rfl
  obtain ⟨g5, e5, hg5, h5⟩ := (hx 5 (by simp)).2.2 (.inl rfl)
  obtain ⟨g6, e6, hg6, h6⟩ := (hx 6 (by simp)).2.2 (.inr rfl)
  have hne : g5 ≠ g6 := fun e => hpr 5 (by simp) 6 (by simp) (by decide) (.inl rfl) (.inr rfl) (by rw [e5, e6, e])
  simp only [fill, Act.put, List.setIfInBounds_toArray, List.set_cons_succ, List.set_cons_zero]
  rw [e5, e6, e11, e14]
  clear hx hpr e5 e6 e11 e14 hzz LM3 FM3
  have st5 := mg_store w4 g5 _ (mC M (.slice a1 n1 c1) (.slice a2 n2 c2)) h5 rfl rfl (mg_one _ _ _ _ _ _ _)
  have row5 := setRow_heap w4 g5 _ (mC M (.slice a1 n1 c1) (.slice a2 n2 c2)) _ _ h5
  have of5 := Off.setRow (S := fun q => q = g5) (Off.refl _ w4) rfl (mC M (.slice a1 n1 c1) (.slice a2 n2 c2))
  obtain ⟨w5, hw5⟩ : ∃ w5, w4.setRow g5 (mC M (.slice a1 n1 c1) (.slice a2 n2 c2)) = w5 := ⟨_, rfl⟩
  rw [hw5] at st5 row5 of5
  have q6 := (of5.block g6 (Array.getElem?_eq_some_iff.1 h6).1 (fun e => hne e.symm)).trans h6
  have st6 := mg_store w5 g6 _ (mC N (.slice a3 n3 c3) (.slice a4 n4 c4)) q6 rfl rfl (mg_one _ _ _ _ _ _ _)
  have row6 := setRow_heap w5 g6 _ (mC N (.slice a3 n3 c3) (.slice a4 n4 c4)) _ _ q6
  have of6 := Off.setRow (S := fun q => q = g6) (Off.refl _ w5) rfl (mC N (.slice a3 n3 c3) (.slice a4 n4 c4))
  obtain ⟨w6, hw6⟩ : ∃ w6, w5.setRow g6 (mC N (.slice a3 n3 c3) (.slice a4 n4 c4)) = w6 := ⟨_, rfl⟩
  rw [hw6] at st6 row6 of6
  have q5 := (of6.block g5 (Array.getElem?_eq_some_iff.1 row5).1 hne).trans row5
  have h23 := HB3.out.size
  have h02 := HB2.out.size
  have hb24 := HB3.out.trans (hb4.mono h23)
  have hb45 : Below w2.heap.size w4 w5 := of5.below (fun q hq => by omega) (by have := hb4.size; omega)
  have hb56 : Below w2.heap.size w5 w6 := of6.below (fun q hq => by omega) (by have := hb45.size; have := hb4.size; omega)
  have HF := Lib.hid (HB2.out.trans ((hb24.trans (hb45.trans hb56)).mono h02))
  have HST5 := Lib.hid st5
  have HST6 := Lib.hid st6
  have HQ56 := Lib.hid (And.intro q5 row6)
  have hfn := lost_func g5 g6 w6
  have h05 : w.heap.size ≤ g5 := by omega
  have h06 : w.heap.size ≤ g6 := by omega
  clear st5 row5 of5 hw5 q6 st6 row6 of6 hw6 q5 hb24 hb45 hb56 h5 h6 hb4
  refine wpList_store_run rfl 26 (.tmp 5) (.tmp 11) rfl (some ⟨g5, 0, none⟩) rfl (.agg (mC M (.slice a1 n1 c1) (.slice a2 n2 c2))) rfl HST5.out ?_
  refine wpList_store_run rfl 26 (.tmp 6) (.tmp 14) rfl (some ⟨g6, 0, none⟩) rfl (.agg (mC N (.slice a3 n3 c3) (.slice a4 n4 c4))) rfl HST6.out ?_
  go_wp2
  go_ret
  exact ⟨g5, g6, _, _, _, _, rfl, h05, h06, HQ56.out.1, HQ56.out.2, HF.out⟩
end Go.Proofs.YtlbfibnfmijahaaGreat

namespace Go.Proofs.YtlbfibnfmijahaaGreat
open Go.RowKit Go.Shelf
set_option maxRecDepth 100000
attribute [local go_sem] Oper.semAt_some

end Go.Proofs.YtlbfibnfmijahaaGreat

namespace Go.Proofs.YtlbfibnfmijahaaGreat
open Go.RowKit Go.Shelf
set_option maxRecDepth 100000
attribute [local go_sem] Oper.semAt_some

end Go.Proofs.YtlbfibnfmijahaaGreat

namespace Go.Proofs.YtlbfibnfmijahaaGreat
open Go.RowKit Go.Shelf
set_option maxRecDepth 100000
attribute [local go_sem] Oper.semAt_some

end Go.Proofs.YtlbfibnfmijahaaGreat

namespace Go.Proofs.YtlbfibnfmijahaaGreat
open Go.RowKit Go.Shelf
set_option maxRecDepth 100000
attribute [local go_sem] Oper.semAt_some

/-- is a field to be handed out? -/
def lostP (M : Mg) (v : Int) (f : Fd) : Bool := decide (f.si = 2) && !(likeF M (mproj M v) f)
theorem lostP_all {M : Mg} (h : mck M = 0) (v : Int) : (FD M.k).filter (lostP M v) = mlost M v := by
  unfold mlost
  by_cases hv : v = 1
  · subst hv
    rw [if_neg (by simp [h])]
    refine List.filter_congr fun f hf => ?_
    rw [lost_alt M f hf]
    unfold lostP likeF
    rcases (Int.lt_or_le f.si 2) with h2 | h2
    · simp [show ¬ f.si = 2 by omega]
    · have hs2 : f.si = 2 := by
        have := (FD_all M.k f hf).1
        omega
      rcases FD_two M.k f hf hs2 with ⟨hso, jj, _, hpl⟩ | ⟨hso, _⟩
      · simp [hs2, hso, hpl]
      · simp [hs2, hso]
  · rw [if_pos (.inr hv), List.filter_eq_nil_iff]
    intro f _
    unfold lostP likeF mproj
    rw [if_neg hv]
    simp
/-- the iterator of a message that isn't right hands out nothing -/
theorem slost_none (n : Nat) (y : Value) (W : World) (Q : World → Prop) (h : Q W) : CallsIn Fence.wide n Tryz.prog 30 #[y] W fun e W' => (∃ v, e = .returned v) ∧ Q W' := by
  refine callsIn_of_wp Tryz.func30 rfl trivial ?_ rfl
  simp only [Tryz.ntmps30, List.size_toArray, List.length_cons, List.length_nil, Nat.reduceAdd, Nat.reduceSub, Array.replicate_succ, Array.replicate_zero, List.push_toArray, List.append_toArray, List.nil_append, List.cons_append]
  gi_wp2
  go_end0
  exact ⟨⟨_, rfl⟩, h⟩
set_option maxHeartbeats 16000000 in
/-- the iterator of a right one: the names of what is lost -/
theorem slost_in (n : Nat) (hn5 : 5 ≤ n) (m' l b d s0 : Nat) (M : Mg) (P C P2 C2 : Value) (v : Int) (LL : List Fd) (hLL : (FD M.k).filter (lostP M v) = LL) (Dn : Nat → World → Prop) (Bk Xp : World → Prop) (Kp : World → World → Prop) (hls : l < s0 + 2)
    (hDb : ∀ j A B, Dn j A → Below s0 A B → Dn j B)
    (hDm : ∀ j V, Dn j V → V.heap[b]? = some (.cells (mC M P C) 26 (0, 0)) ∧ V.heap[d]? = some (.cells (mC (mproj M v) P2 C2) 26 (0, 0)))
    (hBk : ∀ A B, Bk A → A.heap.size ≤ B.heap.size → (∀ k, s0 ≤ k → k < s0 + 2 → B.heap[k]? = A.heap[k]?) → Bk B) (hBlt : ∀ A, Bk A → s0 + 2 ≤ A.heap.size)
    (hX : ∀ A l' o o', Xp A → s0 + 2 ≤ l' → A.heap[l']? = some o → o.isCells = false → Xp (A.putObj l' o'))
    (hKp : ∀ V V' k cs t, Kp V V' → s0 + 2 ≤ k → V.heap[k]? = some (.cells cs t (0, 0)) → V'.heap[k]? = some (.cells cs t (0, 0)))
    (hY : ∀ (j : Nat) (f : Fd) (V : World), Dn j V → LL[j]? = some f → Bk V → YieldAt Fence.wide m' Tryz.prog l #[.string f.nm] V (YPost s0 l Kp (fun W2 => Dn (j + 1) W2 ∧ Bk W2) Xp V))
    (W : World) (hD0 : Dn 0 W) (hB0 : Bk W) :
    CallsIn Fence.wide n Tryz.prog 33 #[.func (.yield l) #[] #[], .pointer (some ⟨b, 0, none⟩), .pointer (some ⟨d, 0, none⟩)] W fun e W' => (∃ v, e = .returned v) ∧ ((Dn LL.length W' ∧ Bk W') ∨ Xp W') := by
  have hn1 : 1 ≤ n := by omega
  have hsW := hBlt W hB0
  obtain ⟨m0, _⟩ := hDm 0 W hD0
  have hbl := (Array.getElem?_eq_some_iff.1 m0).1
  obtain ⟨yb, hyb⟩ : ∃ yb, W.heap.size = yb := ⟨_, rfl⟩
  obtain ⟨w1, hw1⟩ : ∃ w1, W.alloc (.cells #[.func (.yield l) #[] #[]] 82) = w1 := ⟨_, rfl⟩
  have hb1 : Below yb W w1 := by rw [← hw1, ← hyb]; exact (Below.refl _ W).alloc (Nat.le_refl _) _
  have y1 : w1.heap[yb]? = some (.cells #[.func (.yield l) #[] #[]] 82 (0, 0)) := by rw [← hw1, ← hyb]; exact World.alloc_heap_new _ _
  have hs1 : w1.heap.size = yb + 1 := by rw [← hw1, ← hyb]; simp
  have m1 := (hb1.block _ (by omega)).trans m0
  have k1 := row_cell m1 0 (.int .i64 M.k) rfl
  have HTW := Lib.hid (FD_two M.k)
  have HAL := Lib.hid (FD_all M.k)
  have HY := Lib.hid hY
  have HW1 := Lib.hid hw1
  have HDM := Lib.hid hDm
  have KA := Lib.hid (fall_any M.k 2 w1)
  rw [hs1] at KA
  obtain ⟨N, hN⟩ : ∃ N, mproj M v = N := ⟨_, rfl⟩
  obtain ⟨FL, hFL⟩ : ∃ FL, FD M.k = FL := ⟨_, rfl⟩
  have hF2 := FDv_two M.k
  have hpf : ∀ f, lostP M v f = (decide (f.si = 2) && !(likeF M N f)) := fun f => by unfold lostP; rw [hN]
  obtain ⟨lp, hlp⟩ : ∃ lp, lostP M v = lp := ⟨_, rfl⟩
  rw [hlp] at hpf hLL
  rw [hFL] at hLL HTW HAL hF2
  rw [hN] at HDM
  have HF2 := Lib.hid hF2
  have HPF := Lib.hid hpf
  have HLL := Lib.hid hLL
  clear hY hw1 m1 hN hFL hF2 hpf hlp hLL hDm
  refine callsIn_of_wp_marks Tryz.func33 rfl trivial ?_ rfl
  simp only [Tryz.ntmps33, List.size_toArray, List.length_cons, List.length_nil, Nat.reduceAdd, Nat.reduceSub, Array.replicate_succ, Array.replicate_zero, List.push_toArray, List.append_toArray, List.nil_append, List.cons_append]
  gi_wp2_with fail
  refine wpIn_wide.2 (wp_scope_straight ((wpIn_wide (n := n)).1 ?_))
  gi_wp2_with fail
  apply wpIn_label
  rw [HW1.out]
  gi_wp2_with fail
  refine ⟨trivial, (callsIn_wide.2 KA.out).mono ?_⟩
  rintro e w6 ⟨rfl, hg0, hg1, hb6⟩
  have hs6 := (Array.getElem?_eq_some_iff.1 hg1).1
  have hbW6 : Below yb W w6 := hb1.trans (hb6.mono (by omega))
  have y6 := (hb6.block _ (by omega)).trans y1
  have hsy : s0 ≤ yb := by omega
  have hD6 := hDb 0 _ _ hD0 (hbW6.mono hsy)
  have hB6 : Bk w6 := hBk _ _ hB0 hbW6.size (fun k _ h2 => hbW6.block k (by omega))
  obtain ⟨BX, hBX⟩ : ∃ BX : World → Prop, BX = fun V => w6.heap.size ≤ V.heap.size ∧ V.heap[yb]? = some (.cells #[.func (.yield l) #[] #[]] 82 (0, 0)) ∧ V.heap[yb + 1]? = some (.cells #[.int .i64 M.k] 3 (0, 0)) ∧ V.heap[yb + 1 + 1]? = some (.cells #[.int .i64 2] 3 (0, 0)) := ⟨_, rfl⟩
  have hBX0 : ∀ V, BX V → w6.heap.size ≤ V.heap.size ∧ V.heap[yb]? = some (.cells #[.func (.yield l) #[] #[]] 82 (0, 0)) ∧ V.heap[yb + 1]? = some (.cells #[.int .i64 M.k] 3 (0, 0)) ∧ V.heap[yb + 1 + 1]? = some (.cells #[.int .i64 2] 3 (0, 0)) := fun V hV => by rwa [hBX] at hV
  have hBXb : ∀ V V', BX V → Below w6.heap.size V V' → BX V' := fun V V' h hb => by
    rw [hBX] at h ⊢
    exact ⟨Nat.le_trans h.1 hb.size, (hb.block _ (by omega)).trans h.2.1, (hb.block _ (by omega)).trans h.2.2.1, (hb.block _ (by omega)).trans h.2.2.2⟩
  have hBXk : ∀ V V', BX V → Kp V V' → V.heap.size ≤ V'.heap.size → BX V' := fun V V' h hk hsz => by
    rw [hBX] at h ⊢
    exact ⟨Nat.le_trans h.1 hsz, hKp _ _ _ _ _ hk (by omega) h.2.1, hKp _ _ _ _ _ hk (by omega) h.2.2.1, hKp _ _ _ _ _ hk (by omega) h.2.2.2⟩
  have hBX6 : BX w6 := by rw [hBX]; exact ⟨Nat.le_refl _, y6, hg0, hg1⟩
  have hJb : ∀ j V, Dn j V ∧ Bk V ∧ BX V → ∀ V', Below w6.heap.size V V' → Dn j V' ∧ Bk V' ∧ BX V' := fun j V h V' hb =>
    ⟨hDb _ _ _ h.1 (hb.mono (by omega)), hBk _ _ h.2.1 hb.size (fun k _ h2 => hb.block k (by omega)), hBXb _ _ h.2.2 hb⟩
  obtain ⟨cnt, hcnt⟩ : ∃ cnt : Nat → Nat, cnt = fun p => ((FL.take p).filter lp).length := ⟨_, rfl⟩
  have hc0 : cnt 0 = 0 := by rw [hcnt]; simp
  have hcS : ∀ p f, FL[p]? = some f → cnt (p + 1) = cnt p + (if lp f then 1 else 0) := fun p f hf => by rw [hcnt]; exact filter_take hf
  have hcG : ∀ p f, FL[p]? = some f → lp f = true → LL[cnt p]? = some f := fun p f hf h => by rw [hcnt, ← HLL.out]; exact filter_get hf h
  have hcE : cnt FL.length = LL.length := by rw [hcnt, ← HLL.out]; simp
  have HCS := Lib.hid hcS
  have HCG := Lib.hid hcG
  have HCE := Lib.hid hcE
  clear hBX hbW6 y6 y1 hg0 hg1 hb1 hb6 k1 m0 KA HW1 hcnt hcS hcG hcE
  rw [← hc0] at hD0 hD6
  clear hD0
  gi_wp2_with fail
  refine range_stopb rfl hn1 (gf := 51) (lb := #[.pointer (some ⟨yb + 1, 0, none⟩), .pointer (some ⟨yb + 1 + 1, 0, none⟩)]) rfl trivial (enters_of Tryz.func51 (by kernel_rfl) rfl)
    (fun f : Fd => #[f.v]) (fun _ => rfl)
    (fun j f V => FL[j]? = some f ∧ Dn (cnt j) V ∧ Bk V ∧ BX V)
    (fun j f q V => (FL[j]? = some f ∧ Dn (cnt j) V ∧ Bk V ∧ BX V) ∧ w6.heap.size ≤ q ∧ V.heap[q]? = some (.cells f.cs 87 (0, 0)))
    (fun j V => Dn (cnt j) V ∧ Bk V ∧ BX V)
    (fun cd V => cd = .exit 0 ∧ Xp V)
    (KeT 87 3 (yb + 1)) FL.length
    (fun j f q V l' o o' h hl ho hc' => ⟨⟨h.1.1, hJb _ V h.1.2 _ (below_put V o' hl)⟩, h.2.1, (World.putObj_heap_other (fun e => by subst e; rw [h.2.2] at ho; injection ho with ho; subst ho; cases hc')).trans h.2.2⟩)
    (fun j V l' o o' h hl ho hc' => hJb _ V h _ (below_put V o' hl))
    (fun cd V l' o o' h hl ho hc' => ⟨h.1, hX V l' o o' h.2 (by omega) ho hc'⟩)
    (fun _ _ _ h k => h.trans k) (fun V l' o o' hl ho hc' => KeT.putObj ho hc')
    (fun o => hJb _ w6 ⟨hD6, hB6, hBX6⟩ _ (((Below.refl w6.heap.size w6).alloc (Nat.le_refl _) _).alloc (by simp) _)) ?round ?iter ?done ?stop
  case round =>
    rintro l2 j f V K ⟨hf, hJ⟩ hj hK
    have HK := Lib.hid hK
    have hsz := (hBX0 V hJ.2.2).1
    clear hK hD6 hB6 hBX6
    unfold Fd.v Fd.cs
    gi_wp2_with fail
    refine HK.out _ V.heap.size _ ⟨⟨hf, hJb _ V hJ _ ((Below.refl _ V).alloc hsz _)⟩, hsz, World.alloc_heap_new _ _⟩ ⟨by simp, fun q o _ ho _ => (Below.heap_alloc _ _ _ (Array.getElem?_eq_some_iff.1 ho).1).trans ho⟩ (KeT.of_below ((Below.refl _ V).alloc (Nat.le_refl _) _)) ?_
    clear HK hJ
    rintro l2 V2 hl2 ⟨⟨_, hJ⟩, hq, hc⟩
    obtain ⟨qb, hqb⟩ : ∃ qb, V.heap.size = qb := ⟨_, rfl⟩
    rw [hqb] at hq hc ⊢
    clear hqb
    obtain ⟨m2, n2⟩ := HDM.out _ V2 hJ.1
    obtain ⟨hs2, y2, _⟩ := hBX0 V2 hJ.2.2
    have hqlt := (Array.getElem?_eq_some_iff.1 hc).1
    obtain ⟨d0, _, _, _, _, d5, _⟩ := fd_block hc
    have hal := (HAL.out f (List.mem_of_getElem? hf)).1
    have htw := HTW.out f (List.mem_of_getElem? hf)
    have hcs := HCS.out j f hf
    have hcg := HCG.out j f hf
    have hpf := HPF.out f
    have HJ := Lib.hid hJ
    have HF := Lib.hid hf
    have HM2 := Lib.hid m2
    have HN2 := Lib.hid n2
    have HC2 := Lib.hid hc
    have HY2 := Lib.hid y2
    clear hJ hf m2 n2 hc y2
    by_cases h2 : f.si < 2
    · have hlf : lp f = false := by rw [hpf]; simp; omega
      rw [hlf] at hcs
      have hfin := Lib.hid (show KeepsFrom w6.heap.size V2 V2 ∧ (Dn (cnt (j + 1)) V2 ∧ Bk V2 ∧ BX V2) ∧ KeT 87 3 (yb + 1) V2 V2 from ⟨⟨Nat.le_refl _, fun _ _ _ ho _ => ho⟩, (by rw [hcs]; exact HJ.out), KeT.refl _⟩)
      clear hcs hcg hpf htw hal hlf
      gi_wp2
      exact hfin.out
    · obtain hsi : f.si = 2 := by omega
      have htw := htw hsi
      rw [hsi] at d5
      have KL := Lib.hid (alike_any M N f P C P2 C2 V2 htw)
      have LM := Lib.hid (mg_read HM2.out)
      have LN := Lib.hid (mg_read HN2.out)
      have LF : Hid ((Instr.loadAt 87 (.pointer (some ⟨qb, 0, none⟩))).run Tryz.prog V2 = .ok f.v V2) := by
        obtain ⟨t0, t1, t2, t3, t4, t5, t6⟩ := fd_block HC2.out
        exact Lib.hid (by simp [Instr.loadAt, go_sem, t0, t1, t2, t3, t4, t5, t6, Fd.v, Fd.cs])
      unfold mV at LM LN
      have hlf : lp f = !(likeF M N f) := by rw [hpf, hsi]; simp
      obtain ⟨Lk, hLk⟩ : ∃ Lk, likeF M N f = Lk := ⟨_, rfl⟩
      rw [hLk] at KL hlf
      clear hLk hpf htw hal h2 hsi
      gi_wp2_with (first | refine wpListIn_load_run rfl 26 (.tmp 1) rfl (some ⟨b, 0, none⟩) rfl (.agg (mC M P C)) LM.out ?_ | refine wpListIn_load_run rfl 26 (.tmp 2) rfl (some ⟨d, 0, none⟩) rfl (.agg (mC N P2 C2)) LN.out ?_ | refine wpListIn_load_run rfl 87 (.tmp 4) rfl (some ⟨qb, 0, none⟩) rfl f.v LF.out ?_)
      refine ⟨trivial, fun _ => by omega, ?_⟩
      refine (CallsIn.inRound l2 (callsIn_wide.2 KL.out)).mono ?_
      rintro e V3 ⟨rfl, hb3⟩
      have hJ3 := hJb _ V2 HJ.out V3 (hb3.mono hs2)
      have hkf : KeepsFrom w6.heap.size V2 V3 := ⟨hb3.size, fun q o _ ho _ => (hb3.block q (Array.getElem?_eq_some_iff.1 ho).1).trans ho⟩
      have hke : KeT 87 3 (yb + 1) V2 V3 := KeT.of_below hb3
      clear KL LM LN LF d5
      cases Lk
      · have hlt : lp f = true := by rw [hlf]; rfl
        rw [hlt, if_pos rfl] at hcs
        have hyld := HY.out _ f V3 hJ3.1 (hcg hlt) hJ3.2.1
        obtain ⟨fn, tmps, assign, body, hyr, hR⟩ := yield_any (n - 1 - 1 - 1) hyld
        have HR := Lib.hid hR
        have HX3 := Lib.hid hJ3.2.2
        have HKF := Lib.hid hkf
        have HKE := Lib.hid hke
        have e0 := row_cell ((hb3.block _ hqlt).trans HC2.out) 0 (.string f.nm) rfl
        have e1 := row_cell ((hb3.block _ (by have := (Array.getElem?_eq_some_iff.1 HY2.out).1; omega)).trans HY2.out) 0 (.func (.yield l) #[] #[]) rfl
        clear hR hyld hJ3 hkf hke hcg hlf hlt d0 hb3
        gi_wp2_with fail
        refine ⟨fun _ => by omega, ?_⟩
        refine RoundIn.mono (F := Fence.wide.inRound l2) HR.out ?_
        rintro e V6 (⟨rfl, ⟨hd, hb⟩, hk, hkb⟩ | ⟨rfl, hx, hkb⟩)
        · have hX6 := hBXk _ _ HX3.out hk hkb.size
          rw [← hcs] at hd
          have hfin := Lib.hid (show KeepsFrom w6.heap.size V2 V6 ∧ (Dn (cnt (j + 1)) V6 ∧ Bk V6 ∧ BX V6) ∧ KeT 87 3 (yb + 1) V2 V6 from
            ⟨⟨Nat.le_trans HKF.out.size hkb.size, fun q o h1 h2 h3 => hkb.same q o (by omega) (by omega) (HKF.out.same q o h1 h2 h3) h3⟩, ⟨hd, hb, hX6⟩,
              ⟨Nat.le_trans HKF.out.size hkb.size, fun q cs t hq ht hA => (hKp V3 V6 q cs t hk (by omega) ((HKE.out.same q cs t hq ht hA).trans hA)).trans hA.symm⟩⟩)
          clear hd hb hk hkb hX6 HR
          gi_wp2
          exact hfin.out
        · have hfin := Lib.hid (show KeepsFrom w6.heap.size V2 V6 ∧ Xp V6 from
            ⟨⟨Nat.le_trans HKF.out.size hkb.size, fun q o h1 h2 h3 => hkb.same q o (by omega) (by omega) (HKF.out.same q o h1 h2 h3) h3⟩, hx⟩)
          clear hx hkb HR
          gi_wp2
          exact ⟨hfin.out.1, rfl, hfin.out.2⟩
      · have hlt : lp f = false := by rw [hlf]; rfl
        rw [hlt] at hcs
        have hfin := Lib.hid (show KeepsFrom w6.heap.size V2 V3 ∧ (Dn (cnt (j + 1)) V3 ∧ Bk V3 ∧ BX V3) ∧ KeT 87 3 (yb + 1) V2 V3 from ⟨hkf, (by rw [hcs]; exact hJ3), hke⟩)
        clear hcs hcg hlf hlt hJ3 hkf hke d0 hb3
        gi_wp2
        exact hfin.out
  case iter =>
    intro Bk2 X2 l2 V hBk2 hBlt2 hX2 hl2 hDV hBV hYV
    obtain ⟨_, _, g0V, g1V⟩ := hBX0 V hDV.2.2
    have h := fall_in (n - 1) (by omega) (n - 1 - 1) l2 (yb + 1) M.k 2 (fun j V => (Dn (cnt j) V ∧ Bk V ∧ BX V) ∧ Bk2 V) X2
      (fun j A B h hb => ⟨hJb _ A h.1 B (hb.mono (hBX0 A h.1.2.2).1), hBk2 A _ h.2 hb.size (fun q h1 h2 => by have := hBlt2 A h.2; exact hb.block q (by omega))⟩)
      (fun j f W h hf => by
        rw [HF2.out] at hf
        exact (hYV j f W ⟨hf, h.1⟩ h.2 (List.getElem?_eq_some_iff.1 hf).1).mono (fun e W2 h => h.elim (fun h => .inl ⟨h.1, h.2.1, h.2.2.1⟩) (fun h => .inr ⟨h.1, h.2.1⟩)))
      V g0V g1V ⟨hDV, hBV⟩
    rw [HF2.out] at h
    exact h
  case done =>
    rintro D V hD ⟨hDV, hBV, _⟩ hK
    rw [HCE.out] at hDV
    have hfin := Lib.hid (And.intro (hDb _ _ _ hDV (below_put V (.deferred none) (by omega : s0 ≤ D))) (hBk _ _ hBV (by simp [World.putObj]) (fun k _ h2 => World.putObj_heap_other (by omega)) : Bk (V.putObj D (.deferred none))))
    clear hDV hBV hD6 hB6 hBX6
    gi_wp2
    refine ⟨by simp, .inl ⟨_, _, rfl, run_takeDeferred hK, ?_⟩⟩
    refine ⟨_, results_none rfl _ _ _, ?_⟩
    exact ⟨⟨_, rfl⟩, .inl hfin.out⟩
  case stop =>
    rintro D cd V hD ⟨rfl, hx⟩ hK
    have hfin := Lib.hid (hX V D _ (.deferred none) hx (by omega) hK rfl)
    clear hx
    gi_wp2
    refine ⟨by simp, .inl ⟨_, _, rfl, run_takeDeferred hK, ?_⟩⟩
    refine ⟨_, results_none rfl _ _ _, ?_⟩
    exact ⟨⟨_, rfl⟩, .inr hfin.out⟩
end Go.Proofs.YtlbfibnfmijahaaGreat

namespace Go.Proofs.YtlbfibnfmijahaaGreat
open Go.RowKit Go.Shelf
set_option maxRecDepth 100000
attribute [local go_sem] Oper.semAt_some

set_option maxHeartbeats 4000000 in
theorem sbest_any (M : Mg) (P C : Value) (w : World) (hs : Msm M) (h1 : MAt w w.heap.size M P C) : Calls Tryz.prog 7 #[mV M P C] w fun e w' => e = .returned (.tuple #[.int .i64 (mbest M).1, .int .i64 (mbest M).2]) ∧ Below w.heap.size w w' := by
  obtain ⟨w2, hw2⟩ : ∃ w2, w.alloc (.cells (mC M P C) 26) = w2 := ⟨_, rfl⟩
  have hb2 : Below w.heap.size w w2 := by rw [← hw2]; exact (Below.refl _ w).alloc (Nat.le_refl _) _
  have q0 : w2.heap[w.heap.size]? = some (.cells (mC M P C) 26 (0, 0)) := by rw [← hw2]; exact World.alloc_heap_new _ _
  have hlt := (Array.getElem?_eq_some_iff.1 q0).1
  have LM0 : (Instr.loadAt 26 (.pointer (some ⟨w.heap.size, 0, none⟩))).run Tryz.prog w2 = .ok (.agg (mC M P C)) w2 := mg_read q0
  have KC : Calls Tryz.prog 25 #[.agg (mC M P C)] w2 fun e w' => e = .returned (.int .i64 (mck M)) ∧ Below w2.heap.size w2 w' := chk_F hs ⟨P, C, rfl, h1.later hb2⟩
  have LM : Hid (∀ W, Below w2.heap.size w2 W → (Instr.loadAt 26 (.pointer (some ⟨w.heap.size, 0, none⟩))).run Tryz.prog W = .ok (.agg (mC M P C)) W) := Lib.hid fun W hW => mg_read ((hW.block _ hlt).trans q0)
  have KF : Hid (∀ (v : Int) W, Below w2.heap.size w2 W → Calls Tryz.prog 27 #[.agg (mC M P C), .int .i64 v] W fun e w' => e = .returned (.bool (decide (mproj M v = M))) ∧ Below W.heap.size W w') := Lib.hid fun v W hW => sfit_any M P C v W hs ((h1.later hb2).later hW)
  have HW2 := Lib.hid hw2
  have HB2 := Lib.hid hb2
  have HL0 := Lib.hid LM0
  clear hw2 hb2 q0 h1 LM0
  have hP2 := sproj_two M
  unfold mV mbest
  obtain ⟨E, hEE⟩ : ∃ E, mck M = E := ⟨_, rfl⟩
  rw [hEE] at KC ⊢
  have KC := Lib.hid KC
  clear hEE
  by_cases hE : E = 0
  · subst hE
    rw [if_neg (by simp)]
    obtain ⟨R, hR⟩ : ∃ R, (if mproj M 1 = M then ((1, 0) : Int × Int) else (2, 0)) = R := ⟨_, rfl⟩
    rw [hR]
    have HR := Lib.hid hR
    clear hR
    refine (callsIn_wide (n := 9)).1 ?_
    refine callsIn_of_wp_marks Tryz.func7 rfl trivial ?_ rfl
    simp only [Tryz.ntmps7, List.size_toArray, List.length_cons, List.length_nil, Nat.reduceAdd, Nat.reduceSub, Array.replicate_succ, Array.replicate_zero, List.push_toArray, List.append_toArray, List.nil_append, List.cons_append]
    gi_wp2_with fail
    rw [HW2.out]
    refine wpIn_wide.2 (wp_scope_straight ((wpIn_wide (n := 9)).1 ?_))
    gi_wp2_with (refine wpListIn_load_run rfl 26 (.tmp 1) rfl (some ⟨w.heap.size, 0, none⟩) rfl (.agg (mC M P C)) HL0.out ?_)
    refine ⟨trivial, (callsIn_wide.2 KC.out).mono ?_⟩
    rintro e w3 ⟨rfl, hb3⟩
    obtain ⟨Bq, hBq⟩ : ∃ Bq, w3.heap.size = Bq := ⟨_, rfl⟩
    obtain ⟨w4, hw4⟩ : ∃ w4, w3.alloc (.cells #[.int .i64 0] 3) = w4 := ⟨_, rfl⟩
    have hb34 : Below w3.heap.size w3 w4 := by rw [← hw4]; exact (Below.refl _ w3).alloc (Nat.le_refl _) _
    have bF : Boxed w4 Bq 3 (.int .i64 0) := by rw [← hw4, ← hBq]; exact Boxed.new w3 3 (.int .i64 0)
    have hs4 : w4.heap.size = Bq + 1 := by rw [← hw4, ← hBq]; simp
    have hb24 : Below w2.heap.size w2 w4 := hb3.trans (hb34.mono hb3.size)
    have hq2 : w2.heap.size ≤ Bq := by have := hb3.size; omega
    have HW4 := Lib.hid hw4
    have HB24 := Lib.hid hb24
    have HBQ := Lib.hid hBq
    clear KC hw4 hb34 hb3 hb24 HL0 HW2 hBq
    gi_wp2_with fail
    rw [HBQ.out, HW4.out]
    apply wpIn_label
    gi_wp2_with fail
    refine ⟨trivial, ?_⟩
    refine (callsIn_wide.2 (svers_any w4)).mono ?_
    rintro e w1 ⟨rfl, rfl⟩
    gi_wp2_with fail
    refine range_stops rfl (by omega) (gf := 47) (lb := #[]) rfl trivial (enters_of Tryz.func47 (by kernel_rfl) rfl)
      (fun j : Nat => #[.int .i64 ((j : Int) + 1)]) (fun _ => rfl)
      (fun j x' V => x' = j ∧ (∀ i : Nat, i < j → mproj M ((i : Int) + 1) ≠ M) ∧ Below w4.heap.size w4 V)
      (fun j V => (∀ i : Nat, i < j → mproj M ((i : Int) + 1) ≠ M) ∧ Below w4.heap.size w4 V)
      (fun cd V => cd = .exit 0 ∧ ∃ j : Nat, j < 2 ∧ (∀ i : Nat, i < j → mproj M ((i : Int) + 1) ≠ M) ∧ mproj M ((j : Int) + 1) = M ∧ Boxed V Bq 3 (.int .i64 ((j : Int) + 1)) ∧ Off (fun q => q = Bq) w4 V) (fun _ _ => True) 2
      (fun j x' V l o o' h hl ho hc' => ⟨h.1, h.2.1, h.2.2.trans (below_put V o' hl)⟩)
      (fun j V l o o' h hl ho hc' => ⟨h.1, h.2.trans (below_put V o' hl)⟩)
      (fun cd V l o o' h hl ho hc' => by
        obtain ⟨h1, j, h2, h3, h4, h5, h6⟩ := h
        exact ⟨h1, j, h2, h3, h4, (World.putObj_heap_other (by omega)).trans h5, off_below h6 (below_put V o' hl)⟩)
      (fun _ _ _ _ _ => trivial) (fun _ _ _ _ _ _ _ => trivial)
      (fun o => ⟨fun i hi => by omega, ((Below.refl w4.heap.size w4).alloc (Nat.le_refl _) _).alloc (by simp) _⟩) ?a1 ?assign ?body ?iter ?done ?stop
    case assign =>
      intro l x' V K' hK'
      gi_wp2
      exact hK'
    case body =>
      rintro l j x' V hl ⟨rfl, hn, hbV⟩ hj
      have hb2V := HB24.out.trans (hbV.mono HB24.out.size)
      have LV := Lib.hid (LM.out V hb2V)
      have KV := Lib.hid (KF.out ((x' : Int) + 1) V hb2V)
      have HBV := Lib.hid hbV
      have HN := Lib.hid hn
      clear hn hbV hb2V
      gi_wp2_with (refine wpListIn_load_run rfl 26 (.tmp 1) rfl (some ⟨w.heap.size, 0, none⟩) rfl (.agg (mC M P C)) LV.out ?_)
      refine ⟨trivial, ((callsIn_wide.2 KV.out).inRound l).mono ?_⟩
      rintro e V2 ⟨rfl, hb2'⟩
      have hbV2 : Below w4.heap.size w4 V2 := HBV.out.trans (hb2'.mono HBV.out.size)
      have hkf : KeepsFrom w4.heap.size V V2 := ⟨hb2'.size, fun q o _ h2 _ => (hb2'.block q (Array.getElem?_eq_some_iff.1 h2).1).trans h2⟩
      by_cases h : mproj M ((x' : Int) + 1) = M
      · rw [decide_eq_true h]
        have bFV : Boxed V2 Bq 3 (.int .i64 0) := (hbV2.block _ (by omega)).trans bF
        have e0 := bFV.cell
        have e1 := bFV.frozen
        have hfin := Lib.hid (show _ ∧ _ ∧ _ from ⟨hkf.trans ((KeepsOthers.setCell V2 ⟨Bq, 0, none⟩ (.int .i64 ((x' : Int) + 1))).from w4.heap.size), bFV.set (.int .i64 ((x' : Int) + 1)), (off_below (Off.refl (fun q => q = Bq) w4) hbV2).setCell (p := ⟨Bq, 0, none⟩) rfl (.int .i64 ((x' : Int) + 1))⟩)
        have HH := Lib.hid h
        clear hbV2 hkf bFV h hb2' KV LV HBV
        gi_wp2
        exact ⟨hfin.out.1, rfl, x', hj, HN.out, HH.out, hfin.out.2⟩
      · rw [decide_eq_false h]
        have hfin := Lib.hid (show _ ∧ _ ∧ _ from ⟨hkf, (fun i hi => by
          rcases Nat.lt_or_ge i x' with h1 | h1
          · exact HN.out i h1
          · obtain rfl : i = x' := by omega
            exact h : ∀ i : Nat, i < x' + 1 → mproj M ((i : Int) + 1) ≠ M), hbV2⟩)
        clear hbV2 hkf h hb2' KV LV HBV HN
        gi_wp2
        exact ⟨hfin.out.1, hfin.out.2, trivial⟩
    case iter =>
      intro Bk X l V hBk hBlt hX hl hD hB hY
      exact svers_in 8 (by omega) 7 l (fun j V => ((∀ i : Nat, i < j → mproj M ((i : Int) + 1) ≠ M) ∧ Below w4.heap.size w4 V) ∧ Bk V) X
        (fun j W h hj => (hY j j W ⟨rfl, h.1⟩ h.2 hj).mono (fun e W2 h => h.elim (fun h => .inl ⟨h.1, h.2.1⟩) (fun h => .inr ⟨h.1, h.2.1⟩)))
        V ⟨hD, hB⟩
    case done =>
      rintro D V hD ⟨hn, hbV⟩ hK
      exact absurd hP2 (hn 1 (by omega))
    case stop =>
      rintro D cd V hD ⟨rfl, j, hj, hn, hx, bV, hO⟩ hK
      have h0 : R = ((j : Int) + 1, 0) := by
        rw [← HR.out]
        have hj2 : j = 0 ∨ j = 1 := by omega
        rcases hj2 with rfl | rfl
        · rw [if_pos (show mproj M 1 = M from hx)]; rfl
        · rw [if_neg (show ¬ mproj M 1 = M from hn 0 (by omega))]; rfl
      subst h0
      have e0 := bV.cell
      have HB := Lib.hid (HB2.out.trans ((HB24.out.trans (hO.below (B := w2.heap.size) (fun k hk => by omega) HB24.out.size)).mono HB2.out.size))
      clear hx hn bV hO
      gi_wp2
      simp only [Exit.noGoto]
      refine ⟨by simp, .inl ⟨_, _, rfl, run_takeDeferred hK, ?_⟩⟩
      refine ⟨.tuple #[.int .i64 ((j : Int) + 1), .int .i64 0], ?_, rfl, HB.out.trans (below_put _ _ (by have := HB24.out.size; have := HB2.out.size; omega))⟩
      simp [results, Tryz.f7, go_sem]
  · have e1 : (E != 0) = true := by simpa using hE
    rw [if_pos hE]
    go_enter Tryz.func7, Tryz.ntmps7
    go_wp2_with fail
    rw [HW2.out]
    refine wp_scope_straight ?_
    go_wp2_with (refine wpList_load_run rfl 26 (.tmp 1) rfl (some ⟨w.heap.size, 0, none⟩) rfl (.agg (mC M P C)) HL0.out ?_)
    refine KC.out.mono ?_
    rintro e w3 ⟨rfl, hb3⟩
    have HB3 := Lib.hid (HB2.out.trans (hb3.mono HB2.out.size))
    clear hb3 KC HL0
    go_wp2
    try simp only [Exit.noGoto]
    go_ret2
    exact ⟨rfl, HB3.out⟩
end Go.Proofs.YtlbfibnfmijahaaGreat

namespace Go.Proofs.YtlbfibnfmijahaaGreat
open Go.RowKit Go.Shelf
set_option maxRecDepth 100000
attribute [local go_sem] Oper.semAt_some

/-- cells from lo on are as they were -/
structure KeV (lo : Nat) (A B : World) : Prop where
  size : A.heap.size ≤ B.heap.size
  same : ∀ (q : Nat) (cs : Array Value) (t : TypeId), lo ≤ q → A.heap[q]? = some (.cells cs t (0, 0)) → B.heap[q]? = some (.cells cs t (0, 0))
theorem KeV.trans {lo : Nat} {A B C : World} (h : KeV lo A B) (k : KeV lo B C) : KeV lo A C := ⟨Nat.le_trans h.size k.size, fun q cs t hq hA => k.same q cs t hq (h.same q cs t hq hA)⟩
theorem KeV.putObj {lo l : Nat} {A : World} {o o' : Obj} (ho : A.heap[l]? = some o) (hc : o.isCells = false) : KeV lo A (A.putObj l o') := ⟨by simp [World.putObj], fun q cs t _ hA => (World.putObj_heap_other (fun e => by
  subst e
  rw [ho] at hA
  injection hA with hA
  subst hA
  cases hc)).trans hA⟩
theorem KeV.off {S : Nat → Prop} {lo : Nat} {A B : World} (ho : Off S A B) (hS : ∀ k, lo ≤ k → ¬ S k) : KeV lo A B := ⟨ho.size, fun q _ _ hq hA => (ho.block q (Array.getElem?_eq_some_iff.1 hA).1 (hS q hq)).trans hA⟩
theorem KeepsFrom.of_offV {S : Nat → Prop} {lo : Nat} {A B : World} (ho : Off S A B) (hS : ∀ k, lo ≤ k → ¬ S k) : KeepsFrom lo A B := ⟨ho.size, fun q _ hq hA _ => (ho.block q (Array.getElem?_eq_some_iff.1 hA).1 (hS q hq)).trans hA⟩
theorem lost_not_nil1 (w : World) : (binOp .eql 43 (.func (.func 30) #[] #[]) .nilFunc).run Tryz.prog w = .ok (.bool false) w := by kernel_rfl
theorem lost_not_nil2 (p q : Nat) (w : World) : (binOp .eql 43 (.func (.func 33) #[] #[.pointer (some ⟨p, 0, none⟩), .pointer (some ⟨q, 0, none⟩)]) .nilFunc).run Tryz.prog w = .ok (.bool false) w := by kernel_rfl

def ex0 : Mg := ⟨2, 0, 0, 0, 0, 0, 0, [], [], ⟨#[]⟩, ⟨#[]⟩⟩
def ex9 : Mg := ⟨2, 0, 0, 9, 0, 0, 0, [], [], ⟨#[]⟩, ⟨#[]⟩⟩
theorem ex_small (k a b c d e f : Int) : Msm ⟨k, a, b, c, d, e, f, [], [], ⟨#[]⟩, ⟨#[]⟩⟩ := ⟨by simp, by simp, by show (ByteArray.mk #[]).size ≤ 80; decide, by show (ByteArray.mk #[]).size ≤ 80; decide⟩
theorem ex_at (k a b c d e f : Int) (w : World) (B : Nat) : MAt w B ⟨k, a, b, c, d, e, f, [], [], ⟨#[]⟩, ⟨#[]⟩⟩ (.slice none 0 0) (.slice none 0 0) := ⟨⟨none, 0, rfl, Nat.le_refl _, Nums.nil⟩, ⟨none, 0, rfl, Nat.le_refl _, Nums.nil⟩⟩
theorem ex0_best : mbest ex0 = (1, 0) := by decide
theorem ex9_best : mbest ex9 = (2, 0) := by decide
theorem ex9_check : mck ex9 = 0 := by decide
theorem ex9_lost : (mlost ex9 1).map (·.nm) = [⟨#[122, 111, 110, 101]⟩] := by decide
set_option maxHeartbeats 8000000 in
theorem lknown_any (w : World) : Calls Tryz.prog 12 #[] w fun e w' => e = .returned (.bool true) ∧ Below w.heap.size w w' := by
  have K0 := fun W => sbest_any ex0 (.slice none 0 0) (.slice none 0 0) W (ex_small ..) (ex_at ..)
  have K9 := fun W => sbest_any ex9 (.slice none 0 0) (.slice none 0 0) W (ex_small ..) (ex_at ..)
  have KL := fun W => slost_yes ex9 (.slice none 0 0) (.slice none 0 0) 1 W (ex_small ..) (ex_at ..) ex9_check
  simp only [ex0_best] at K0
  simp only [ex9_best] at K9
  unfold ex0 mV mC at K0
  have hst : ∀ W b, W.heap[b]? = some (.cells #[.int .i64 2, .int .i64 0, .int .i64 0, .int .i64 9, .int .i64 0, .int .i64 0, .int .i64 0, .slice none 0 0, .slice none 0 0, .string ⟨#[]⟩, .string ⟨#[]⟩] 26 (0, 0)) → (Instr.loadAt 26 (.pointer (some ⟨b, 0, none⟩))).run Tryz.prog W = .ok (.agg #[.int .i64 2, .int .i64 0, .int .i64 0, .int .i64 9, .int .i64 0, .int .i64 0, .int .i64 0, .slice none 0 0, .slice none 0 0, .string ⟨#[]⟩, .string ⟨#[]⟩]) W := fun W b h => mg_read (M := ex9) (P := .slice none 0 0) (C := .slice none 0 0) h
  obtain ⟨LL, hLL⟩ : ∃ LL, (FD ex9.k).filter (lostP ex9 1) = LL := ⟨_, rfl⟩
  have hnm : LL.map (·.nm) = [⟨#[122, 111, 110, 101]⟩] := by rw [← hLL, lostP_all ex9_check]; exact ex9_lost
  have hl1 : LL.length = 1 := by have := congrArg List.length hnm; simpa using this
  have hl0 : ∀ (j : Nat) f, LL[j]? = some f → j = 0 ∧ f.nm = ⟨#[122, 111, 110, 101]⟩ := fun j f h => by
    have h2 : (LL.map (·.nm))[j]? = some f.nm := by rw [List.getElem?_map, h]; rfl
    rw [hnm] at h2
    rcases j with _ | j
    · simp at h2; exact ⟨rfl, h2.symm⟩
    · simp at h2
  have HLL := Lib.hid hLL
  have HL0 := Lib.hid hl0
  clear hLL hnm hl0
  unfold ex9 mV mC at K9 KL
  have K0 := Lib.hid K0
  have K9 := Lib.hid K9
  have KL := Lib.hid KL
  have HST := Lib.hid hst
  clear hst
  refine (callsIn_wide (n := 9)).1 ?_
  refine callsIn_of_wp_marks Tryz.func12 rfl trivial ?_ rfl
  simp only [Tryz.ntmps12, List.size_toArray, List.length_nil, Nat.reduceSub, Array.replicate_succ, Array.replicate_zero, List.push_toArray, List.append_toArray, List.nil_append, List.cons_append]
  gi_wp2_with fail
  refine ⟨trivial, (callsIn_wide.2 (K0.out w)).mono ?_⟩
  rintro e w1 ⟨rfl, hb1⟩
  have HB1 := Lib.hid hb1
  clear hb1 K0
  gi_wp2_with fail
  obtain ⟨w2, hw2⟩ : ∃ w2, w1.alloc (.cells #[.int .i64 2, .int .i64 0, .int .i64 0, .int .i64 9, .int .i64 0, .int .i64 0, .int .i64 0, .slice none 0 0, .slice none 0 0, .string ⟨#[]⟩, .string ⟨#[]⟩] 26) = w2 := ⟨_, rfl⟩
  have hb12 : Below w1.heap.size w1 w2 := by rw [← hw2]; exact (Below.refl _ w1).alloc (Nat.le_refl _) _
  have q2 : w2.heap[w1.heap.size]? = some (.cells #[.int .i64 2, .int .i64 0, .int .i64 0, .int .i64 9, .int .i64 0, .int .i64 0, .int .i64 0, .slice none 0 0, .slice none 0 0, .string ⟨#[]⟩, .string ⟨#[]⟩] 26 (0, 0)) := by rw [← hw2]; exact World.alloc_heap_new _ _
  obtain ⟨mb, hmb⟩ : ∃ mb, w1.heap.size = mb := ⟨_, rfl⟩
  rw [hw2]
  refine ⟨trivial, (callsIn_wide.2 (K9.out w2)).mono ?_⟩
  rintro e w3 ⟨rfl, hb3⟩
  have q3 := (hb3.block _ (Array.getElem?_eq_some_iff.1 q2).1).trans q2
  rw [hmb] at q3 ⊢
  obtain ⟨nb, hnb⟩ : ∃ nb, w3.heap.size = nb := ⟨_, rfl⟩
  obtain ⟨w4, hw4⟩ : ∃ w4, w3.alloc (.cells #[.string ⟨#[]⟩] 9) = w4 := ⟨_, rfl⟩
  have hb34 : Below w3.heap.size w3 w4 := by rw [← hw4]; exact (Below.refl _ w3).alloc (Nat.le_refl _) _
  have bN4 : Boxed w4 nb 9 (.string ⟨#[]⟩) := by rw [← hw4, ← hnb]; exact Boxed.new w3 9 _
  have hs4 : w4.heap.size = nb + 1 := by rw [← hw4, ← hnb]; simp
  have q4 := (hb34.block _ (Array.getElem?_eq_some_iff.1 q3).1).trans q3
  have L3 := Lib.hid (HST.out _ _ q3)
  have L4 := Lib.hid (HST.out _ _ q4)
  have hb13 := hb12.trans (hb3.mono hb12.size)
  have HB4 := Lib.hid (HB1.out.trans ((hb13.trans (hb34.mono hb13.size)).mono HB1.out.size))
  have hnb0 : w.heap.size ≤ nb := by have := HB1.out.size; have := hb13.size; omega
  have HW4 := Lib.hid hw4
  have HNB := Lib.hid hnb
  clear hb12 q2 hb3 q3 hw4 hb34 q4 hb13 HST K9 HB1 hw2 hmb hnb
  gi_wp2_with (rw [HNB.out, HW4.out]; refine wpListIn_load_run rfl 26 (.tmp 3) rfl (some ⟨mb, 0, none⟩) rfl (.agg #[.int .i64 2, .int .i64 0, .int .i64 0, .int .i64 9, .int .i64 0, .int .i64 0, .int .i64 0, .slice none 0 0, .slice none 0 0, .string ⟨#[]⟩, .string ⟨#[]⟩]) L4.out ?_)
  refine ⟨trivial, (callsIn_wide.2 (KL.out w4)).mono ?_⟩
  rintro e w5 ⟨b, d, P1, C1, P2, C2, rfl, hb, hd, mfb, mfd, hb5⟩
  have bN5 : Boxed w5 nb 9 (.string ⟨#[]⟩) := (hb5.block _ (by omega)).trans bN4
  have hs5 := hb5.size
  have HB5 := Lib.hid (HB4.out.trans (hb5.mono HB4.out.size))
  have HMB := Lib.hid mfb
  have HMD := Lib.hid mfd
  have hbl := (Array.getElem?_eq_some_iff.1 mfb).1
  have hdl := (Array.getElem?_eq_some_iff.1 mfd).1
  have kn := lost_not_nil2
  clear hb5 mfb mfd KL bN4 L3 L4 HW4 HNB
  gi_wp2_with fail
  refine range_stops rfl (by omega) (gf := 33) (lb := #[.pointer (some ⟨b, 0, none⟩), .pointer (some ⟨d, 0, none⟩)]) rfl trivial (enters_of Tryz.func33 (by kernel_rfl) rfl)
    (fun f : Fd => #[.string f.nm]) (fun _ => rfl)
    (fun j f V => LL[j]? = some f ∧ Boxed V nb 9 (.string (if j = 0 then ⟨#[]⟩ else ⟨#[122, 111, 110, 101]⟩)) ∧ Off (fun q => q = nb) w5 V)
    (fun j V => Boxed V nb 9 (.string (if j = 0 then ⟨#[]⟩ else ⟨#[122, 111, 110, 101]⟩)) ∧ Off (fun q => q = nb) w5 V)
    (fun _ _ => False) (KeV w5.heap.size) LL.length
    (fun j f V l o o' h hl ho hc' => ⟨h.1, (World.putObj_heap_other (by omega)).trans h.2.1, off_below h.2.2 (below_put V o' hl)⟩)
    (fun j V l o o' h hl ho hc' => ⟨(World.putObj_heap_other (by omega)).trans h.1, off_below h.2 (below_put V o' hl)⟩)
    (fun _ _ _ _ _ h => h.elim)
    (fun _ _ _ h k => h.trans k) (fun V l o o' hl ho hc' => KeV.putObj ho hc')
    (fun o => ⟨(Below.heap_alloc _ _ _ (by simp; omega)).trans ((Below.heap_alloc _ _ _ (by omega)).trans bN5), Off.of_below (((Below.refl w5.heap.size w5).alloc (Nat.le_refl _) _).alloc (by simp) _)⟩) ?a1 ?assign ?body ?iter ?done ?stop
  case assign =>
    intro l x' V K' hK'
    gi_wp2
    exact hK'
  case body =>
    rintro l j f V hl ⟨hf, hI, hO⟩ hj
    obtain ⟨rfl, hfn⟩ := HL0.out j f hf
    rw [if_pos rfl] at hI
    have e0 := hI.cell
    have e1 := hI.frozen
    have hI2 := hI.set (.string ⟨#[122, 111, 110, 101]⟩)
    have hO2 : Off (fun q => q = nb) w5 (V.setCell ⟨nb, 0, none⟩ (.string ⟨#[122, 111, 110, 101]⟩)) := hO.setCell (p := ⟨nb, 0, none⟩) rfl _
    have hOV : Off (fun q => q = nb) V (V.setCell ⟨nb, 0, none⟩ (.string ⟨#[122, 111, 110, 101]⟩)) := Off.setCell (S := fun q => q = nb) (p := ⟨nb, 0, none⟩) (Off.refl _ _) rfl _
    have HF := Lib.hid (show KeepsFrom w5.heap.size V _ ∧ (Boxed _ nb 9 (.string ⟨#[122, 111, 110, 101]⟩) ∧ Off (fun q => q = nb) w5 _) ∧ KeV w5.heap.size V _ from ⟨KeepsFrom.of_offV hOV (fun k hk => by omega), ⟨hI2, hO2⟩, KeV.off hOV (fun k hk => by omega)⟩)
    clear hI hO hI2 hO2 hOV
    rw [hfn]
    gi_wp2
    all_goals exact HF.out
  case iter =>
    intro Bk X l V hBk hBlt hX hl hD hB hY
    exact slost_in 8 (by omega) 7 l b d w5.heap.size ex9 P1 C1 P2 C2 1 LL HLL.out (fun j V => Boxed V nb 9 (.string (if j = 0 then ⟨#[]⟩ else ⟨#[122, 111, 110, 101]⟩)) ∧ Off (fun q => q = nb) w5 V) Bk X (KeV w5.heap.size) hl
      (fun j A B h hb => ⟨(hb.block _ (by omega)).trans h.1, off_below h.2 hb⟩)
      (fun j V h => ⟨(h.2.block _ hbl (by omega)).trans HMB.out, (h.2.block _ hdl (by omega)).trans HMD.out⟩)
      hBk hBlt hX (fun V V' k cs t h hk hc => h.same k cs t (by omega) hc)
      (fun j f V h hf hb => hY j f V ⟨hf, h⟩ hb (List.getElem?_eq_some_iff.1 hf).1)
      V hD hB
  case done =>
    rintro D V hD ⟨hI, hO⟩ hK
    rw [hl1, if_neg (by decide)] at hI
    have e0 := hI.cell
    have HB := Lib.hid (HB5.out.trans (hO.below (B := w.heap.size) (fun k hk => by omega) HB5.out.size))
    clear hI hO
    gi_wp2
    try simp only [Exit.noGoto]
    refine ⟨by simp, .inl ⟨_, _, rfl, run_takeDeferred hK, ?_⟩⟩
    refine ⟨.bool true, ?_, rfl, HB.out.trans (below_put _ _ (by omega))⟩
    simp [results, Tryz.f12, go_sem]
  case stop =>
    rintro D cd V hD h hK
    exact h.elim
end Go.Proofs.YtlbfibnfmijahaaGreat

namespace Go.Proofs.YtlbfibnfmijahaaGreat
open Go.RowKit Go.Shelf
set_option maxRecDepth 100000
attribute [local go_sem] Oper.semAt_some

end Go.Proofs.YtlbfibnfmijahaaGreat

namespace Go.Proofs.YtlbfibnfmijahaaGreat
open Go.RowKit Go.Shelf
set_option maxRecDepth 100000
attribute [local go_sem] Oper.semAt_some

section
variable {P : Program} {l : List Oper} {fs : List Tmp} {FS : Tmp → Value → World → Prop} {I : World → Prop} {E : Act → Prop} {o : Oper} {rest : List Oper} {a : Act}
/-- an operation that its guard passes over -/
theorem wpF_skipF (hn : noB l.toArray fs o = true) (hw : Region.wanted o (yielded l.toArray a.tmps) = false) (h : wpF P l.toArray I fs FS E rest (a.put o.dst undef)) : wpF P l.toArray I fs FS E (o :: rest) a := by
  obtain ⟨h1, h2⟩ := noB_spec hn
  exact ⟨undef, .inl ⟨h1, h2, .inr ⟨hw, rfl⟩⟩, h⟩
end
/-- behind i fields: the number's box Bi, the flag's Bo -/
structure Fo (ti tb : TypeId) (Bi Bo : Nat) (w8 : World) (p : Nat) (V : World) : Prop where
  num : Boxed V Bi ti (.int .i64 (p : Int))
  ok : Boxed V Bo tb (.bool true)
  off : Off (fun q => q = Bi ∨ q = Bo) w8 V
section
variable {ti tb : TypeId} {Bi Bo p : Nat} {w8 V V' : World}
theorem Fo.later (h : Fo ti tb Bi Bo w8 p V) (hb : Below V.heap.size V V') : Fo ti tb Bi Bo w8 p V' := ⟨(hb.block _ h.num.lt).trans h.num, (hb.block _ h.ok.lt).trans h.ok, off_below h.off (hb.mono h.off.size)⟩
theorem Fo.putObj {l : Nat} {o o' : Obj} (h : Fo ti tb Bi Bo w8 p V) (hw : w8.heap.size ≤ l) (ho : V.heap[l]? = some o) (hc : o.isCells = false) : Fo ti tb Bi Bo w8 p (V.putObj l o') := by
  refine ⟨(World.putObj_heap_other (fun e => ?_)).trans h.num, (World.putObj_heap_other (fun e => ?_)).trans h.ok, off_below h.off (below_put V o' hw)⟩
  · subst e; rw [show V.heap[Bi]? = _ from h.num] at ho; injection ho with ho; subst ho; cases hc
  · subst e; rw [show V.heap[Bo]? = _ from h.ok] at ho; injection ho with ho; subst ho; cases hc
theorem Fo.num_set (h : Fo ti tb Bi Bo w8 p V) (hne : Bi ≠ Bo) : Fo ti tb Bi Bo w8 (p + 1) (V.setCell ⟨Bi, 0, none⟩ (.int .i64 ((p : Int) + 1))) :=
  ⟨by rw [Int.natCast_succ]; exact h.num.set _, h.ok.other (by omega) _, h.off.setCell (p := ⟨Bi, 0, none⟩) (.inl rfl) _⟩
theorem Fo.ok_set (h : Fo ti tb Bi Bo w8 p V) (hne : Bi ≠ Bo) : Fo ti tb Bi Bo w8 p (V.setCell ⟨Bo, 0, none⟩ (.bool true)) :=
  ⟨h.num.other hne _, h.ok.set _, h.off.setCell (p := ⟨Bo, 0, none⟩) (.inr rfl) _⟩
end
theorem FdsIn.below {lo : Nat} {w w' : World} {A : Option Addr} {L : List Fd} (h : FdsIn lo w A L) (hb : Below w.heap.size w w') : FdsIn lo w' A L := fun j f hj => by
  obtain ⟨g, hA, hlo, hlt, hc⟩ := h j f hj
  exact ⟨g, hA, hlo, Nat.lt_of_lt_of_le hlt hb.size, fun q u hq => (hb.cell (p := ⟨g, j * 7 + q, none⟩) hlt).trans (hc q u hq)⟩

end Go.Proofs.YtlbfibnfmijahaaGreat

namespace Go.Proofs.YtlbfibnfmijahaaGreat
open Go.RowKit Go.Shelf
set_option maxRecDepth 100000
attribute [local go_sem] Oper.semAt_some

theorem rfits_any (M : Mg) (P C : Value) (v : Int) (w : World) (hs : Msm M) (h1 : MAt w w.heap.size M P C) : Calls Tryz.prog 15 #[mV M P C, .int .i64 v] w fun e w' => e = .returned (.bool (mfits M v)) ∧ Below w.heap.size w w' := by
  obtain ⟨w2, hw2⟩ : ∃ w2, w.alloc (.cells (mC M P C) 38) = w2 := ⟨_, rfl⟩
  have hb2 : Below w.heap.size w w2 := by rw [← hw2]; exact (Below.refl _ w).alloc (Nat.le_refl _) _
  have q0 : w2.heap[w.heap.size]? = some (.cells (mC M P C) 38 (0, 0)) := by rw [← hw2]; exact World.alloc_heap_new _ _
  have hlt := (Array.getElem?_eq_some_iff.1 q0).1
  have LM : ∀ W, Below w2.heap.size w2 W → (Instr.loadAt 38 (.pointer (some ⟨w.heap.size, 0, none⟩))).run Tryz.prog W = .ok (.agg (mC M P C)) W := fun W hW => mr_look ((hW.block _ hlt).trans q0)
  have FM : ∀ W, Below w2.heap.size w2 W → FMs M (.agg (mC M P C)) W := fun W hW => ⟨P, C, rfl, (h1.later hb2).later hW⟩
  have HW2 := Lib.hid hw2
  have HB2 := Lib.hid hb2
  have hsP := mproj_small hs v
  clear hw2 hb2 q0 h1
  unfold mV mfits
  by_cases hE : mck M = 0
  · have KC : ∀ W, Below w2.heap.size w2 W → Calls Tryz.prog 28 #[.agg (mC M P C)] W fun e w' => e = .returned (.int .i64 0) ∧ Below W.heap.size W w' := fun W hW => by
      have := rchk_F hs (FM W hW)
      rwa [hE] at this
    rw [decide_eq_true hE, Bool.true_and]
    go_enter Tryz.func15, Tryz.ntmps15
    go_wp2_with fail
    rw [HW2.out]
    refine wp_region_F 15 [11] (fun _ x W => FMs (mproj M v) x W) (fun W => Below w2.heap.size w2 W) (by kernel_rfl) (by kernel_rfl) (by rfl) (by simp) (fun W W' h hb => h.trans (hb.mono h.size)) (fun s x W W' h hb => h.later hb) (Below.refl _ _).drew ?_
    refine wpF_load (ad := ⟨w.heap.size, 0, none⟩) (.agg (mC M P C)) rfl (by rfl) (by rfl) (by rfl) LM ?_
    simp only [Act.put, List.setIfInBounds_toArray, List.set_cons_succ, List.set_cons_zero]
    refine wpF_call (f := 28) (args := #[.agg (mC M P C)]) (.int .i64 0) rfl rfl (fun x => by first | rfl | (simp [go_sem]; done)) KC ?_
    simp only [Act.put, List.setIfInBounds_toArray, List.set_cons_succ, List.set_cons_zero]
    repeat (refine wpF_pure rfl rfl ?_; go_big_quiet_step (fail); refine wpQuiet_nil ?_)
    refine wpF_load (ad := ⟨w.heap.size, 0, none⟩) (.agg (mC M P C)) rfl (by rfl) (by rfl) (by rfl) LM ?_
    simp only [Act.put, List.setIfInBounds_toArray, List.set_cons_succ, List.set_cons_zero]
    repeat (refine wpF_pure rfl rfl ?_; go_big_quiet_step (fail); refine wpQuiet_nil ?_)
    refine wpF_callsrc 11 (f := 21) (args := #[.agg (mC M P C), .int .i64 v]) (by simp) rfl rfl rfl (fun x => by first | rfl | (simp [go_sem]; done)) (fun W hW => rproj_F v (FM W hW)) ?_
    simp only [Act.put, List.setIfInBounds_toArray, List.set_cons_succ, List.set_cons_zero]
    refine wpF_load (ad := ⟨w.heap.size, 0, none⟩) (.agg (mC M P C)) rfl (by rfl) (by rfl) (by rfl) LM ?_
    simp only [Act.put, List.setIfInBounds_toArray, List.set_cons_succ, List.set_cons_zero]
    refine wpF_use 11 6 (f := 20) (fun x => #[x, .agg (mC M P C)]) (.bool (decide (mproj M v = M))) (by simp) rfl (by kernel_rfl) (by kernel_rfl) (by kernel_rfl) (fun x => by rfl) (fun x W => by first | rfl | (simp [go_sem]; done)) (fun x W hW hx => rsame_F hsP hx (FM W hW)) ?_
    simp only [Act.put, List.setIfInBounds_toArray, List.set_cons_succ, List.set_cons_zero]
    repeat (refine wpF_pure rfl rfl ?_; go_big_quiet_step (fail); refine wpQuiet_nil ?_)
    intro xs w3 hb3 _
    have HF := Lib.hid (HB2.out.trans (hb3.mono HB2.out.size))
    clear LM FM KC hb3
    simp only [fill, Act.put, List.setIfInBounds_toArray, List.set_cons_succ, List.set_cons_zero]
    go_wp2
    go_ret
    exact ⟨rfl, HF.out⟩
  · obtain ⟨E, hEE⟩ : ∃ E, mck M = E := ⟨_, rfl⟩
    have KC : ∀ W, Below w2.heap.size w2 W → Calls Tryz.prog 28 #[.agg (mC M P C)] W fun e w' => e = .returned (.int .i64 E) ∧ Below W.heap.size W w' := fun W hW => by
      have := rchk_F hs (FM W hW)
      rwa [hEE] at this
    rw [decide_eq_false hE, Bool.false_and]
    rw [hEE] at hE
    clear hEE
    have e1 : (E == 0) = false := by simpa using hE
    go_enter Tryz.func15, Tryz.ntmps15
    go_wp2_with fail
    rw [HW2.out]
    refine wp_region_F 15 [] (fun _ _ _ => True) (fun W => Below w2.heap.size w2 W) (by kernel_rfl) (by kernel_rfl) (by rfl) (by simp) (fun W W' h hb => h.trans (hb.mono h.size)) (fun s x W W' h hb => trivial) (Below.refl _ _).drew ?_
    refine wpF_load (ad := ⟨w.heap.size, 0, none⟩) (.agg (mC M P C)) rfl (by rfl) (by rfl) (by rfl) LM ?_
    simp only [Act.put, List.setIfInBounds_toArray, List.set_cons_succ, List.set_cons_zero]
    refine wpF_call (f := 28) (args := #[.agg (mC M P C)]) (.int .i64 E) rfl rfl (fun x => by first | rfl | (simp [go_sem]; done)) KC ?_
    simp only [Act.put, List.setIfInBounds_toArray, List.set_cons_succ, List.set_cons_zero]
    repeat (refine wpF_pure rfl rfl ?_; go_big_quiet_step (fail); refine wpQuiet_nil ?_)
    repeat (refine wpF_skipF rfl rfl ?_; simp only [Act.put, List.setIfInBounds_toArray, List.set_cons_succ, List.set_cons_zero])
    repeat (refine wpF_pure rfl rfl ?_; go_big_quiet_step (fail); refine wpQuiet_nil ?_)
    intro xs w3 hb3 _
    have HF := Lib.hid (HB2.out.trans (hb3.mono HB2.out.size))
    clear LM FM KC hb3
    simp only [fill]
    go_wp2
    go_ret
    exact ⟨rfl, HF.out⟩
theorem rbest_any (M : Mg) (P C : Value) (w : World) (hs : Msm M) (h1 : MAt w w.heap.size M P C) : Calls Tryz.prog 8 #[mV M P C] w fun e w' => e = .returned (.tuple #[.int .i64 (mbest M).1, .int .i64 (mbest M).2]) ∧ Below w.heap.size w w' := by
  obtain ⟨w2, hw2⟩ : ∃ w2, w.alloc (.cells (mC M P C) 38) = w2 := ⟨_, rfl⟩
  have hb2 : Below w.heap.size w w2 := by rw [← hw2]; exact (Below.refl _ w).alloc (Nat.le_refl _) _
  have q0 : w2.heap[w.heap.size]? = some (.cells (mC M P C) 38 (0, 0)) := by rw [← hw2]; exact World.alloc_heap_new _ _
  have hlt := (Array.getElem?_eq_some_iff.1 q0).1
  have LM : Hid (∀ W, Below w2.heap.size w2 W → (Instr.loadAt 38 (.pointer (some ⟨w.heap.size, 0, none⟩))).run Tryz.prog W = .ok (.agg (mC M P C)) W) := Lib.hid fun W hW => mr_look ((hW.block _ hlt).trans q0)
  have KC : Hid (∀ W, Below w2.heap.size w2 W → Calls Tryz.prog 28 #[.agg (mC M P C)] W fun e w' => e = .returned (.int .i64 (mck M)) ∧ Below W.heap.size W w') := Lib.hid fun W hW => rchk_F hs ⟨P, C, rfl, (h1.later hb2).later hW⟩
  have KF : Hid (∀ W, Below w2.heap.size w2 W → Calls Tryz.prog 15 #[.agg (mC M P C), .int .i64 1] W fun e w' => e = .returned (.bool (mfits M 1)) ∧ Below W.heap.size W w') := Lib.hid fun W hW => rfits_any M P C 1 W hs ((h1.later hb2).later hW)
  have HW2 := Lib.hid hw2
  have HB2 := Lib.hid hb2
  have HL0 := Lib.hid (LM.out w2 (Below.refl _ _))
  clear hw2 hb2 q0 h1
  unfold mV mbest
  unfold mfits at KF
  by_cases hE : mck M = 0
  · rw [hE] at KC KF
    rw [if_neg (by simp [hE])]
    obtain ⟨D, hD⟩ : ∃ D, decide (mproj M 1 = M) = D := ⟨_, rfl⟩
    rw [hD] at KF
    have hr : (if mproj M 1 = M then ((1, 0) : Int × Int) else (2, 0)) = (if D then (1, 0) else (2, 0)) := by rw [← hD]; simp
    rw [hr]
    clear hD hr hE
    go_enter Tryz.func8, Tryz.ntmps8
    go_wp2_with (rw [HW2.out]; refine wpList_load_run rfl 38 (.tmp 1) rfl (some ⟨w.heap.size, 0, none⟩) rfl (.agg (mC M P C)) HL0.out ?_)
    refine (KC.out w2 (Below.refl _ _)).mono ?_
    rintro e w3 ⟨rfl, hb3⟩
    have l3 := LM.out w3 hb3
    have KF3 := Lib.hid (KF.out w3 hb3)
    have HB3 := Lib.hid (HB2.out.trans (hb3.mono HB2.out.size))
    clear hb3
    go_wp2_with (refine wpList_load_run rfl 38 (.tmp 1) rfl (some ⟨w.heap.size, 0, none⟩) rfl (.agg (mC M P C)) l3 ?_)
    refine KF3.out.mono ?_
    rintro e w4 ⟨rfl, hb4⟩
    have HB4 := Lib.hid (HB3.out.trans (hb4.mono HB3.out.size))
    clear hb4 l3
    cases D
    · go_wp2
      go_ret2
      exact ⟨rfl, HB4.out⟩
    · go_wp2
      go_ret2
      exact ⟨rfl, HB4.out⟩
  · obtain ⟨E, hEE⟩ : ∃ E, mck M = E := ⟨_, rfl⟩
    rw [hEE] at KC hE ⊢
    rw [if_pos hE]
    have e1 : (E != 0) = true := by simpa using hE
    clear hEE KF
    go_enter Tryz.func8, Tryz.ntmps8
    go_wp2_with (rw [HW2.out]; refine wpList_load_run rfl 38 (.tmp 1) rfl (some ⟨w.heap.size, 0, none⟩) rfl (.agg (mC M P C)) HL0.out ?_)
    refine (KC.out w2 (Below.refl _ _)).mono ?_
    rintro e w3 ⟨rfl, hb3⟩
    have l3 := LM.out w3 hb3
    have KC3 := Lib.hid (KC.out w3 hb3)
    have HB3 := Lib.hid (HB2.out.trans (hb3.mono HB2.out.size))
    clear hb3
    go_wp2_with (refine wpList_load_run rfl 38 (.tmp 1) rfl (some ⟨w.heap.size, 0, none⟩) rfl (.agg (mC M P C)) l3 ?_)
    refine KC3.out.mono ?_
    rintro e w4 ⟨rfl, hb4⟩
    have HB4 := Lib.hid (HB3.out.trans (hb4.mono HB3.out.size))
    clear hb4 l3
    go_wp2
    go_ret2
    exact ⟨rfl, HB4.out⟩
end Go.Proofs.YtlbfibnfmijahaaGreat

namespace Go.Proofs.YtlbfibnfmijahaaGreat
open Go.RowKit Go.Shelf
set_option maxRecDepth 100000
attribute [local go_sem] Oper.semAt_some

/-- the first fields' lost ones -/
theorem lost_take {M : Mg} {L : List Fd} {p : Nat} {f : Fd} (hf : L[p]? = some f) : ((L.take (p + 1)).filter (lostF M)).map (·.nm) = ((L.take p).filter (lostF M)).map (·.nm) ++ (if lostF M f then [f.nm] else []) := by
  rw [List.take_add_one, hf, List.filter_append, List.map_append]
  by_cases h : lostF M f <;> simp [h]
theorem own_less {w : World} {base base' e size n : Nat} {v : Value} {xs : List Value} (h : w.ownsRow base e size v n xs) (hb : base' ≤ base) : w.ownsRow base' e size v n xs := by
  refine ⟨h.1, h.2.imp id ?_⟩
  rintro ⟨g, cap, cur, hv, hg, r⟩
  exact ⟨g, cap, cur, hv, Nat.le_trans hb hg, r⟩
def LostR (w : World) (l : List ByteArray) (e : Ending) (w' : World) : Prop := ∃ x, e = .returned x ∧ w'.ownsRow w.heap.size 9 1 x l.length (l.map Value.string) ∧ Below w.heap.size w w'
set_option maxHeartbeats 8000000 in
theorem rlost_any (M : Mg) (P C : Value) (v : Int) (w : World) (hs : Msm M) (h1 : MAt w w.heap.size M P C) : Calls Tryz.prog 10 #[mV M P C, .int .i64 v] w fun e w' => LostR w ((mlost M v).map (·.nm)) e w' := by
  obtain ⟨w2, hw2⟩ : ∃ w2, w.alloc (.cells (mC M P C) 38) = w2 := ⟨_, rfl⟩
  have hb2 : Below w.heap.size w w2 := by rw [← hw2]; exact (Below.refl _ w).alloc (Nat.le_refl _) _
  have q0 : w2.heap[w.heap.size]? = some (.cells (mC M P C) 38 (0, 0)) := by rw [← hw2]; exact World.alloc_heap_new _ _
  have hlt := (Array.getElem?_eq_some_iff.1 q0).1
  have HL0 := Lib.hid (mr_look q0)
  have KC : Hid (Calls Tryz.prog 28 #[.agg (mC M P C)] w2 fun e w' => e = .returned (.int .i64 (mck M)) ∧ Below w2.heap.size w2 w') := Lib.hid (rchk_F hs ⟨P, C, rfl, h1.later hb2⟩)
  have HW2 := Lib.hid hw2
  have HB2 := Lib.hid hb2
  have HQ := Lib.hid q0
  clear hw2 hb2 q0 h1
  unfold mV mlost
  by_cases hE : mck M = 0
  · by_cases hv : v = 1
    · subst hv
      rw [if_neg (by simp [hE])]
      rw [hE] at KC
      clear hE
      obtain ⟨i0, hi, hz, hz1, hz2⟩ := info_parts strInfo
      go_enter Tryz.func10, Tryz.ntmps10
      go_wp2_with (rw [HW2.out]; refine wpList_load_run rfl 38 (.tmp 2) rfl (some ⟨w.heap.size, 0, none⟩) rfl (.agg (mC M P C)) HL0.out ?_)
      refine KC.out.mono ?_
      rintro e w3 ⟨rfl, hb3⟩
      have q3 := (hb3.block _ hlt).trans HQ.out
      have c3 := row_cell q3 0 (.int .i64 M.k) rfl
      have HB3 := Lib.hid (HB2.out.trans (hb3.mono HB2.out.size))
      have HQ3 := Lib.hid q3
      clear hb3 q3 KC
      go_wp2_with fail
      refine (rall_any M.k w3).mono ?_
      rintro e w4 ⟨A4, c4, rfl, hc4, hF4, hb4⟩
      have HF4 := Lib.hid hF4
      have HQ4 := Lib.hid ((hb4.block _ (Array.getElem?_eq_some_iff.1 HQ3.out).1).trans HQ3.out)
      have HB4 := Lib.hid (HB3.out.trans (hb4.mono HB3.out.size))
      have hN6 : (FD M.k).length ≤ 6 := by unfold FD; rw [pls_len]; exact raw_few M.k
      have HTW := Lib.hid (FD_two M.k)
      obtain ⟨L, hL⟩ : ∃ L, FD M.k = L := ⟨_, rfl⟩
      rw [hL] at hc4 HF4 hN6 HTW ⊢
      obtain ⟨N, hN⟩ : ∃ N, L.length = N := ⟨_, rfl⟩
      rw [hN] at hc4 hN6 ⊢
      have HN := Lib.hid hN
      have HLF := Lib.hid hL
      have hwq := (Array.getElem?_eq_some_iff.1 HQ4.out).1
      clear hL hN hF4 hb4 c3 HQ3 HB3
      go_wp2_with fail
      go_loopw [5, 7] (fun x5 x7 wr => ∃ p : Nat, p ≤ N ∧ x7 = .int .i64 (p : Int) ∧ Hid (wr.ownsRow w4.heap.size 9 1 x5 (((L.take p).filter (lostF M)).map (·.nm)).length ((((L.take p).filter (lostF M)).map (·.nm)).map Value.string)) ∧ Hid (Below w4.heap.size w4 wr)) (fun _ x7 _ => N - (intOf x7).toNat)
      case atStart => exact ⟨0, by omega, rfl, Lib.hid (by simp [World.ownsRow_nil]), Lib.hid (Below.refl _ _)⟩
      case round =>
        obtain ⟨p, hp, rfl, HO, HBr⟩ := hrel
        rcases Nat.lt_or_ge p N with hpn | hpn
        · obtain ⟨f, hf⟩ : ∃ f, L[p]? = some f := ⟨_, List.getElem?_eq_getElem (by rw [HN.out]; exact hpn)⟩
          obtain ⟨g3, rfl, _, hg3, e0, e1, e2, e3, e4, e5, e6⟩ := (HF4.out.below HBr.out).seven hf
          have htk := lost_take (M := M) hf
          have htw := HTW.out f (List.mem_of_getElem? hf)
          have hnl : (((L.take p).filter (lostF M)).map (·.nm)).length ≤ 6 := by
            rw [List.length_map]
            refine Nat.le_trans (List.length_filter_le _ _) ?_
            rw [List.length_take]
            omega
          have q4 := (HBr.out.block _ hwq).trans HQ4.out
          have hpn2 : (p : Int) < (N : Int) := by omega
          have hpc : (N : Int) ≤ (c4 : Int) := by omega
          clear hf e3 e4
          by_cases h2 : f.si = 2
          · rw [h2] at e5
            rcases htw h2 with ⟨hso, jj, hj6, hpl⟩ | ⟨hso, hpl⟩
            · have hlf := lost_num (M := M) h2 hso hpl
              rw [hso] at e1
              rw [hpl] at e2
              have k1 := mg_at q4 hj6
              have hz6 : (jj : Int) < 6 := by omega
              have hz0 : (0 : Int) ≤ (jj : Int) := by omega
              obtain ⟨x, hx⟩ : ∃ x, M.at' jj = x := ⟨_, rfl⟩
              obtain ⟨ab, hab⟩ : ∃ ab, f.ab = ab := ⟨_, rfl⟩
              rw [hx] at k1 hlf
              rw [hab] at e6 hlf
              have L1 : ∀ V', Below wr.heap.size wr V' → (Instr.loadAt 3 (.pointer (some ⟨g3, p * 7 + 1, none⟩))).run Tryz.prog V' = .ok (.int .i64 1) V' := fun V' hV => by
                have := (hV.cell (p := ⟨g3, p * 7 + 1, none⟩) hg3).trans e1
                simp [Instr.loadAt, go_sem, this]
              have L2 : ∀ V', Below wr.heap.size wr V' → (Instr.loadAt 3 (.pointer (some ⟨g3, p * 7 + 2, none⟩))).run Tryz.prog V' = .ok (.int .i64 (jj : Int)) V' := fun V' hV => by
                have := (hV.cell (p := ⟨g3, p * 7 + 2, none⟩) hg3).trans e2
                simp [Instr.loadAt, go_sem, this]
              have L6 : ∀ V', Below wr.heap.size wr V' → (Instr.loadAt 3 (.pointer (some ⟨g3, p * 7 + 6, none⟩))).run Tryz.prog V' = .ok (.int .i64 ab) V' := fun V' hV => by
                have := (hV.cell (p := ⟨g3, p * 7 + 6, none⟩) hg3).trans e6
                simp [Instr.loadAt, go_sem, this]
              have LX : ∀ V', Below wr.heap.size wr V' → (Instr.loadAt 3 (.pointer (some ⟨w.heap.size, 1 + jj, none⟩))).run Tryz.prog V' = .ok (.int .i64 x) V' := fun V' hV => by
                have := (hV.cell (p := ⟨w.heap.size, 1 + jj, none⟩) (by show w.heap.size < _; exact (Array.getElem?_eq_some_iff.1 q4).1)).trans k1
                simp [Instr.loadAt, go_sem, this]
              by_cases hn : x = ab
              · rw [decide_eq_false (by simpa using hn)] at hlf
                rw [hlf, if_neg (by decide), List.append_nil] at htk
                have HTK := Lib.hid htk
                subst hn
                clear htk htw hlf hx hab h2 hso hpl q4 e1 e2 e6 k1
                go_wp2_with fail
                refine wp_region_F 74 [] (fun _ _ _ => True) (fun V' => Below wr.heap.size wr V') (by kernel_rfl) (by kernel_rfl) (by rfl) (by simp) (fun W W' h hb => h.trans (hb.mono h.size)) (fun q x W W' h hb => trivial) (Below.refl _ _).drew ?_
                repeat (first | (refine wpF_skipF rfl rfl ?_; simp only [Act.put, List.setIfInBounds_toArray, List.set_cons_succ, List.set_cons_zero]) | (refine wpF_pure rfl rfl ?_; go_big_quiet_step (fail); refine wpQuiet_nil ?_))
                refine wpF_load (.int .i64 1) rfl (by rfl) (by rfl) (by rfl) L1 ?_
                simp only [Act.put, List.setIfInBounds_toArray, List.set_cons_succ, List.set_cons_zero]
                repeat (first | (refine wpF_skipF rfl rfl ?_; simp only [Act.put, List.setIfInBounds_toArray, List.set_cons_succ, List.set_cons_zero]) | (refine wpF_pure rfl rfl ?_; go_big_quiet_step (fail); refine wpQuiet_nil ?_))
                refine wpF_load (.int .i64 (jj : Int)) rfl (by rfl) (by rfl) (by rfl) L2 ?_
                simp only [Act.put, List.setIfInBounds_toArray, List.set_cons_succ, List.set_cons_zero]
                repeat (first | (refine wpF_skipF rfl rfl ?_; simp only [Act.put, List.setIfInBounds_toArray, List.set_cons_succ, List.set_cons_zero]) | (refine wpF_pure rfl rfl ?_; go_big_quiet_step (fail); refine wpQuiet_nil ?_))
                refine wpF_load (.int .i64 (jj : Int)) rfl (by rfl) (by rfl) (by rfl) L2 ?_
                simp only [Act.put, List.setIfInBounds_toArray, List.set_cons_succ, List.set_cons_zero]
                repeat (first | (refine wpF_skipF rfl rfl ?_; simp only [Act.put, List.setIfInBounds_toArray, List.set_cons_succ, List.set_cons_zero]) | (refine wpF_pure rfl rfl ?_; go_big_quiet_step (fail); refine wpQuiet_nil ?_))
                refine wpF_load (.int .i64 x) rfl (by rfl) (by rfl) (by rfl) LX ?_
                simp only [Act.put, List.setIfInBounds_toArray, List.set_cons_succ, List.set_cons_zero]
                repeat (first | (refine wpF_skipF rfl rfl ?_; simp only [Act.put, List.setIfInBounds_toArray, List.set_cons_succ, List.set_cons_zero]) | (refine wpF_pure rfl rfl ?_; go_big_quiet_step (fail); refine wpQuiet_nil ?_))
                refine wpF_load (.int .i64 x) rfl (by rfl) (by rfl) (by rfl) L6 ?_
                simp only [Act.put, List.setIfInBounds_toArray, List.set_cons_succ, List.set_cons_zero]
                repeat (first | (refine wpF_skipF rfl rfl ?_; simp only [Act.put, List.setIfInBounds_toArray, List.set_cons_succ, List.set_cons_zero]) | (refine wpF_pure rfl rfl ?_; go_big_quiet_step (fail); refine wpQuiet_nil ?_))
                intro xs W hW _
                simp only [fill]
                have HO2 := Lib.hid (own_below7 HO.out hW)
                have HB2 := Lib.hid (HBr.out.trans (hW.mono HBr.out.size))
                clear hW L1 L2 L6 LX e0 e5
                go_wp2_with fail
                go_roundw
                case rel => exact ⟨p + 1, by omega, by go_num, Lib.hid (by rw [HTK.out]; exact HO2.out), HB2⟩
                case measure => simp [intOf]; omega
              · rw [decide_eq_true (by simpa using hn)] at hlf
                rw [hlf, if_pos rfl] at htk
                have HTK := Lib.hid htk
                clear htk htw hlf hx hab h2 hso hpl q4 e1 e2 e6 k1
                go_wp2_with fail
                refine wp_region_F 74 [] (fun _ _ _ => True) (fun V' => Below wr.heap.size wr V') (by kernel_rfl) (by kernel_rfl) (by rfl) (by simp) (fun W W' h hb => h.trans (hb.mono h.size)) (fun q x W W' h hb => trivial) (Below.refl _ _).drew ?_
                repeat (first | (refine wpF_skipF rfl rfl ?_; simp only [Act.put, List.setIfInBounds_toArray, List.set_cons_succ, List.set_cons_zero]) | (refine wpF_pure rfl rfl ?_; go_big_quiet_step (fail); refine wpQuiet_nil ?_))
                refine wpF_load (.int .i64 1) rfl (by rfl) (by rfl) (by rfl) L1 ?_
                simp only [Act.put, List.setIfInBounds_toArray, List.set_cons_succ, List.set_cons_zero]
                repeat (first | (refine wpF_skipF rfl rfl ?_; simp only [Act.put, List.setIfInBounds_toArray, List.set_cons_succ, List.set_cons_zero]) | (refine wpF_pure rfl rfl ?_; go_big_quiet_step (fail); refine wpQuiet_nil ?_))
                refine wpF_load (.int .i64 (jj : Int)) rfl (by rfl) (by rfl) (by rfl) L2 ?_
                simp only [Act.put, List.setIfInBounds_toArray, List.set_cons_succ, List.set_cons_zero]
                repeat (first | (refine wpF_skipF rfl rfl ?_; simp only [Act.put, List.setIfInBounds_toArray, List.set_cons_succ, List.set_cons_zero]) | (refine wpF_pure rfl rfl ?_; go_big_quiet_step (fail); refine wpQuiet_nil ?_))
                refine wpF_load (.int .i64 (jj : Int)) rfl (by rfl) (by rfl) (by rfl) L2 ?_
                simp only [Act.put, List.setIfInBounds_toArray, List.set_cons_succ, List.set_cons_zero]
                repeat (first | (refine wpF_skipF rfl rfl ?_; simp only [Act.put, List.setIfInBounds_toArray, List.set_cons_succ, List.set_cons_zero]) | (refine wpF_pure rfl rfl ?_; go_big_quiet_step (fail); refine wpQuiet_nil ?_))
                refine wpF_load (.int .i64 x) rfl (by rfl) (by rfl) (by rfl) LX ?_
                simp only [Act.put, List.setIfInBounds_toArray, List.set_cons_succ, List.set_cons_zero]
                repeat (first | (refine wpF_skipF rfl rfl ?_; simp only [Act.put, List.setIfInBounds_toArray, List.set_cons_succ, List.set_cons_zero]) | (refine wpF_pure rfl rfl ?_; go_big_quiet_step (fail); refine wpQuiet_nil ?_))
                refine wpF_load (.int .i64 ab) rfl (by rfl) (by rfl) (by rfl) L6 ?_
                simp only [Act.put, List.setIfInBounds_toArray, List.set_cons_succ, List.set_cons_zero]
                repeat (first | (refine wpF_skipF rfl rfl ?_; simp only [Act.put, List.setIfInBounds_toArray, List.set_cons_succ, List.set_cons_zero]) | (refine wpF_pure rfl rfl ?_; go_big_quiet_step (fail); refine wpQuiet_nil ?_))
                intro xs W hW _
                simp only [fill]
                have HO2 := Lib.hid (own_below7 HO.out hW)
                have HB2 := Lib.hid (HBr.out.trans (hW.mono HBr.out.size))
                have n0 := ((hW.cell (p := ⟨g3, p * 7, none⟩) hg3).trans e0)
                clear hW L1 L2 L6 LX e0 e5
                go_wp2_with (at_builtin; refine wpList_append_own _ rfl (.tmp 65) (.tmp 71) 40 rfl w4.heap.size 9 i0 (.string ⟨#[]⟩) 1 16 Tryz.underlying40 hi hz hz1 hz2 rfl (by decide) _ _ _ rfl (own_below7 HO2.out ((Below.refl _ _).alloc (Nat.le_refl _) _)) ⟨W.heap.size, 0, none⟩ 1 1 [_] rfl rfl (cell_one_new _ _ _) ?_ ?_ ?_ ?_ ?_; (intro u hu; simp at hu; subst hu; rfl); (unfold maxLen; omega); omega; (have := HB2.out.size; simp; omega); intro v' w5 hown5 hgrow5 _)
                have HO5 : Hid (w5.ownsRow w4.heap.size 9 1 v' (((L.take (p + 1)).filter (lostF M)).map (·.nm)).length ((((L.take (p + 1)).filter (lostF M)).map (·.nm)).map Value.string)) := Lib.hid (by
                  rw [HTK.out, List.length_append, List.map_append]
                  exact hown5)
                have HB5 := Lib.hid ((HB2.out.alloc HB2.out.size (.cells #[.string f.nm] 9)).grown hgrow5 (by have := HB2.out.size; simp; omega) (fun g hk => (HO2.out.lt g hk).1))
                clear hown5 hgrow5
                go_roundw
                case rel => exact ⟨p + 1, by omega, by go_num, HO5, HB5⟩
                case measure => simp [intOf]; omega
            · have hlf := lost_tag (M := M) h2 hso hpl
              rw [hso] at e1
              rw [hpl] at e2
              obtain ⟨-, -, -, -, -, -, -, -, -, -, f10⟩ := mg_block q4
              obtain ⟨tg, htg⟩ : ∃ tg, M.tg = tg := ⟨_, rfl⟩
              rw [htg] at f10 hlf
              have L1 : ∀ V', Below wr.heap.size wr V' → (Instr.loadAt 3 (.pointer (some ⟨g3, p * 7 + 1, none⟩))).run Tryz.prog V' = .ok (.int .i64 6) V' := fun V' hV => by
                have := (hV.cell (p := ⟨g3, p * 7 + 1, none⟩) hg3).trans e1
                simp [Instr.loadAt, go_sem, this]
              have L2 : ∀ V', Below wr.heap.size wr V' → (Instr.loadAt 3 (.pointer (some ⟨g3, p * 7 + 2, none⟩))).run Tryz.prog V' = .ok (.int .i64 (-1)) V' := fun V' hV => by
                have := (hV.cell (p := ⟨g3, p * 7 + 2, none⟩) hg3).trans e2
                simp [Instr.loadAt, go_sem, this]
              have LT : ∀ V', Below wr.heap.size wr V' → (Instr.loadAt 9 (.pointer (some ⟨w.heap.size, 10, none⟩))).run Tryz.prog V' = .ok (.string tg) V' := fun V' hV => by
                have := (hV.cell (p := ⟨w.heap.size, 10, none⟩) (by show w.heap.size < _; exact (Array.getElem?_eq_some_iff.1 q4).1)).trans f10
                simp [Instr.loadAt, go_sem, this]
              by_cases hn : tg = ⟨#[]⟩
              · rw [decide_eq_false (by simpa using hn)] at hlf
                rw [hlf, if_neg (by decide), List.append_nil] at htk
                have HTK := Lib.hid htk
                subst hn
                clear htk htw hlf htg h2 hso hpl q4 e1 e2 f10
                go_wp2_with fail
                refine wp_region_F 74 [] (fun _ _ _ => True) (fun V' => Below wr.heap.size wr V') (by kernel_rfl) (by kernel_rfl) (by rfl) (by simp) (fun W W' h hb => h.trans (hb.mono h.size)) (fun q x W W' h hb => trivial) (Below.refl _ _).drew ?_
                repeat (first | (refine wpF_skipF rfl rfl ?_; simp only [Act.put, List.setIfInBounds_toArray, List.set_cons_succ, List.set_cons_zero]) | (refine wpF_pure rfl rfl ?_; go_big_quiet_step (fail); refine wpQuiet_nil ?_))
                refine wpF_load (.int .i64 6) rfl (by rfl) (by rfl) (by rfl) L1 ?_
                simp only [Act.put, List.setIfInBounds_toArray, List.set_cons_succ, List.set_cons_zero]
                repeat (first | (refine wpF_skipF rfl rfl ?_; simp only [Act.put, List.setIfInBounds_toArray, List.set_cons_succ, List.set_cons_zero]) | (refine wpF_pure rfl rfl ?_; go_big_quiet_step (fail); refine wpQuiet_nil ?_))
                refine wpF_load (.string ⟨#[]⟩) rfl (by rfl) (by rfl) (by rfl) LT ?_
                simp only [Act.put, List.setIfInBounds_toArray, List.set_cons_succ, List.set_cons_zero]
                repeat (first | (refine wpF_skipF rfl rfl ?_; simp only [Act.put, List.setIfInBounds_toArray, List.set_cons_succ, List.set_cons_zero]) | (refine wpF_pure rfl rfl ?_; go_big_quiet_step (fail); refine wpQuiet_nil ?_))
                refine wpF_load (.int .i64 (-1)) rfl (by rfl) (by rfl) (by rfl) L2 ?_
                simp only [Act.put, List.setIfInBounds_toArray, List.set_cons_succ, List.set_cons_zero]
                repeat (first | (refine wpF_skipF rfl rfl ?_; simp only [Act.put, List.setIfInBounds_toArray, List.set_cons_succ, List.set_cons_zero]) | (refine wpF_pure rfl rfl ?_; go_big_quiet_step (fail); refine wpQuiet_nil ?_))
                intro xs W hW _
                simp only [fill]
                have HO2 := Lib.hid (own_below7 HO.out hW)
                have HB2 := Lib.hid (HBr.out.trans (hW.mono HBr.out.size))
                clear hW L1 L2 LT e0 e5
                go_wp2_with fail
                go_roundw
                case rel => exact ⟨p + 1, by omega, by go_num, Lib.hid (by rw [HTK.out]; exact HO2.out), HB2⟩
                case measure => simp [intOf]; omega
              · rw [decide_eq_true (by simpa using hn)] at hlf
                rw [hlf, if_pos rfl] at htk
                have HTK := Lib.hid htk
                have hn2 := str_beq hn
                have hn3 : tg.toList.isEmpty = false := by
                  have h := str_nil hn
                  cases he : tg.toList with
                  | nil => exact absurd he h
                  | cons _ _ => rfl
                clear htk htw hlf htg h2 hso hpl q4 e1 e2 f10
                go_wp2_with fail
                refine wp_region_F 74 [] (fun _ _ _ => True) (fun V' => Below wr.heap.size wr V') (by kernel_rfl) (by kernel_rfl) (by rfl) (by simp) (fun W W' h hb => h.trans (hb.mono h.size)) (fun q x W W' h hb => trivial) (Below.refl _ _).drew ?_
                repeat (first | (refine wpF_skipF rfl rfl ?_; simp only [Act.put, List.setIfInBounds_toArray, List.set_cons_succ, List.set_cons_zero]) | (refine wpF_pure rfl rfl ?_; go_big_quiet_step (fail); refine wpQuiet_nil ?_))
                refine wpF_load (.int .i64 6) rfl (by rfl) (by rfl) (by rfl) L1 ?_
                simp only [Act.put, List.setIfInBounds_toArray, List.set_cons_succ, List.set_cons_zero]
                repeat (first | (refine wpF_skipF rfl rfl ?_; simp only [Act.put, List.setIfInBounds_toArray, List.set_cons_succ, List.set_cons_zero]) | (refine wpF_pure rfl rfl ?_; go_big_quiet_step (fail); refine wpQuiet_nil ?_))
                refine wpF_load (.string tg) rfl (by rfl) (by rfl) (by rfl) LT ?_
                simp only [Act.put, List.setIfInBounds_toArray, List.set_cons_succ, List.set_cons_zero]
                repeat (first | (refine wpF_skipF rfl rfl ?_; simp only [Act.put, List.setIfInBounds_toArray, List.set_cons_succ, List.set_cons_zero]) | (refine wpF_pure rfl rfl ?_; go_big_quiet_step (fail); refine wpQuiet_nil ?_))
                intro xs W hW _
                simp only [fill]
                have HO2 := Lib.hid (own_below7 HO.out hW)
                have HB2 := Lib.hid (HBr.out.trans (hW.mono HBr.out.size))
                have n0 := ((hW.cell (p := ⟨g3, p * 7, none⟩) hg3).trans e0)
                clear hW L1 L2 LT e0 e5
                go_wp2_with (at_builtin; refine wpList_append_own _ rfl (.tmp 65) (.tmp 71) 40 rfl w4.heap.size 9 i0 (.string ⟨#[]⟩) 1 16 Tryz.underlying40 hi hz hz1 hz2 rfl (by decide) _ _ _ rfl (own_below7 HO2.out ((Below.refl _ _).alloc (Nat.le_refl _) _)) ⟨W.heap.size, 0, none⟩ 1 1 [_] rfl rfl (cell_one_new _ _ _) ?_ ?_ ?_ ?_ ?_; (intro u hu; simp at hu; subst hu; rfl); (unfold maxLen; omega); omega; (have := HB2.out.size; simp; omega); intro v' w5 hown5 hgrow5 _)
                have HO5 : Hid (w5.ownsRow w4.heap.size 9 1 v' (((L.take (p + 1)).filter (lostF M)).map (·.nm)).length ((((L.take (p + 1)).filter (lostF M)).map (·.nm)).map Value.string)) := Lib.hid (by
                  rw [HTK.out, List.length_append, List.map_append]
                  exact hown5)
                have HB5 := Lib.hid ((HB2.out.alloc HB2.out.size (.cells #[.string f.nm] 9)).grown hgrow5 (by have := HB2.out.size; simp; omega) (fun g hk => (HO2.out.lt g hk).1))
                clear hown5 hgrow5
                go_roundw
                case rel => exact ⟨p + 1, by omega, by go_num, HO5, HB5⟩
                case measure => simp [intOf]; omega
          · have hlf := lost_old (M := M) h2
            rw [hlf, if_neg (by decide), List.append_nil] at htk
            have HTK := Lib.hid htk
            have h3 : (f.si != 2) = true := by simpa using h2
            clear htk htw hlf q4
            go_wp2_with fail
            go_roundw
            case rel => exact ⟨p + 1, by omega, by go_num, Lib.hid (by rw [HTK.out]; exact HO.out), HBr⟩
            case measure => simp [intOf]; omega
        · obtain rfl : N = p := by omega
          have HOF : Hid (wr.ownsRow w.heap.size 9 1 u5 (((FD M.k).filter (lostF M)).map (·.nm)).length ((((FD M.k).filter (lostF M)).map (·.nm)).map Value.string)) := Lib.hid (by
            have h := HO.out
            rw [List.take_of_length_le (by rw [HN.out]; exact Nat.le_refl _), ← HLF.out] at h
            exact own_less h HB4.out.size)
          have HBF := Lib.hid (HB4.out.trans (HBr.out.mono HB4.out.size))
          clear HO HBr
          go_wp2
          go_ret
          exact ⟨u5, rfl, HOF.out, HBF.out⟩
    · have e1 : (v != 1) = true := by simpa using hv
      rw [if_pos (.inr hv)]
      rw [hE] at KC
      go_enter Tryz.func10, Tryz.ntmps10
      go_wp2_with (rw [HW2.out]; refine wpList_load_run rfl 38 (.tmp 2) rfl (some ⟨w.heap.size, 0, none⟩) rfl (.agg (mC M P C)) HL0.out ?_)
      refine KC.out.mono ?_
      rintro e w3 ⟨rfl, hb3⟩
      have HF := Lib.hid (HB2.out.trans (hb3.mono HB2.out.size))
      clear hb3 KC
      go_wp2
      go_ret
      exact ⟨_, rfl, World.ownsRow_nil _ _ _ _, HF.out⟩
  · rw [if_pos (.inl hE)]
    obtain ⟨E, hEE⟩ : ∃ E, mck M = E := ⟨_, rfl⟩
    rw [hEE] at KC hE
    have e1 : (E != 0) = true := by simpa using hE
    clear hEE
    go_enter Tryz.func10, Tryz.ntmps10
    go_wp2_with (rw [HW2.out]; refine wpList_load_run rfl 38 (.tmp 2) rfl (some ⟨w.heap.size, 0, none⟩) rfl (.agg (mC M P C)) HL0.out ?_)
    refine KC.out.mono ?_
    rintro e w3 ⟨rfl, hb3⟩
    have HF := Lib.hid (HB2.out.trans (hb3.mono HB2.out.size))
    clear hb3 KC
    go_wp2
    go_ret
    exact ⟨_, rfl, World.ownsRow_nil _ _ _ _, HF.out⟩
end Go.Proofs.YtlbfibnfmijahaaGreat

namespace Go.Proofs.YtlbfibnfmijahaaGreat
open Go.RowKit Go.Shelf
set_option maxRecDepth 100000
attribute [local go_sem] Oper.semAt_some

/-- what a turning leaves -/
def TurnR (w : World) (r : List Int × Bool × Int) (e : Ending) (w' : World) : Prop := ∃ x, e = .returned (.tuple #[x, .bool r.2.1, .int .i64 r.2.2]) ∧ Made w w' r.1 x
theorem TurnR.no {w w' : World} (E : Int) (hb : Below w.heap.size w w') : TurnR w ([], false, E) (.returned (.tuple #[.slice none 0 0, .bool false, .int .i64 E])) w' := ⟨_, rfl, World.ownsRow_nil _ _ _ _, hb⟩
end Go.Proofs.YtlbfibnfmijahaaGreat

namespace Go.Proofs.YtlbfibnfmijahaaGreat
open Go.RowKit Go.Shelf
set_option maxRecDepth 100000
attribute [local go_sem] Oper.semAt_some

end Go.Proofs.YtlbfibnfmijahaaGreat

namespace Go.Proofs.YtlbfibnfmijahaaGreat
open Go.RowKit
section
variable {F : Fence} {nF : Nat} {P : Program} {w : World} {ops : Array Oper} {rest : List Oper} {o : Oper} {a : Act} {Q : Exit → Act → World → Prop}
end
end Go.Proofs.YtlbfibnfmijahaaGreat

namespace Go.Proofs.YtlbfibnfmijahaaGreat
open Go.RowKit Go.Shelf
set_option maxRecDepth 100000
attribute [local go_sem] Oper.semAt_some

/-- names that lie in a row -/
def NmAt (w : World) (B : Nat) (A : Option Addr) (L : List ByteArray) : Prop := ∀ (j : Nat) (p : ByteArray), L[j]? = some p → ∃ g, A = some ⟨g, 0, none⟩ ∧ g < B ∧ w.cell? ⟨g, j, none⟩ = some (.string p)
theorem NmAt.below {w w' : World} {B : Nat} {A : Option Addr} {L : List ByteArray} (h : NmAt w B A L) (hb : Below B w w') : NmAt w' B A L := fun j p hj => by
  obtain ⟨g, h1, h2, h3⟩ := h j p hj
  exact ⟨g, h1, h2, (hb.cell (p := ⟨g, j, none⟩) h2).trans h3⟩
theorem NmAt.of {w : World} {base n : Nat} {x : Value} {L : List ByteArray} (h : w.ownsRow base 9 1 x n (L.map Value.string)) (hn : L.length = n) : ∃ A c, x = .slice A n c ∧ n ≤ c ∧ NmAt w w.heap.size A L := by
  have h0 := h
  obtain ⟨_, h2⟩ := h
  rcases h2 with ⟨rfl, h3⟩ | ⟨g, cap, cur, rfl, hg, hh, hc, -⟩
  · have : L = [] := List.eq_nil_of_length_eq_zero (by omega)
    subst this
    exact ⟨none, 0, by rw [h3], by omega, fun j p hj => by simp at hj⟩
  · refine ⟨some ⟨g, 0, none⟩, cap, rfl, hc, fun j p hj => ⟨g, rfl, (Array.getElem?_eq_some_iff.1 hh).1, ?_⟩⟩
    have := h0.cells (g := g) rfl j (.string p) (by rw [List.getElem?_map, hj]; rfl)
    by_cases hj0 : j = 0
    · subst hj0; simpa [Addr.add] using this
    · simpa [Addr.add, hj0] using this
theorem mlost_few (M : Mg) (v : Int) : (mlost M v).length ≤ 6 := by
  have h6 : (FD M.k).length ≤ 6 := by unfold FD; rw [pls_len]; exact raw_few M.k
  unfold mlost
  split
  · simp
  · exact Nat.le_trans (List.length_filter_le _ _) h6
theorem PackR.right {w w' : World} {M : Mg} {v : Int} {e : Ending} {L : List Int} (h : PackR w M v e w') (hb : benc M v = (L, 0)) : ∃ x, e = .returned (.tuple #[.int .i64 M.k, x, .int .i64 0]) ∧ Made w w' L x := by
  unfold PackR at h
  rw [hb] at h
  obtain ⟨x, h1, h2⟩ := h
  rw [if_pos rfl] at h1
  exact ⟨x, h1, h2⟩
theorem PackR.wrong {w w' : World} {M : Mg} {v E : Int} {e : Ending} {L : List Int} (h : PackR w M v e w') (hb : benc M v = (L, E)) (hE : ¬ E = 0) : ∃ x, e = .returned (.tuple #[.int .i64 0, x, .int .i64 E]) ∧ Made w w' L x := by
  unfold PackR at h
  rw [hb] at h
  obtain ⟨x, h1, h2⟩ := h
  rw [if_neg hE] at h1
  exact ⟨x, h1, h2⟩
/-- the sources of the law's last region, by slot -/
def FPk (A B : Mg) (s : Tmp) (x : Value) (W : World) : Prop := if s = 185 then x = .bool true else FMs (if s = 182 then A else B) x W
theorem FPk.later {A B : Mg} {s : Tmp} {x : Value} {W W' : World} (h : FPk A B s x W) (hb : Below W.heap.size W W') : FPk A B s x W' := by
  unfold FPk at h ⊢
  split
  · rename_i hs; rw [if_pos hs] at h; exact h
  · rename_i hs
    rw [if_neg hs] at h
    exact h.later hb
end Go.Proofs.YtlbfibnfmijahaaGreat

namespace Go.Proofs.YtlbfibnfmijahaaGreat
open Go.RowKit Go.Shelf
set_option maxRecDepth 100000
attribute [local go_sem] Oper.semAt_some

set_option maxHeartbeats 64000000 in
theorem spacks_yes (X : Mg) (P Q : Value) (v : Int) (hv : v = 1 ∨ v = 2) (w : World) (h1 : MAt w w.heap.size X P Q) : Calls Tryz.prog 3 #[mV X P Q, .int .i64 v] w fun e w' => e = .returned (.bool true) ∧ Below w.heap.size w w' := by
  obtain ⟨w1, hw1⟩ : ∃ w1, w.alloc (.cells (mC X P Q) 26) = w1 := ⟨_, rfl⟩
  have hb1 : Below w.heap.size w w1 := by rw [← hw1]; exact (Below.refl _ w).alloc (Nat.le_refl _) _
  have q0 : w1.heap[w.heap.size]? = some (.cells (mC X P Q) 26 (0, 0)) := by rw [← hw1]; exact World.alloc_heap_new _ _
  have KX := Lib.hid (cut_F hb1.size (h1.below hb1))
  have HW1 := Lib.hid hw1
  have HB1 := Lib.hid hb1
  have HQ := Lib.hid q0
  clear hw1 hb1 q0 h1
  unfold mV
  refine (callsIn_wide (n := 9)).1 ?_
  refine callsIn_of_wp_marks Tryz.func3 rfl trivial ?_ rfl
  simp only [Tryz.ntmps3, List.size_toArray, List.length_cons, List.length_nil, Nat.reduceAdd, Nat.reduceSub, Array.replicate_succ, Array.replicate_zero, List.push_toArray, List.append_toArray, List.nil_append, List.cons_append]
  gi_wp2_with (rw [HW1.out]; refine wpListIn_load_run rfl 26 (.tmp 2) rfl (some ⟨w.heap.size, 0, none⟩) rfl (.agg (mC X P Q)) (mg_read HQ.out) ?_)
  refine ⟨trivial, (callsIn_wide.2 KX.out).mono ?_⟩
  rintro e w2 ⟨_, rfl, ⟨A, P, C, hsA, rfl, hA⟩, hb2⟩
  have r0 := (hb2.block _ (Array.getElem?_eq_some_iff.1 HQ.out).1).trans HQ.out
  obtain ⟨w3, hw3⟩ : ∃ w3, w2.setRow w.heap.size (mC A P C) = w3 := ⟨_, rfl⟩
  have hst := mg_store w2 w.heap.size _ (mC A P C) r0 rfl rfl (mg_oneV hA)
  rw [hw3] at hst
  have HST := Lib.hid hst
  have q3 : w3.heap[w.heap.size]? = some (.cells (mC A P C) 26 (0, 0)) := by rw [← hw3]; exact setRow_heap w2 _ _ _ _ _ r0
  have hs1 := HB1.out.size
  have hs2 := hb2.size
  have hoff := Off.setRow (S := fun k => w.heap.size ≤ k) (Off.refl _ w2) (Nat.le_refl w.heap.size) (mC A P C)
  have hb23 : Below w.heap.size w2 w3 := by rw [← hw3]; exact hoff.below (B := w.heap.size) (fun k hk => by omega) (by omega)
  have HB3 := Lib.hid (HB1.out.trans ((hb2.mono hs1).trans hb23))
  have hmA := hA.below hb23
  have hlt := (Array.getElem?_eq_some_iff.1 q3).1
  have hs3 := HB3.out.size
  have LM : Hid (∀ W, Below w3.heap.size w3 W → (Instr.loadAt 26 (.pointer (some ⟨w.heap.size, 0, none⟩))).run Tryz.prog W = .ok (.agg (mC A P C)) W) := Lib.hid fun W hW => mg_read ((hW.block _ hlt).trans q3)
  have K0 : Hid (∀ W, Below w3.heap.size w3 W → W.cell? ⟨w.heap.size, 0, none⟩ = some (.int .i64 A.k)) := Lib.hid fun W hW => row_cell ((hW.block _ hlt).trans q3) 0 _ rfl
  have FM : Hid (∀ W, Below w3.heap.size w3 W → MAt W W.heap.size A P C) := Lib.hid fun W hW => (hmA.below (hW.mono hs3)).mono (Nat.le_trans hs3 hW.size)
  have HSA := Lib.hid hsA
  obtain ⟨⟨bs, be⟩, hbe⟩ : ∃ r, mbest A = r := ⟨_, rfl⟩
  have KB : Hid (∀ W, Below w3.heap.size w3 W → Calls Tryz.prog 7 #[.agg (mC A P C)] W fun e w' => e = .returned (.tuple #[.int .i64 bs, .int .i64 be]) ∧ Below W.heap.size W w') := Lib.hid fun W hW => by
    have := sbest_any A P C W HSA.out (FM.out W hW)
    rwa [hbe] at this
  have KRB : Hid (∀ W x, FMs A x W → Calls Tryz.prog 8 #[x] W fun e w' => e = .returned (.tuple #[.int .i64 bs, .int .i64 be]) ∧ Below W.heap.size W w') := Lib.hid fun W x hx => by
    obtain ⟨P2, C2, rfl, hm⟩ := hx
    have := rbest_any A P2 C2 W HSA.out hm
    rwa [hbe] at this
  have KO : Hid (∀ W, Below w3.heap.size w3 W → Calls Tryz.prog 9 #[.agg (mC A P C)] W fun e w' => ∃ u, e = .returned u ∧ FMs A u w' ∧ Below W.heap.size W w') := Lib.hid fun W hW => of_F HSA.out ⟨P, C, rfl, FM.out W hW⟩
  clear hw3 hst hb23 hoff q3 r0 hA hmA hb2 hs1 hs2 KX HQ HW1 HB1 hsA hbe
  unfold mV
  gi_wp2_with (refine wpListIn_store_run rfl 26 (.tmp 2) (.tmp 24) rfl (some ⟨w.heap.size, 0, none⟩) rfl (.agg (mC A P C)) rfl HST.out ?_)
  refine ⟨trivial, (callsIn_wide.2 (snew_yes v hv w3)).mono ?_⟩
  rintro e w4 ⟨sb, rfl, hsb, hsa, hb4⟩
  have HSA4 := Lib.hid hsa
  have HB34 := Lib.hid hb4
  have hsl := hsa.lt
  clear hsa hb4 HST
  have l4 := Lib.hid (LM.out w4 HB34.out)
  gi_wp2_with (refine wpListIn_load_run rfl 26 (.tmp 2) rfl (some ⟨w.heap.size, 0, none⟩) rfl (.agg (mC A P C)) l4.out ?_)
  refine ⟨trivial, (callsIn_wide.2 (KB.out w4 HB34.out)).mono ?_⟩
  rintro e w5 ⟨rfl, hb5⟩
  have HB35 := Lib.hid (HB34.out.trans (hb5.mono HB34.out.size))
  have HB45 := Lib.hid hb5
  have l5 := Lib.hid (LM.out w5 HB35.out)
  clear hb5 l4 KB
  gi_wp2_with (refine wpListIn_load_run rfl 26 (.tmp 2) rfl (some ⟨w.heap.size, 0, none⟩) rfl (.agg (mC A P C)) l5.out ?_)
  refine ⟨trivial, (callsIn_wide.2 (KO.out w5 HB35.out)).mono ?_⟩
  rintro e w6 ⟨u6, rfl, hu6, hb6⟩
  have KR6 := Lib.hid (KRB.out w6 u6 hu6)
  have HB36 := Lib.hid (HB35.out.trans (hb6.mono HB35.out.size))
  have HB46 := Lib.hid (HB45.out.trans (hb6.mono HB45.out.size))
  clear hu6 hb6 l5 KRB HB45 HB35
  gi_wp2_with fail
  refine ⟨trivial, (callsIn_wide.2 KR6.out).mono ?_⟩
  rintro e w7 ⟨rfl, hb7⟩
  have HB37 := Lib.hid (HB36.out.trans (hb7.mono HB36.out.size))
  have HB47 := Lib.hid (HB46.out.trans (hb7.mono HB46.out.size))
  have l7 := Lib.hid (LM.out w7 HB37.out)
  clear hb7 KR6 HB36 HB46
  gi_wp2_with (refine wpListIn_load_run rfl 26 (.tmp 2) rfl (some ⟨w.heap.size, 0, none⟩) rfl (.agg (mC A P C)) l7.out ?_)
  refine ⟨trivial, (callsIn_wide.2 (KO.out w7 HB37.out)).mono ?_⟩
  rintro e w8 ⟨_, rfl, ⟨P8, C8, rfl, hm8⟩, hb8⟩
  have KL8 := Lib.hid (rlost_any A P8 C8 v w8 HSA.out hm8)
  have HB38 := Lib.hid (HB37.out.trans (hb8.mono HB37.out.size))
  have HB48 := Lib.hid (HB47.out.trans (hb8.mono HB47.out.size))
  clear hm8 hb8 l7 HB37 HB47
  obtain ⟨NS, hNS⟩ : ∃ NS, (mlost A v).map (·.nm) = NS := ⟨_, rfl⟩
  obtain ⟨n, hn⟩ : ∃ n, NS.length = n := ⟨_, rfl⟩
  have hn6 : (n : Int) ≤ 6 := by
    have := mlost_few A v
    rw [← hn, ← hNS, List.length_map]
    omega
  rw [hNS] at KL8
  gi_wp2_with fail
  refine ⟨trivial, (callsIn_wide.2 KL8.out).mono ?_⟩
  rintro e w9 ⟨_, rfl, hx9, hb9⟩
  obtain ⟨A9, c9, rfl, hc9, hn9⟩ := NmAt.of hx9 rfl
  rw [hn] at hc9 ⊢
  have HB39 := Lib.hid (HB38.out.trans (hb9.mono HB38.out.size))
  have HB49 := Lib.hid (HB48.out.trans (hb9.mono HB48.out.size))
  obtain ⟨B9, hB9⟩ : ∃ B9, w9.heap.size = B9 := ⟨_, rfl⟩
  obtain ⟨wE, hwE⟩ : ∃ wE, ((w9.alloc (.cells #[.slice A9 n c9] 40)).alloc (.cells #[.int .i64 0] 3)).alloc (.cells #[.bool true] 4) = wE := ⟨_, rfl⟩
  have hb9E : Below B9 w9 wE := by rw [← hwE, ← hB9]; exact (((Below.refl _ w9).alloc (Nat.le_refl _) _).alloc (by simp) _).alloc (by simp only [World.size_alloc]; omega) _
  have b9E : Boxed wE B9 40 (.slice A9 n c9) := by rw [← hwE, ← hB9]; exact (Below.heap_alloc _ _ _ (by simp; omega)).trans ((Below.heap_alloc _ _ _ (by simp)).trans (World.alloc_heap_new _ _))
  have bIE : Boxed wE (B9 + 1) 3 (.int .i64 0) := by
    have := World.alloc_heap_new (w9.alloc (.cells #[.slice A9 n c9] 40)) (.cells #[.int .i64 0] 3)
    rw [World.size_alloc] at this
    rw [← hwE, ← hB9]; exact (Below.heap_alloc _ _ _ (by simp)).trans this
  have bOE : Boxed wE (B9 + 1 + 1) 4 (.bool true) := by
    have := World.alloc_heap_new ((w9.alloc (.cells #[.slice A9 n c9] 40)).alloc (.cells #[.int .i64 0] 3)) (.cells #[.bool true] 4)
    rw [World.size_alloc, World.size_alloc] at this
    rw [← hwE, ← hB9]; exact this
  have hsE : wE.heap.size = B9 + 3 := by rw [← hwE, ← hB9]; simp
  have h39s := HB39.out.size
  have h49s := HB49.out.size
  have h34s := HB34.out.size
  rw [hB9] at h39s h49s hn9
  have HN9 := Lib.hid (hn9.below hb9E)
  have HWE := Lib.hid hwE
  have HB3E := Lib.hid (HB39.out.trans (hb9E.mono (by omega)))
  have HB4E := Lib.hid (HB49.out.trans (hb9E.mono (by omega)))
  have HNS := Lib.hid hNS
  have HN := Lib.hid hn
  have lE := Lib.hid (LM.out wE HB3E.out)
  have hcn : (n : Int) ≤ (c9 : Int) := by omega
  clear hwE hb9E hx9 hn9 hb9 hNS hn HB38 HB48 HB39 HB49 KL8
  gi_wp2_with (rw [HWE.out]; refine wpListIn_load_run rfl 26 (.tmp 2) rfl (some ⟨w.heap.size, 0, none⟩) rfl (.agg (mC A P C)) lE.out ?_)
  by_cases hE : mck A = 0
  · have KL := Lib.hid (slost_yes A P C v wE HSA.out (FM.out wE HB3E.out) hE)
    unfold mV at KL
    refine ⟨trivial, (callsIn_wide.2 KL.out).mono ?_⟩
    rintro e wF ⟨b, d, P1, C1, P2, C2, rfl, hb, hd, mF, nF, hbEF⟩
    rw [hsE] at hb hd
    have bI := (hbEF.block _ bIE.lt).trans bIE
    have bO := (hbEF.block _ bOE.lt).trans bOE
    have b9 := (hbEF.block _ b9E.lt).trans b9E
    have HI := Lib.hid (show Fo 3 4 (B9 + 1) (B9 + 1 + 1) wF 0 wF from ⟨bI, bO, Off.refl _ _⟩)
    have H9 := Lib.hid b9
    have HB3F := Lib.hid (HB3E.out.trans (hbEF.mono HB3E.out.size))
    have HB4F := Lib.hid (HB4E.out.trans (hbEF.mono HB4E.out.size))
    have hsF := hbEF.size
    rw [hsE] at hsF hbEF
    have HMF := Lib.hid mF
    have HNF := Lib.hid nF
    have hbl := (Array.getElem?_eq_some_iff.1 mF).1
    have hdl := (Array.getElem?_eq_some_iff.1 nF).1
    have kn := lost_not_nil2
    obtain ⟨LL, hLL⟩ : ∃ LL, (FD A.k).filter (lostP A v) = LL := ⟨_, rfl⟩
    have hLN : LL.map (·.nm) = NS := by rw [← hLL, lostP_all hE, HNS.out]
    have HLL := Lib.hid hLL
    have HLS := Lib.hid (show ∀ (j : Nat) f, LL[j]? = some f → NS[j]? = some f.nm from fun j f h => by rw [← hLN, List.getElem?_map, h]; rfl)
    have HLN : Hid (LL.length = n) := Lib.hid (by rw [← HN.out, ← hLN, List.length_map])
    clear bI bO b9 mF nF KL hLL hLN lE HWE b9E bIE bOE
    gi_wp2_with fail
    refine range_stops rfl (by omega) (gf := 33) (lb := #[.pointer (some ⟨b, 0, none⟩), .pointer (some ⟨d, 0, none⟩)]) rfl trivial (enters_of Tryz.func33 (by kernel_rfl) rfl)
      (fun f : Fd => #[.string f.nm]) (fun _ => rfl)
      (fun j f V => LL[j]? = some f ∧ Fo 3 4 (B9 + 1) (B9 + 1 + 1) wF j V)
      (fun j V => Fo 3 4 (B9 + 1) (B9 + 1 + 1) wF j V) (fun _ _ => False) (KeV wF.heap.size) LL.length
      (fun j f V l o o' h hl ho hc' => ⟨h.1, h.2.putObj hl ho hc'⟩)
      (fun j V l o o' h hl ho hc' => h.putObj hl ho hc')
      (fun _ _ _ _ _ h => h.elim)
      (fun _ _ _ h k => h.trans k) (fun V l o o' hl ho hc' => KeV.putObj ho hc')
      (fun o => HI.out.later (((Below.refl wF.heap.size wF).alloc (Nat.le_refl _) _).alloc (by simp) _)) ?a1 ?assign ?body ?iter ?done ?stop
    case assign =>
      intro l' x V K hK
      gi_wp2
      exact hK
    case body =>
      rintro l' j f V hl' ⟨hf, hFo⟩ hj
      rw [HLN.out] at hj
      obtain ⟨g9, e9, hg9, hs9⟩ := HN9.out j f.nm (HLS.out j f hf)
      subst e9
      have hbE : Below B9 wE V := (hbEF.mono (by omega)).trans (hFo.off.below (fun k hk => by omega) (by have := hbEF.size; omega))
      have d0 := hFo.ok.cell
      have d1 := hFo.ok.frozen
      have d2 := hFo.num.cell
      have d3 := hFo.num.frozen
      have d4 := (show Boxed V B9 40 (.slice (some ⟨g9, 0, none⟩) n c9) from (hFo.off.block _ (by omega) (by omega)).trans H9.out).cell
      have d5 := (hbE.cell (p := ⟨g9, j, none⟩) hg9).trans hs9
      have hjn : (j : Int) < (n : Int) := by omega
      have hF2 := (hFo.ok_set (by omega)).num_set (by omega)
      have hoV : Off (fun q => q = B9 + 1 ∨ q = B9 + 1 + 1) V ((V.setCell ⟨B9 + 1 + 1, 0, none⟩ (.bool true)).setCell ⟨B9 + 1, 0, none⟩ (.int .i64 ((j : Int) + 1))) := Off.setCell (S := fun q => q = B9 + 1 ∨ q = B9 + 1 + 1) (p := ⟨B9 + 1, 0, none⟩) (Off.setCell (S := fun q => q = B9 + 1 ∨ q = B9 + 1 + 1) (p := ⟨B9 + 1 + 1, 0, none⟩) (Off.refl _ _) (.inr rfl) _) (.inl rfl) _
      have HF := Lib.hid (show KeepsFrom wF.heap.size V _ ∧ Fo 3 4 (B9 + 1) (B9 + 1 + 1) wF (j + 1) _ ∧ KeV wF.heap.size V _ from ⟨KeepsFrom.of_offV hoV (fun k hk => by omega), hF2, KeV.off hoV (fun k hk => by omega)⟩)
      obtain ⟨fn, hfn⟩ : ∃ fn, f.nm = fn := ⟨_, rfl⟩
      rw [hfn] at d5 ⊢
      clear hFo hbE hF2 hoV hf hs9 hfn
      gi_wp2
      exact HF.out
    case iter =>
      intro Bk X l V hBk hBlt hX hl hD hB hY
      exact slost_in 8 (by omega) 7 l b d wF.heap.size A P1 C1 P2 C2 v LL HLL.out (fun j V => Fo 3 4 (B9 + 1) (B9 + 1 + 1) wF j V) Bk X (KeV wF.heap.size) hl
        (fun j U V h hb => ⟨(hb.block _ (by omega)).trans h.num, (hb.block _ (by omega)).trans h.ok, off_below h.off hb⟩)
        (fun j V h => ⟨(h.off.block _ hbl (by omega)).trans HMF.out, (h.off.block _ hdl (by omega)).trans HNF.out⟩)
        hBk hBlt hX (fun V V' k cs t h hk hc => h.same k cs t (by omega) hc)
        (fun j f V h hf hb => hY j f V ⟨hf, h⟩ hb (List.getElem?_eq_some_iff.1 hf).1)
        V hD hB
    case done =>
      rintro D V hD hFo hK
      rw [HLN.out] at hFo
      have d0 := hFo.ok.cell
      have d2 := hFo.num.cell
      have d4 := (show Boxed V B9 40 (.slice A9 n c9) from (hFo.off.block _ (by omega) (by omega)).trans H9.out).cell
      have HB3V := Lib.hid (HB3F.out.trans (hFo.off.below (B := w3.heap.size) (fun k hk => by omega) HB3F.out.size))
      have HB4V := Lib.hid (HB4F.out.trans (hFo.off.below (B := w4.heap.size) (fun k hk => by omega) HB4F.out.size))
      have HDV := Lib.hid hK
      have hDlt := (Array.getElem?_eq_some_iff.1 hK).1
      clear hFo hK HI H9
      have hmkv := bdec_body hv hE
      have hbb := body_byte A v
      have hq192 := body_len hv hE
      have hbn : benc A v = (body A v, 0) := by unfold benc; rw [if_neg (by omega), if_neg (by simp [hE])]
      obtain ⟨L, hL⟩ : ∃ L, body A v = L := ⟨_, rfl⟩
      rw [hL] at hmkv hbb hbn hq192
      obtain ⟨q, hq⟩ : ∃ q, L.length = q := ⟨_, rfl⟩
      rw [hq] at hq192
      have HBN := Lib.hid hbn
      have HLQ := Lib.hid hq
      have HBB := Lib.hid (And.intro hmkv hbb)
      clear hmkv hbb hbn hL hq
      have hf : (v != 1) = false ∨ ((v != 1) = true ∧ (v != 2) = false) := by
        rcases hv with rfl | rfl
        · exact .inl rfl
        · exact .inr ⟨rfl, rfl⟩
      have hsV := HB3V.out.size
      have LV : ∀ W, Below V.heap.size V W → (Instr.loadAt 26 (.pointer (some ⟨w.heap.size, 0, none⟩))).run Tryz.prog W = .ok (.agg (mC A P C)) W := fun W hW => LM.out W (HB3V.out.trans (hW.mono hsV))
      have SV : ∀ W, Below V.heap.size V W → SAt W sb v := fun W hW => HSA4.out.later (HB4V.out.trans (hW.mono HB4V.out.size))
      have FV : ∀ W, Below V.heap.size V W → MAt W W.heap.size A P C := fun W hW => FM.out W (HB3V.out.trans (hW.mono hsV))
      have KV1 : ∀ W, Below V.heap.size V W → Calls Tryz.prog 13 #[.pointer (some ⟨sb, 0, none⟩)] W fun e w' => e = .returned (.int .i64 v) ∧ Below W.heap.size W w' := fun W hW => (sversion_any v sb W (SV W hW)).mono fun e w' h => ⟨h.1, by rw [← h.2]; exact Below.refl _ _⟩
      obtain ⟨Df, hD1⟩ : ∃ Df, mfits A v = Df := ⟨_, rfl⟩
      have KV2 : ∀ W, Below V.heap.size V W → Calls Tryz.prog 14 #[.pointer (some ⟨sb, 0, none⟩), .agg (mC A P C)] W fun e w' => e = .returned (.bool Df) ∧ Below W.heap.size W w' := fun W hW => by
        have := sfits_any A P C sb v W HSA.out (FV W hW) (SV W hW)
        rwa [hD1] at this
      have KV3 : ∀ x W, Below V.heap.size V W → FMs A x W → Calls Tryz.prog 15 #[x, .int .i64 v] W fun e w' => e = .returned (.bool Df) ∧ Below W.heap.size W w' := fun x W _ hx => by
        obtain ⟨P2, C2, rfl, hm⟩ := hx
        have := rfits_any A P2 C2 v W HSA.out hm
        rwa [hD1] at this
      clear hD1
      rcases hf with f1 | ⟨f1, f2⟩
      all_goals
        gi_wp2_with fail
        refine wpIn_wide.2 ?_
        refine wp_region_F 192 [117] (fun _ x W => FMs A x W) (fun W => Below V.heap.size V W) (by kernel_rfl) (by kernel_rfl) (by rfl) (by simp) (fun W W' h hb => h.trans (hb.mono h.size)) (fun s x W W' h hb => h.later hb) (Below.refl _ _).drew ?_
        repeat (refine wpF_pure rfl rfl ?_; go_big_quiet_step (fail); refine wpQuiet_nil ?_)
        refine wpF_call (f := 13) (args := #[.pointer (some ⟨sb, 0, none⟩)]) (.int .i64 v) rfl rfl (fun x => by first | rfl | (simp [go_sem]; done)) KV1 ?_
        simp only [Act.put, List.setIfInBounds_toArray, List.set_cons_succ, List.set_cons_zero]
        repeat (refine wpF_pure rfl rfl ?_; go_big_quiet_step (fail); refine wpQuiet_nil ?_)
        refine wpF_load (ad := ⟨w.heap.size, 0, none⟩) (.agg (mC A P C)) rfl (by rfl) (by rfl) (by rfl) LV ?_
        simp only [Act.put, List.setIfInBounds_toArray, List.set_cons_succ, List.set_cons_zero]
        refine wpF_call (f := 14) (args := #[.pointer (some ⟨sb, 0, none⟩), .agg (mC A P C)]) (.bool Df) rfl rfl (fun x => by first | rfl | (simp [go_sem]; done)) KV2 ?_
        simp only [Act.put, List.setIfInBounds_toArray, List.set_cons_succ, List.set_cons_zero]
        refine wpF_load (ad := ⟨w.heap.size, 0, none⟩) (.agg (mC A P C)) rfl (by rfl) (by rfl) (by rfl) LV ?_
        simp only [Act.put, List.setIfInBounds_toArray, List.set_cons_succ, List.set_cons_zero]
        refine wpF_callsrc 117 (f := 9) (args := #[.agg (mC A P C)]) (by simp) rfl rfl rfl (fun x => by first | rfl | (simp [go_sem]; done)) (fun W hW => of_F HSA.out ⟨P, C, rfl, FV W hW⟩) ?_
        simp only [Act.put, List.setIfInBounds_toArray, List.set_cons_succ, List.set_cons_zero]
        repeat (refine wpF_pure rfl rfl ?_; go_big_quiet_step (fail); refine wpQuiet_nil ?_)
        refine wpF_use 117 17 (f := 15) (fun x => #[x, .int .i64 v]) (.bool Df) (by simp) rfl (by kernel_rfl) (by kernel_rfl) (by kernel_rfl) (fun x => by rfl) (fun x W => by first | rfl | (simp [go_sem]; done)) (fun x W hW hx => KV3 x W hW hx) ?_
        simp only [Act.put, List.setIfInBounds_toArray, List.set_cons_succ, List.set_cons_zero]
        repeat (refine wpF_pure rfl rfl ?_; go_big_quiet_step (fail); refine wpQuiet_nil ?_)
        intro xs V2 hV2 _
        simp only [fill, Act.put, List.setIfInBounds_toArray, List.set_cons_succ, List.set_cons_zero]
        generalize xs 117 = x117
        have HB32 := Lib.hid (HB3V.out.trans (hV2.mono hsV))
        have HSB2 := Lib.hid (SV V2 hV2)
        have HD2 := Lib.hid ((hV2.block _ hDlt).trans HDV.out)
        have l2 := Lib.hid (LM.out V2 HB32.out)
        have hDl2 := (Array.getElem?_eq_some_iff.1 HD2.out).1
        have KP2 : Hid (Calls Tryz.prog 16 #[.pointer (some ⟨sb, 0, none⟩), .agg (mC A P C)] V2 fun e w' => ∃ x, e = .returned (.tuple #[.int .i64 A.k, x, .int .i64 0]) ∧ Made V2 w' L x) := Lib.hid ((spack_any A P C sb v V2 HSA.out (FM.out V2 HB32.out) HSB2.out).mono fun e w' h => h.right HBN.out)
        clear hV2 LV SV FV KV1 KV2 KV3 d0 d2 d4
        gi_wp2_with (refine wpListIn_load_run rfl 26 (.tmp 2) rfl (some ⟨w.heap.size, 0, none⟩) rfl (.agg (mC A P C)) l2.out ?_)
        refine ⟨trivial, (callsIn_wide.2 KP2.out).mono ?_⟩
        rintro e V3 ⟨x3, rfl, hm3⟩
        obtain ⟨A3, c3, rfl, hc3, hn3⟩ := hm3.slice
        rw [HLQ.out] at hc3 ⊢
        have HB33 := Lib.hid (HB32.out.trans (hm3.2.mono HB32.out.size))
        have HB23 := Lib.hid hm3.2
        have HN3 := Lib.hid hn3
        have l3 := Lib.hid (LM.out V3 HB33.out)
        clear hm3 hn3 l2 KP2
        gi_wp2_with (refine wpListIn_load_run rfl 26 (.tmp 2) rfl (some ⟨w.heap.size, 0, none⟩) rfl (.agg (mC A P C)) l3.out ?_)
        refine ⟨trivial, (callsIn_wide.2 (KO.out V3 HB33.out)).mono ?_⟩
        rintro e V4 ⟨_, rfl, ⟨P4, C4, rfl, hm4⟩, hb4⟩
        have KE4 : Hid (Calls Tryz.prog 17 #[mV A P4 C4, .int .i64 v] V4 fun e w' => EncR V4 (L, 0) e w') := Lib.hid (by
          have := rencode_any A P4 C4 v V4 HSA.out hm4
          rwa [HBN.out] at this)
        have HB34' := Lib.hid (HB33.out.trans (hb4.mono HB33.out.size))
        have HB24 := Lib.hid (HB23.out.trans (hb4.mono HB23.out.size))
        have HN34 := Lib.hid ((HN3.out.below hb4).mono hb4.size)
        clear hm4 hb4 l3 HN3 HB33 HB23
        gi_wp2_with fail
        refine ⟨trivial, (callsIn_wide.2 KE4.out).mono ?_⟩
        rintro e V5 ⟨x5, rfl, hm5⟩
        obtain ⟨A5, c5, rfl, hc5, hn5⟩ := hm5.slice
        rw [HLQ.out] at hc5 ⊢
        have HB35' := Lib.hid (HB34'.out.trans (hm5.2.mono HB34'.out.size))
        have HB25 := Lib.hid (HB24.out.trans (hm5.2.mono HB24.out.size))
        have HN35 := Lib.hid ((HN34.out.below hm5.2).mono hm5.2.size)
        have KS5 : Hid (Calls Tryz.prog 18 #[.slice A3 q c3, .slice A5 q c5] V5 fun e w' => e = .returned (.bool true) ∧ Below V5.heap.size V5 w') := Lib.hid ((same_len V5.heap.size A3 A5 q q c3 c5 L L V5 rfl HLQ.out HLQ.out (by omega) HN35.out hn5).mono fun e w' h => by
          obtain ⟨h1, j, h2⟩ := h
          exact ⟨h1, by rw [h2]; exact below_drewN (Below.refl _ _) j⟩)
        clear hm5 hn5 KE4 HN34 HB34' HB24
        gi_wp2_with fail
        refine ⟨trivial, (callsIn_wide.2 KS5.out).mono ?_⟩
        rintro e V6 ⟨rfl, hb6⟩
        have HB36' := Lib.hid (HB35'.out.trans (hb6.mono HB35'.out.size))
        have HB26 := Lib.hid (HB25.out.trans (hb6.mono HB25.out.size))
        have HN36 := Lib.hid ((HN35.out.below hb6).mono hb6.size)
        have k6 := K0.out V6 HB36'.out
        clear hb6 KS5 HN35 HB35' HB25
        gi_wp2_with fail
        have KD6 : Hid (Calls Tryz.prog 19 #[.pointer (some ⟨sb, 0, none⟩), .int .i64 A.k, .slice A3 q c3] V6 fun e w' => DecO V6 (0, mproj A v) e w') := Lib.hid (by
          have := sunpack_any A.k A3 q c3 L sb v V6 (HSB2.out.later HB26.out) HLQ.out (by omega) HBB.out.2 HN36.out
          rwa [HBB.out.1] at this)
        refine ⟨trivial, (callsIn_wide.2 KD6.out).mono ?_⟩
        rintro e V7 ⟨P7, C7, rfl, hm7, hb7⟩
        obtain ⟨V8, hst8, q8, hb8⟩ := new_msg V7 hm7.at
        have hb68 := hb7.trans (hb8.mono hb7.size)
        have HB38' := Lib.hid (HB36'.out.trans (hb68.mono HB36'.out.size))
        have HB28 := Lib.hid (HB26.out.trans (hb68.mono HB26.out.size))
        obtain ⟨B, hB⟩ : ∃ B, mproj A v = B := ⟨_, rfl⟩
        have hsB : Msm B := by rw [← hB]; exact mproj_small HSA.out v
        have hfB : mfits B v = true := by rw [← hB]; exact mfits_proj hE v
        have HPB := Lib.hid hB
        rw [hB] at hm7 hst8 q8
        have HM8 := Lib.hid (hm7.at.later hb8)
        have HST8 := Lib.hid hst8
        have HQ8 := Lib.hid q8
        obtain ⟨B7, hB7⟩ : ∃ B7, V7.heap.size = B7 := ⟨_, rfl⟩
        have HB7 := Lib.hid hB7
        have hlt7 := (Array.getElem?_eq_some_iff.1 q8).1
        rw [hB7] at HST8 HQ8 hlt7
        clear hm7 hst8 q8 hb7 hb8 hb68 hB hB7 KD6 HB36' HB26 HN36 k6
        simp only
        rw [HPB.out]
        unfold mV
        gi_wp2_with (rw [HB7.out]; refine wpListIn_store_run rfl 26 (.tmp 21) (.tmp 171) rfl (some ⟨B7, 0, none⟩) rfl (.agg (mC B P7 C7)) rfl HST8.out ?_)
        have L2 : ∀ W, Below V8.heap.size V8 W → (Instr.loadAt 26 (.pointer (some ⟨w.heap.size, 0, none⟩))).run Tryz.prog W = .ok (.agg (mC A P C)) W := fun W hW => LM.out W (HB38'.out.trans (hW.mono HB38'.out.size))
        have L21 : ∀ W, Below V8.heap.size V8 W → (Instr.loadAt 26 (.pointer (some ⟨B7, 0, none⟩))).run Tryz.prog W = .ok (.agg (mC B P7 C7)) W := fun W hW => mg_read ((hW.block _ hlt7).trans HQ8.out)
        have F2 : ∀ W, Below V8.heap.size V8 W → FMs A (.agg (mC A P C)) W := fun W hW => ⟨P, C, rfl, FM.out W (HB38'.out.trans (hW.mono HB38'.out.size))⟩
        have F21 : ∀ W, Below V8.heap.size V8 W → FMs B (.agg (mC B P7 C7)) W := fun W hW => ⟨P7, C7, rfl, HM8.out.later hW⟩
        have KK1 : ∀ W, Below V8.heap.size V8 W → Calls Tryz.prog 12 #[] W fun e w' => e = .returned (.bool true) ∧ Below W.heap.size W w' := fun W _ => lknown_any W
        have KF8 : ∀ W, Below V8.heap.size V8 W → Calls Tryz.prog 14 #[.pointer (some ⟨sb, 0, none⟩), .agg (mC B P7 C7)] W fun e w' => e = .returned (.bool true) ∧ Below W.heap.size W w' := fun W hW => by
          have := sfits_any B P7 C7 sb v W hsB (HM8.out.later hW) (HSB2.out.later (HB28.out.trans (hW.mono HB28.out.size)))
          rwa [hfB] at this
        refine wpIn_wide.2 ?_
        refine wp_region_F 192 [180, 182, 184, 185] (FPk A B) (fun W => Below V8.heap.size V8 W) (by kernel_rfl) (by kernel_rfl) (by rfl) (by simp) (fun W W' h hb => h.trans (hb.mono h.size)) (fun s x W W' h hb => h.later hb) (Below.refl _ _).drew ?_
        refine wpF_call (f := 12) (args := #[]) (.bool true) rfl rfl (fun x => by first | rfl | (simp [go_sem]; done)) KK1 ?_
        simp only [Act.put, List.setIfInBounds_toArray, List.set_cons_succ, List.set_cons_zero]
        repeat (refine wpF_pure rfl rfl ?_; go_big_quiet_step (fail); refine wpQuiet_nil ?_)
        refine wpF_load (ad := ⟨B7, 0, none⟩) (.agg (mC B P7 C7)) rfl (by rfl) (by rfl) (by rfl) L21 ?_
        simp only [Act.put, List.setIfInBounds_toArray, List.set_cons_succ, List.set_cons_zero]
        refine wpF_callsrc 180 (f := 9) (args := #[.agg (mC B P7 C7)]) (by simp) rfl rfl rfl (fun x => by first | rfl | (simp [go_sem]; done)) (fun W hW => of_F hsB (F21 W hW)) ?_
        simp only [Act.put, List.setIfInBounds_toArray, List.set_cons_succ, List.set_cons_zero]
        refine wpF_load (ad := ⟨w.heap.size, 0, none⟩) (.agg (mC A P C)) rfl (by rfl) (by rfl) (by rfl) L2 ?_
        simp only [Act.put, List.setIfInBounds_toArray, List.set_cons_succ, List.set_cons_zero]
        refine wpF_callsrc 182 (f := 9) (args := #[.agg (mC A P C)]) (by simp) rfl rfl rfl (fun x => by first | rfl | (simp [go_sem]; done)) (fun W hW => of_F HSA.out (F2 W hW)) ?_
        simp only [Act.put, List.setIfInBounds_toArray, List.set_cons_succ, List.set_cons_zero]
        repeat (refine wpF_pure rfl rfl ?_; go_big_quiet_step (fail); refine wpQuiet_nil ?_)
        refine wpF_mixcall 184 [182] (f := 21) (fun xs => #[xs 182, .int .i64 v]) (by simp) rfl (by kernel_rfl) (by kernel_rfl) (fun xs => by rfl) (fun xs W => by first | rfl | (simp [fill, Act.put, Act.eval, go_sem]; done)) (fun xs W hW hx => by
          have := rproj_F v (show FMs A (xs 182) W from hx 182 (by simp))
          rwa [HPB.out] at this) ?_
        simp only [Act.put, List.setIfInBounds_toArray, List.set_cons_succ, List.set_cons_zero]
        refine wpF_mixcall 185 [180, 184] (f := 20) (fun xs => #[xs 180, xs 184]) (by simp) rfl (by kernel_rfl) (by kernel_rfl) (fun xs => by rfl) (fun xs W => by first | rfl | (simp [fill, Act.put, Act.eval, go_sem]; done)) (fun xs W hW hx => (rsame_F hsB (show FMs B (xs 180) W from hx 180 (by simp)) (show FMs B (xs 184) W from hx 184 (by simp))).mono fun e w' h => ⟨_, h.1, (by show Value.bool (decide (B = B)) = .bool true; rw [decide_eq_true rfl]), h.2⟩) ?_
        simp only [Act.put, List.setIfInBounds_toArray, List.set_cons_succ, List.set_cons_zero]
        refine wpF_useval 185 12 (.bool true) (by simp) (by rfl) (by kernel_rfl) (by kernel_rfl) (by rfl) (fun x => by rfl) (fun x W hW hx => by rw [show x = .bool true from hx]; first | rfl | (simp [go_sem]; done)) ?_
        simp only [Act.put, List.setIfInBounds_toArray, List.set_cons_succ, List.set_cons_zero]
        repeat (refine wpF_pure rfl rfl ?_; go_big_quiet_step (fail); refine wpQuiet_nil ?_)
        refine wpF_load (ad := ⟨B7, 0, none⟩) (.agg (mC B P7 C7)) rfl (by rfl) (by rfl) (by rfl) L21 ?_
        simp only [Act.put, List.setIfInBounds_toArray, List.set_cons_succ, List.set_cons_zero]
        refine wpF_call (f := 14) (args := #[.pointer (some ⟨sb, 0, none⟩), .agg (mC B P7 C7)]) (.bool true) rfl rfl (fun x => by first | rfl | (simp [go_sem]; done)) KF8 ?_
        simp only [Act.put, List.setIfInBounds_toArray, List.set_cons_succ, List.set_cons_zero]
        repeat (refine wpF_pure rfl rfl ?_; go_big_quiet_step (fail); refine wpQuiet_nil ?_)
        intro xs V9 hV9 _
        simp only [fill, Act.put, List.setIfInBounds_toArray, List.set_cons_succ, List.set_cons_zero]
        have hd9 := (hV9.block _ (by have := HB28.out.size; omega)).trans ((HB28.out.block _ hDl2).trans HD2.out)
        have HF := Lib.hid (HB3.out.trans ((HB38'.out.trans (hV9.mono HB38'.out.size)).mono HB3.out.size))
        clear L2 L21 F2 F21 KK1 KF8 hV9
        gi_wp2
        try simp only [Exit.noGoto]
        refine ⟨by simp, .inl ⟨_, _, rfl, run_takeDeferred hd9, ?_⟩⟩
        refine ⟨.bool true, ?_, rfl, HF.out.trans (below_put _ _ (by omega))⟩
        simp [results, Tryz.f3, go_sem]
    case stop =>
      rintro D cd V hD h hK
      exact h.elim
  · have KL := Lib.hid (slost_no A P C v wE HSA.out (FM.out wE HB3E.out) hE)
    unfold mV at KL
    refine ⟨trivial, (callsIn_wide.2 KL.out).mono ?_⟩
    rintro e wF ⟨rfl, hbEF⟩
    have bI := (hbEF.block _ bIE.lt).trans bIE
    have bO := (hbEF.block _ bOE.lt).trans bOE
    have b9 := (hbEF.block _ b9E.lt).trans b9E
    have HI := Lib.hid (show Fo 3 4 (B9 + 1) (B9 + 1 + 1) wF 0 wF from ⟨bI, bO, Off.refl _ _⟩)
    have H9 := Lib.hid b9
    have HB3F := Lib.hid (HB3E.out.trans (hbEF.mono HB3E.out.size))
    have HB4F := Lib.hid (HB4E.out.trans (hbEF.mono HB4E.out.size))
    have hsF := hbEF.size
    rw [hsE] at hsF hbEF
    have kn := lost_not_nil1
    obtain ⟨LL, hLL⟩ : ∃ LL : List Fd, LL = [] := ⟨_, rfl⟩
    have HLN : Hid (LL.length = n) := Lib.hid (by
      rw [← HN.out, ← HNS.out, hLL]
      unfold mlost
      rw [if_pos (.inl hE)]
      rfl)
    have HLL := Lib.hid hLL
    clear bI bO b9 KL hLL lE HWE b9E bIE bOE
    gi_wp2_with fail
    refine range_stops rfl (by omega) (gf := 30) (lb := #[]) rfl trivial (enters_of Tryz.func30 (by kernel_rfl) rfl)
      (fun f : Fd => #[.string f.nm]) (fun _ => rfl)
      (fun j f V => LL[j]? = some f ∧ Fo 3 4 (B9 + 1) (B9 + 1 + 1) wF j V)
      (fun j V => Fo 3 4 (B9 + 1) (B9 + 1 + 1) wF j V) (fun _ _ => False) (KeV wF.heap.size) LL.length
      (fun j f V l o o' h hl ho hc' => ⟨h.1, h.2.putObj hl ho hc'⟩)
      (fun j V l o o' h hl ho hc' => h.putObj hl ho hc')
      (fun _ _ _ _ _ h => h.elim)
      (fun _ _ _ h k => h.trans k) (fun V l o o' hl ho hc' => KeV.putObj ho hc')
      (fun o => HI.out.later (((Below.refl wF.heap.size wF).alloc (Nat.le_refl _) _).alloc (by simp) _)) ?a12 ?assign2 ?body2 ?iter2 ?done2 ?stop2
    case assign2 =>
      intro l' x V K hK
      gi_wp2
      exact hK
    case body2 =>
      rintro l' j f V hl' ⟨hf, hFo⟩ hj
      rw [HLL.out] at hf
      simp at hf
    case iter2 =>
      intro Bk Xq l V hBk hBlt hX hl hD hB hY
      refine (slost_none 8 (.func (.yield l) #[] #[]) V (fun W' => (Fo 3 4 (B9 + 1) (B9 + 1 + 1) wF LL.length W' ∧ Bk W') ∨ Xq W') (.inl ⟨?_, hB⟩))
      rw [HLL.out]
      exact hD
    case done2 =>
      rintro D V hD hFo hK
      rw [HLN.out] at hFo
      have d0 := hFo.ok.cell
      have d2 := hFo.num.cell
      have d4 := (show Boxed V B9 40 (.slice A9 n c9) from (hFo.off.block _ (by omega) (by omega)).trans H9.out).cell
      have HB3V := Lib.hid (HB3F.out.trans (hFo.off.below (B := w3.heap.size) (fun k hk => by omega) HB3F.out.size))
      have HB4V := Lib.hid (HB4F.out.trans (hFo.off.below (B := w4.heap.size) (fun k hk => by omega) HB4F.out.size))
      have HDV := Lib.hid hK
      have hDlt := (Array.getElem?_eq_some_iff.1 hK).1
      clear hFo hK HI H9
      have hbn : benc A v = ([], mck A) := by unfold benc; rw [if_neg (by omega), if_pos hE]
      obtain ⟨E, hEE⟩ : ∃ E : Int, mck A = E := ⟨_, rfl⟩
      obtain ⟨L, hL⟩ : ∃ L : List Int, [] = L := ⟨_, rfl⟩
      rw [hEE, hL] at hbn
      obtain ⟨q, hq⟩ : ∃ q, L.length = q := ⟨_, rfl⟩
      have hq192 : q ≤ 192 := by rw [← hq, ← hL]; simp
      have hE0 : ¬ E = 0 := by omega
      have eE1 : (E != 0) = true := by simpa using hE0
      have eE2 : (E == 0) = false := by simpa using hE0
      have HBN := Lib.hid hbn
      have HLQ := Lib.hid hq
      clear hbn hEE hL hq
      have hf : (v != 1) = false ∨ ((v != 1) = true ∧ (v != 2) = false) := by
        rcases hv with rfl | rfl
        · exact .inl rfl
        · exact .inr ⟨rfl, rfl⟩
      have hsV := HB3V.out.size
      have LV : ∀ W, Below V.heap.size V W → (Instr.loadAt 26 (.pointer (some ⟨w.heap.size, 0, none⟩))).run Tryz.prog W = .ok (.agg (mC A P C)) W := fun W hW => LM.out W (HB3V.out.trans (hW.mono hsV))
      have SV : ∀ W, Below V.heap.size V W → SAt W sb v := fun W hW => HSA4.out.later (HB4V.out.trans (hW.mono HB4V.out.size))
      have FV : ∀ W, Below V.heap.size V W → MAt W W.heap.size A P C := fun W hW => FM.out W (HB3V.out.trans (hW.mono hsV))
      have KV1 : ∀ W, Below V.heap.size V W → Calls Tryz.prog 13 #[.pointer (some ⟨sb, 0, none⟩)] W fun e w' => e = .returned (.int .i64 v) ∧ Below W.heap.size W w' := fun W hW => (sversion_any v sb W (SV W hW)).mono fun e w' h => ⟨h.1, by rw [← h.2]; exact Below.refl _ _⟩
      obtain ⟨Df, hD1⟩ : ∃ Df, mfits A v = Df := ⟨_, rfl⟩
      have KV2 : ∀ W, Below V.heap.size V W → Calls Tryz.prog 14 #[.pointer (some ⟨sb, 0, none⟩), .agg (mC A P C)] W fun e w' => e = .returned (.bool Df) ∧ Below W.heap.size W w' := fun W hW => by
        have := sfits_any A P C sb v W HSA.out (FV W hW) (SV W hW)
        rwa [hD1] at this
      have KV3 : ∀ x W, Below V.heap.size V W → FMs A x W → Calls Tryz.prog 15 #[x, .int .i64 v] W fun e w' => e = .returned (.bool Df) ∧ Below W.heap.size W w' := fun x W _ hx => by
        obtain ⟨P2, C2, rfl, hm⟩ := hx
        have := rfits_any A P2 C2 v W HSA.out hm
        rwa [hD1] at this
      clear hD1
      rcases hf with f1 | ⟨f1, f2⟩
      all_goals
        gi_wp2_with fail
        refine wpIn_wide.2 ?_
        refine wp_region_F 192 [117] (fun _ x W => FMs A x W) (fun W => Below V.heap.size V W) (by kernel_rfl) (by kernel_rfl) (by rfl) (by simp) (fun W W' h hb => h.trans (hb.mono h.size)) (fun s x W W' h hb => h.later hb) (Below.refl _ _).drew ?_
        repeat (refine wpF_pure rfl rfl ?_; go_big_quiet_step (fail); refine wpQuiet_nil ?_)
        refine wpF_call (f := 13) (args := #[.pointer (some ⟨sb, 0, none⟩)]) (.int .i64 v) rfl rfl (fun x => by first | rfl | (simp [go_sem]; done)) KV1 ?_
        simp only [Act.put, List.setIfInBounds_toArray, List.set_cons_succ, List.set_cons_zero]
        repeat (refine wpF_pure rfl rfl ?_; go_big_quiet_step (fail); refine wpQuiet_nil ?_)
        refine wpF_load (ad := ⟨w.heap.size, 0, none⟩) (.agg (mC A P C)) rfl (by rfl) (by rfl) (by rfl) LV ?_
        simp only [Act.put, List.setIfInBounds_toArray, List.set_cons_succ, List.set_cons_zero]
        refine wpF_call (f := 14) (args := #[.pointer (some ⟨sb, 0, none⟩), .agg (mC A P C)]) (.bool Df) rfl rfl (fun x => by first | rfl | (simp [go_sem]; done)) KV2 ?_
        simp only [Act.put, List.setIfInBounds_toArray, List.set_cons_succ, List.set_cons_zero]
        refine wpF_load (ad := ⟨w.heap.size, 0, none⟩) (.agg (mC A P C)) rfl (by rfl) (by rfl) (by rfl) LV ?_
        simp only [Act.put, List.setIfInBounds_toArray, List.set_cons_succ, List.set_cons_zero]
        refine wpF_callsrc 117 (f := 9) (args := #[.agg (mC A P C)]) (by simp) rfl rfl rfl (fun x => by first | rfl | (simp [go_sem]; done)) (fun W hW => of_F HSA.out ⟨P, C, rfl, FV W hW⟩) ?_
        simp only [Act.put, List.setIfInBounds_toArray, List.set_cons_succ, List.set_cons_zero]
        repeat (refine wpF_pure rfl rfl ?_; go_big_quiet_step (fail); refine wpQuiet_nil ?_)
        refine wpF_use 117 17 (f := 15) (fun x => #[x, .int .i64 v]) (.bool Df) (by simp) rfl (by kernel_rfl) (by kernel_rfl) (by kernel_rfl) (fun x => by rfl) (fun x W => by first | rfl | (simp [go_sem]; done)) (fun x W hW hx => KV3 x W hW hx) ?_
        simp only [Act.put, List.setIfInBounds_toArray, List.set_cons_succ, List.set_cons_zero]
        repeat (refine wpF_pure rfl rfl ?_; go_big_quiet_step (fail); refine wpQuiet_nil ?_)
        intro xs V2 hV2 _
        simp only [fill, Act.put, List.setIfInBounds_toArray, List.set_cons_succ, List.set_cons_zero]
        generalize xs 117 = x117
        have HB32 := Lib.hid (HB3V.out.trans (hV2.mono hsV))
        have HSB2 := Lib.hid (SV V2 hV2)
        have HD2 := Lib.hid ((hV2.block _ hDlt).trans HDV.out)
        have l2 := Lib.hid (LM.out V2 HB32.out)
        have hDl2 := (Array.getElem?_eq_some_iff.1 HD2.out).1
        have KP2 : Hid (Calls Tryz.prog 16 #[.pointer (some ⟨sb, 0, none⟩), .agg (mC A P C)] V2 fun e w' => ∃ x, e = .returned (.tuple #[.int .i64 0, x, .int .i64 E]) ∧ Made V2 w' L x) := Lib.hid ((spack_any A P C sb v V2 HSA.out (FM.out V2 HB32.out) HSB2.out).mono fun e w' h => h.wrong HBN.out hE0)
        clear hV2 LV SV FV KV1 KV2 KV3 d0 d2 d4
        gi_wp2_with (refine wpListIn_load_run rfl 26 (.tmp 2) rfl (some ⟨w.heap.size, 0, none⟩) rfl (.agg (mC A P C)) l2.out ?_)
        refine ⟨trivial, (callsIn_wide.2 KP2.out).mono ?_⟩
        rintro e V3 ⟨x3, rfl, hm3⟩
        obtain ⟨A3, c3, rfl, hc3, hn3⟩ := hm3.slice
        rw [HLQ.out] at hc3 ⊢
        have HB33 := Lib.hid (HB32.out.trans (hm3.2.mono HB32.out.size))
        have HB23 := Lib.hid hm3.2
        have HN3 := Lib.hid hn3
        have l3 := Lib.hid (LM.out V3 HB33.out)
        clear hm3 hn3 l2 KP2
        gi_wp2_with (refine wpListIn_load_run rfl 26 (.tmp 2) rfl (some ⟨w.heap.size, 0, none⟩) rfl (.agg (mC A P C)) l3.out ?_)
        refine ⟨trivial, (callsIn_wide.2 (KO.out V3 HB33.out)).mono ?_⟩
        rintro e V4 ⟨_, rfl, ⟨P4, C4, rfl, hm4⟩, hb4⟩
        have KE4 : Hid (Calls Tryz.prog 17 #[mV A P4 C4, .int .i64 v] V4 fun e w' => EncR V4 (L, E) e w') := Lib.hid (by
          have := rencode_any A P4 C4 v V4 HSA.out hm4
          rwa [HBN.out] at this)
        have HB34' := Lib.hid (HB33.out.trans (hb4.mono HB33.out.size))
        have HB24 := Lib.hid (HB23.out.trans (hb4.mono HB23.out.size))
        have HN34 := Lib.hid ((HN3.out.below hb4).mono hb4.size)
        clear hm4 hb4 l3 HN3 HB33 HB23
        gi_wp2_with fail
        refine ⟨trivial, (callsIn_wide.2 KE4.out).mono ?_⟩
        rintro e V5 ⟨x5, rfl, hm5⟩
        obtain ⟨A5, c5, rfl, hc5, hn5⟩ := hm5.slice
        rw [HLQ.out] at hc5 ⊢
        have HB35' := Lib.hid (HB34'.out.trans (hm5.2.mono HB34'.out.size))
        have HB25 := Lib.hid (HB24.out.trans (hm5.2.mono HB24.out.size))
        have HN35 := Lib.hid ((HN34.out.below hm5.2).mono hm5.2.size)
        have KS5 : Hid (Calls Tryz.prog 18 #[.slice A3 q c3, .slice A5 q c5] V5 fun e w' => e = .returned (.bool true) ∧ Below V5.heap.size V5 w') := Lib.hid ((same_len V5.heap.size A3 A5 q q c3 c5 L L V5 rfl HLQ.out HLQ.out (by omega) HN35.out hn5).mono fun e w' h => by
          obtain ⟨h1, j, h2⟩ := h
          exact ⟨h1, by rw [h2]; exact below_drewN (Below.refl _ _) j⟩)
        clear hm5 hn5 KE4 HN34 HB34' HB24
        gi_wp2_with fail
        refine ⟨trivial, (callsIn_wide.2 KS5.out).mono ?_⟩
        rintro e V6 ⟨rfl, hb6⟩
        have HB36' := Lib.hid (HB35'.out.trans (hb6.mono HB35'.out.size))
        have HB26 := Lib.hid (HB25.out.trans (hb6.mono HB25.out.size))
        have HN36 := Lib.hid ((HN35.out.below hb6).mono hb6.size)
        have k6 := K0.out V6 HB36'.out
        clear hb6 KS5 HN35 HB35' HB25
        gi_wp2_with fail
        refine ⟨trivial, (callsIn_wide.2 (lknown_any V6)).mono ?_⟩
        rintro e V7 ⟨rfl, hb7⟩
        have hd7 := (hb7.block _ (by have := HB26.out.size; omega)).trans ((HB26.out.block _ hDl2).trans HD2.out)
        have HF := Lib.hid (HB3.out.trans ((HB36'.out.trans (hb7.mono HB36'.out.size)).mono HB3.out.size))
        clear hb7 k6 HB36' HB26 HN36
        gi_wp2
        try simp only [Exit.noGoto]
        refine ⟨by simp, .inl ⟨_, _, rfl, run_takeDeferred hd7, ?_⟩⟩
        refine ⟨.bool true, ?_, rfl, HF.out.trans (below_put _ _ (by omega))⟩
        simp [results, Tryz.f3, go_sem]
    case stop2 =>
      rintro D cd V hD h hK
      exact h.elim
end Go.Proofs.YtlbfibnfmijahaaGreat

namespace Go.Proofs.YtlbfibnfmijahaaGreat
open Go.RowKit Go.Shelf
set_option maxRecDepth 100000
attribute [local go_sem] Oper.semAt_some

set_option maxHeartbeats 64000000 in
theorem spacks_no (X : Mg) (P Q : Value) (v : Int) (hv : ¬ (v = 1 ∨ v = 2)) (w : World) (h1 : MAt w w.heap.size X P Q) : Calls Tryz.prog 3 #[mV X P Q, .int .i64 v] w fun e w' => e = .returned (.bool true) ∧ Below w.heap.size w w' := by
  obtain ⟨w1, hw1⟩ : ∃ w1, w.alloc (.cells (mC X P Q) 26) = w1 := ⟨_, rfl⟩
  have hb1 : Below w.heap.size w w1 := by rw [← hw1]; exact (Below.refl _ w).alloc (Nat.le_refl _) _
  have q0 : w1.heap[w.heap.size]? = some (.cells (mC X P Q) 26 (0, 0)) := by rw [← hw1]; exact World.alloc_heap_new _ _
  have KX := Lib.hid (cut_F hb1.size (h1.below hb1))
  have HW1 := Lib.hid hw1
  have HB1 := Lib.hid hb1
  have HQ := Lib.hid q0
  clear hw1 hb1 q0 h1
  unfold mV
  refine (callsIn_wide (n := 9)).1 ?_
  refine callsIn_of_wp_marks Tryz.func3 rfl trivial ?_ rfl
  simp only [Tryz.ntmps3, List.size_toArray, List.length_cons, List.length_nil, Nat.reduceAdd, Nat.reduceSub, Array.replicate_succ, Array.replicate_zero, List.push_toArray, List.append_toArray, List.nil_append, List.cons_append]
  gi_wp2_with (rw [HW1.out]; refine wpListIn_load_run rfl 26 (.tmp 2) rfl (some ⟨w.heap.size, 0, none⟩) rfl (.agg (mC X P Q)) (mg_read HQ.out) ?_)
  refine ⟨trivial, (callsIn_wide.2 KX.out).mono ?_⟩
  rintro e w2 ⟨_, rfl, ⟨A, P, C, hsA, rfl, hA⟩, hb2⟩
  have r0 := (hb2.block _ (Array.getElem?_eq_some_iff.1 HQ.out).1).trans HQ.out
  obtain ⟨w3, hw3⟩ : ∃ w3, w2.setRow w.heap.size (mC A P C) = w3 := ⟨_, rfl⟩
  have hst := mg_store w2 w.heap.size _ (mC A P C) r0 rfl rfl (mg_oneV hA)
  rw [hw3] at hst
  have HST := Lib.hid hst
  have q3 : w3.heap[w.heap.size]? = some (.cells (mC A P C) 26 (0, 0)) := by rw [← hw3]; exact setRow_heap w2 _ _ _ _ _ r0
  have hs1 := HB1.out.size
  have hs2 := hb2.size
  have hoff := Off.setRow (S := fun k => w.heap.size ≤ k) (Off.refl _ w2) (Nat.le_refl w.heap.size) (mC A P C)
  have hb23 : Below w.heap.size w2 w3 := by rw [← hw3]; exact hoff.below (B := w.heap.size) (fun k hk => by omega) (by omega)
  have HB3 := Lib.hid (HB1.out.trans ((hb2.mono hs1).trans hb23))
  have hmA := hA.below hb23
  have hlt := (Array.getElem?_eq_some_iff.1 q3).1
  have hs3 := HB3.out.size
  have LM : Hid (∀ W, Below w3.heap.size w3 W → (Instr.loadAt 26 (.pointer (some ⟨w.heap.size, 0, none⟩))).run Tryz.prog W = .ok (.agg (mC A P C)) W) := Lib.hid fun W hW => mg_read ((hW.block _ hlt).trans q3)
  have K0 : Hid (∀ W, Below w3.heap.size w3 W → W.cell? ⟨w.heap.size, 0, none⟩ = some (.int .i64 A.k)) := Lib.hid fun W hW => row_cell ((hW.block _ hlt).trans q3) 0 _ rfl
  have FM : Hid (∀ W, Below w3.heap.size w3 W → MAt W W.heap.size A P C) := Lib.hid fun W hW => (hmA.below (hW.mono hs3)).mono (Nat.le_trans hs3 hW.size)
  have HSA := Lib.hid hsA
  obtain ⟨⟨bs, be⟩, hbe⟩ : ∃ r, mbest A = r := ⟨_, rfl⟩
  have KB : Hid (∀ W, Below w3.heap.size w3 W → Calls Tryz.prog 7 #[.agg (mC A P C)] W fun e w' => e = .returned (.tuple #[.int .i64 bs, .int .i64 be]) ∧ Below W.heap.size W w') := Lib.hid fun W hW => by
    have := sbest_any A P C W HSA.out (FM.out W hW)
    rwa [hbe] at this
  have KRB : Hid (∀ W x, FMs A x W → Calls Tryz.prog 8 #[x] W fun e w' => e = .returned (.tuple #[.int .i64 bs, .int .i64 be]) ∧ Below W.heap.size W w') := Lib.hid fun W x hx => by
    obtain ⟨P2, C2, rfl, hm⟩ := hx
    have := rbest_any A P2 C2 W HSA.out hm
    rwa [hbe] at this
  have KO : Hid (∀ W, Below w3.heap.size w3 W → Calls Tryz.prog 9 #[.agg (mC A P C)] W fun e w' => ∃ u, e = .returned u ∧ FMs A u w' ∧ Below W.heap.size W w') := Lib.hid fun W hW => of_F HSA.out ⟨P, C, rfl, FM.out W hW⟩
  clear hw3 hst hb23 hoff q3 r0 hA hmA hb2 hs1 hs2 KX HQ HW1 HB1 hsA hbe
  unfold mV
  gi_wp2_with (refine wpListIn_store_run rfl 26 (.tmp 2) (.tmp 24) rfl (some ⟨w.heap.size, 0, none⟩) rfl (.agg (mC A P C)) rfl HST.out ?_)
  refine ⟨trivial, (callsIn_wide.2 (snew_no v hv w3)).mono ?_⟩
  rintro e w4 ⟨rfl, hb4⟩
  have HB34 := Lib.hid hb4
  clear hb4 HST
  have l4 := Lib.hid (LM.out w4 HB34.out)
  gi_wp2_with (refine wpListIn_load_run rfl 26 (.tmp 2) rfl (some ⟨w.heap.size, 0, none⟩) rfl (.agg (mC A P C)) l4.out ?_)
  refine ⟨trivial, (callsIn_wide.2 (KB.out w4 HB34.out)).mono ?_⟩
  rintro e w5 ⟨rfl, hb5⟩
  have HB35 := Lib.hid (HB34.out.trans (hb5.mono HB34.out.size))
  have HB45 := Lib.hid hb5
  have l5 := Lib.hid (LM.out w5 HB35.out)
  clear hb5 l4 KB
  gi_wp2_with (refine wpListIn_load_run rfl 26 (.tmp 2) rfl (some ⟨w.heap.size, 0, none⟩) rfl (.agg (mC A P C)) l5.out ?_)
  refine ⟨trivial, (callsIn_wide.2 (KO.out w5 HB35.out)).mono ?_⟩
  rintro e w6 ⟨u6, rfl, hu6, hb6⟩
  have KR6 := Lib.hid (KRB.out w6 u6 hu6)
  have HB36 := Lib.hid (HB35.out.trans (hb6.mono HB35.out.size))
  have HB46 := Lib.hid (HB45.out.trans (hb6.mono HB45.out.size))
  clear hu6 hb6 l5 KRB HB45 HB35
  gi_wp2_with fail
  refine ⟨trivial, (callsIn_wide.2 KR6.out).mono ?_⟩
  rintro e w7 ⟨rfl, hb7⟩
  have HB37 := Lib.hid (HB36.out.trans (hb7.mono HB36.out.size))
  have HB47 := Lib.hid (HB46.out.trans (hb7.mono HB46.out.size))
  have l7 := Lib.hid (LM.out w7 HB37.out)
  clear hb7 KR6 HB36 HB46
  gi_wp2_with (refine wpListIn_load_run rfl 26 (.tmp 2) rfl (some ⟨w.heap.size, 0, none⟩) rfl (.agg (mC A P C)) l7.out ?_)
  refine ⟨trivial, (callsIn_wide.2 (KO.out w7 HB37.out)).mono ?_⟩
  rintro e w8 ⟨_, rfl, ⟨P8, C8, rfl, hm8⟩, hb8⟩
  have KL8 := Lib.hid (rlost_any A P8 C8 v w8 HSA.out hm8)
  have HB38 := Lib.hid (HB37.out.trans (hb8.mono HB37.out.size))
  have HB48 := Lib.hid (HB47.out.trans (hb8.mono HB47.out.size))
  clear hm8 hb8 l7 HB37 HB47
  obtain ⟨NS, hNS⟩ : ∃ NS, (mlost A v).map (·.nm) = NS := ⟨_, rfl⟩
  obtain ⟨n, hn⟩ : ∃ n, NS.length = n := ⟨_, rfl⟩
  have hn6 : (n : Int) ≤ 6 := by
    have := mlost_few A v
    rw [← hn, ← hNS, List.length_map]
    omega
  rw [hNS] at KL8
  gi_wp2_with fail
  refine ⟨trivial, (callsIn_wide.2 KL8.out).mono ?_⟩
  rintro e w9 ⟨_, rfl, hx9, hb9⟩
  obtain ⟨A9, c9, rfl, hc9, hn9⟩ := NmAt.of hx9 rfl
  rw [hn] at hc9 ⊢
  have HB39 := Lib.hid (HB38.out.trans (hb9.mono HB38.out.size))
  have HB49 := Lib.hid (HB48.out.trans (hb9.mono HB48.out.size))
  obtain ⟨B9, hB9⟩ : ∃ B9, w9.heap.size = B9 := ⟨_, rfl⟩
  obtain ⟨wE, hwE⟩ : ∃ wE, ((w9.alloc (.cells #[.slice A9 n c9] 40)).alloc (.cells #[.int .i64 0] 3)).alloc (.cells #[.bool true] 4) = wE := ⟨_, rfl⟩
  have hb9E : Below B9 w9 wE := by rw [← hwE, ← hB9]; exact (((Below.refl _ w9).alloc (Nat.le_refl _) _).alloc (by simp) _).alloc (by simp only [World.size_alloc]; omega) _
  have b9E : Boxed wE B9 40 (.slice A9 n c9) := by rw [← hwE, ← hB9]; exact (Below.heap_alloc _ _ _ (by simp; omega)).trans ((Below.heap_alloc _ _ _ (by simp)).trans (World.alloc_heap_new _ _))
  have bIE : Boxed wE (B9 + 1) 3 (.int .i64 0) := by
    have := World.alloc_heap_new (w9.alloc (.cells #[.slice A9 n c9] 40)) (.cells #[.int .i64 0] 3)
    rw [World.size_alloc] at this
    rw [← hwE, ← hB9]; exact (Below.heap_alloc _ _ _ (by simp)).trans this
  have bOE : Boxed wE (B9 + 1 + 1) 4 (.bool true) := by
    have := World.alloc_heap_new ((w9.alloc (.cells #[.slice A9 n c9] 40)).alloc (.cells #[.int .i64 0] 3)) (.cells #[.bool true] 4)
    rw [World.size_alloc, World.size_alloc] at this
    rw [← hwE, ← hB9]; exact this
  have hsE : wE.heap.size = B9 + 3 := by rw [← hwE, ← hB9]; simp
  have h39s := HB39.out.size
  have h49s := HB49.out.size
  have h34s := HB34.out.size
  rw [hB9] at h39s h49s hn9
  have HN9 := Lib.hid (hn9.below hb9E)
  have HWE := Lib.hid hwE
  have HB3E := Lib.hid (HB39.out.trans (hb9E.mono (by omega)))
  have HB4E := Lib.hid (HB49.out.trans (hb9E.mono (by omega)))
  have HNS := Lib.hid hNS
  have HN := Lib.hid hn
  have lE := Lib.hid (LM.out wE HB3E.out)
  have hcn : (n : Int) ≤ (c9 : Int) := by omega
  clear hwE hb9E hx9 hn9 hb9 hNS hn HB38 HB48 HB39 HB49 KL8
  gi_wp2_with (rw [HWE.out]; refine wpListIn_load_run rfl 26 (.tmp 2) rfl (some ⟨w.heap.size, 0, none⟩) rfl (.agg (mC A P C)) lE.out ?_)
  by_cases hE : mck A = 0
  · have KL := Lib.hid (slost_yes A P C v wE HSA.out (FM.out wE HB3E.out) hE)
    unfold mV at KL
    refine ⟨trivial, (callsIn_wide.2 KL.out).mono ?_⟩
    rintro e wF ⟨b, d, P1, C1, P2, C2, rfl, hb, hd, mF, nF, hbEF⟩
    rw [hsE] at hb hd
    have bI := (hbEF.block _ bIE.lt).trans bIE
    have bO := (hbEF.block _ bOE.lt).trans bOE
    have b9 := (hbEF.block _ b9E.lt).trans b9E
    have HI := Lib.hid (show Fo 3 4 (B9 + 1) (B9 + 1 + 1) wF 0 wF from ⟨bI, bO, Off.refl _ _⟩)
    have H9 := Lib.hid b9
    have HB3F := Lib.hid (HB3E.out.trans (hbEF.mono HB3E.out.size))
    have HB4F := Lib.hid (HB4E.out.trans (hbEF.mono HB4E.out.size))
    have hsF := hbEF.size
    rw [hsE] at hsF hbEF
    have HMF := Lib.hid mF
    have HNF := Lib.hid nF
    have hbl := (Array.getElem?_eq_some_iff.1 mF).1
    have hdl := (Array.getElem?_eq_some_iff.1 nF).1
    have kn := lost_not_nil2
    obtain ⟨LL, hLL⟩ : ∃ LL, (FD A.k).filter (lostP A v) = LL := ⟨_, rfl⟩
    have hLN : LL.map (·.nm) = NS := by rw [← hLL, lostP_all hE, HNS.out]
    have HLL := Lib.hid hLL
    have HLS := Lib.hid (show ∀ (j : Nat) f, LL[j]? = some f → NS[j]? = some f.nm from fun j f h => by rw [← hLN, List.getElem?_map, h]; rfl)
    have HLN : Hid (LL.length = n) := Lib.hid (by rw [← HN.out, ← hLN, List.length_map])
    clear bI bO b9 mF nF KL hLL hLN lE HWE b9E bIE bOE
    gi_wp2_with fail
    refine range_stops rfl (by omega) (gf := 33) (lb := #[.pointer (some ⟨b, 0, none⟩), .pointer (some ⟨d, 0, none⟩)]) rfl trivial (enters_of Tryz.func33 (by kernel_rfl) rfl)
      (fun f : Fd => #[.string f.nm]) (fun _ => rfl)
      (fun j f V => LL[j]? = some f ∧ Fo 3 4 (B9 + 1) (B9 + 1 + 1) wF j V)
      (fun j V => Fo 3 4 (B9 + 1) (B9 + 1 + 1) wF j V) (fun _ _ => False) (KeV wF.heap.size) LL.length
      (fun j f V l o o' h hl ho hc' => ⟨h.1, h.2.putObj hl ho hc'⟩)
      (fun j V l o o' h hl ho hc' => h.putObj hl ho hc')
      (fun _ _ _ _ _ h => h.elim)
      (fun _ _ _ h k => h.trans k) (fun V l o o' hl ho hc' => KeV.putObj ho hc')
      (fun o => HI.out.later (((Below.refl wF.heap.size wF).alloc (Nat.le_refl _) _).alloc (by simp) _)) ?a1 ?assign ?body ?iter ?done ?stop
    case assign =>
      intro l' x V K hK
      gi_wp2
      exact hK
    case body =>
      rintro l' j f V hl' ⟨hf, hFo⟩ hj
      rw [HLN.out] at hj
      obtain ⟨g9, e9, hg9, hs9⟩ := HN9.out j f.nm (HLS.out j f hf)
      subst e9
      have hbE : Below B9 wE V := (hbEF.mono (by omega)).trans (hFo.off.below (fun k hk => by omega) (by have := hbEF.size; omega))
      have d0 := hFo.ok.cell
      have d1 := hFo.ok.frozen
      have d2 := hFo.num.cell
      have d3 := hFo.num.frozen
      have d4 := (show Boxed V B9 40 (.slice (some ⟨g9, 0, none⟩) n c9) from (hFo.off.block _ (by omega) (by omega)).trans H9.out).cell
      have d5 := (hbE.cell (p := ⟨g9, j, none⟩) hg9).trans hs9
      have hjn : (j : Int) < (n : Int) := by omega
      have hF2 := (hFo.ok_set (by omega)).num_set (by omega)
      have hoV : Off (fun q => q = B9 + 1 ∨ q = B9 + 1 + 1) V ((V.setCell ⟨B9 + 1 + 1, 0, none⟩ (.bool true)).setCell ⟨B9 + 1, 0, none⟩ (.int .i64 ((j : Int) + 1))) := Off.setCell (S := fun q => q = B9 + 1 ∨ q = B9 + 1 + 1) (p := ⟨B9 + 1, 0, none⟩) (Off.setCell (S := fun q => q = B9 + 1 ∨ q = B9 + 1 + 1) (p := ⟨B9 + 1 + 1, 0, none⟩) (Off.refl _ _) (.inr rfl) _) (.inl rfl) _
      have HF := Lib.hid (show KeepsFrom wF.heap.size V _ ∧ Fo 3 4 (B9 + 1) (B9 + 1 + 1) wF (j + 1) _ ∧ KeV wF.heap.size V _ from ⟨KeepsFrom.of_offV hoV (fun k hk => by omega), hF2, KeV.off hoV (fun k hk => by omega)⟩)
      obtain ⟨fn, hfn⟩ : ∃ fn, f.nm = fn := ⟨_, rfl⟩
      rw [hfn] at d5 ⊢
      clear hFo hbE hF2 hoV hf hs9 hfn
      gi_wp2
      exact HF.out
    case iter =>
      intro Bk X l V hBk hBlt hX hl hD hB hY
      exact slost_in 8 (by omega) 7 l b d wF.heap.size A P1 C1 P2 C2 v LL HLL.out (fun j V => Fo 3 4 (B9 + 1) (B9 + 1 + 1) wF j V) Bk X (KeV wF.heap.size) hl
        (fun j U V h hb => ⟨(hb.block _ (by omega)).trans h.num, (hb.block _ (by omega)).trans h.ok, off_below h.off hb⟩)
        (fun j V h => ⟨(h.off.block _ hbl (by omega)).trans HMF.out, (h.off.block _ hdl (by omega)).trans HNF.out⟩)
        hBk hBlt hX (fun V V' k cs t h hk hc => h.same k cs t (by omega) hc)
        (fun j f V h hf hb => hY j f V ⟨hf, h⟩ hb (List.getElem?_eq_some_iff.1 hf).1)
        V hD hB
    case done =>
      rintro D V hD hFo hK
      rw [HLN.out] at hFo
      have d0 := hFo.ok.cell
      have d2 := hFo.num.cell
      have d4 := (show Boxed V B9 40 (.slice A9 n c9) from (hFo.off.block _ (by omega) (by omega)).trans H9.out).cell
      have HB3V := Lib.hid (HB3F.out.trans (hFo.off.below (B := w3.heap.size) (fun k hk => by omega) HB3F.out.size))
      have HB4V := Lib.hid (HB4F.out.trans (hFo.off.below (B := w4.heap.size) (fun k hk => by omega) HB4F.out.size))
      have HDV := Lib.hid hK
      have hDlt := (Array.getElem?_eq_some_iff.1 hK).1
      clear hFo hK HI H9
      have f1 : (v != 1) = true := by rw [bne_iff_ne]; omega
      have f2 : (v != 2) = true := by rw [bne_iff_ne]; omega
      gi_wp2_with fail
      refine ⟨trivial, (callsIn_wide.2 (lknown_any V)).mono ?_⟩
      rintro e V2 ⟨rfl, hb2⟩
      have hd2 := (hb2.block _ hDlt).trans HDV.out
      have HF := Lib.hid (HB3.out.trans ((HB3V.out.trans (hb2.mono HB3V.out.size)).mono HB3.out.size))
      clear hb2
      gi_wp2
      try simp only [Exit.noGoto]
      refine ⟨by simp, .inl ⟨_, _, rfl, run_takeDeferred hd2, ?_⟩⟩
      refine ⟨.bool true, ?_, rfl, HF.out.trans (below_put _ _ (by omega))⟩
      simp [results, Tryz.f3, go_sem]
    case stop =>
      rintro D cd V hD h hK
      exact h.elim
  · have KL := Lib.hid (slost_no A P C v wE HSA.out (FM.out wE HB3E.out) hE)
    unfold mV at KL
    refine ⟨trivial, (callsIn_wide.2 KL.out).mono ?_⟩
    rintro e wF ⟨rfl, hbEF⟩
    have bI := (hbEF.block _ bIE.lt).trans bIE
    have bO := (hbEF.block _ bOE.lt).trans bOE
    have b9 := (hbEF.block _ b9E.lt).trans b9E
    have HI := Lib.hid (show Fo 3 4 (B9 + 1) (B9 + 1 + 1) wF 0 wF from ⟨bI, bO, Off.refl _ _⟩)
    have H9 := Lib.hid b9
    have HB3F := Lib.hid (HB3E.out.trans (hbEF.mono HB3E.out.size))
    have HB4F := Lib.hid (HB4E.out.trans (hbEF.mono HB4E.out.size))
    have hsF := hbEF.size
    rw [hsE] at hsF hbEF
    have kn := lost_not_nil1
    obtain ⟨LL, hLL⟩ : ∃ LL : List Fd, LL = [] := ⟨_, rfl⟩
    have HLN : Hid (LL.length = n) := Lib.hid (by
      rw [← HN.out, ← HNS.out, hLL]
      unfold mlost
      rw [if_pos (.inl hE)]
      rfl)
    have HLL := Lib.hid hLL
    clear bI bO b9 KL hLL lE HWE b9E bIE bOE
    gi_wp2_with fail
    refine range_stops rfl (by omega) (gf := 30) (lb := #[]) rfl trivial (enters_of Tryz.func30 (by kernel_rfl) rfl)
      (fun f : Fd => #[.string f.nm]) (fun _ => rfl)
      (fun j f V => LL[j]? = some f ∧ Fo 3 4 (B9 + 1) (B9 + 1 + 1) wF j V)
      (fun j V => Fo 3 4 (B9 + 1) (B9 + 1 + 1) wF j V) (fun _ _ => False) (KeV wF.heap.size) LL.length
      (fun j f V l o o' h hl ho hc' => ⟨h.1, h.2.putObj hl ho hc'⟩)
      (fun j V l o o' h hl ho hc' => h.putObj hl ho hc')
      (fun _ _ _ _ _ h => h.elim)
      (fun _ _ _ h k => h.trans k) (fun V l o o' hl ho hc' => KeV.putObj ho hc')
      (fun o => HI.out.later (((Below.refl wF.heap.size wF).alloc (Nat.le_refl _) _).alloc (by simp) _)) ?a12 ?assign2 ?body2 ?iter2 ?done2 ?stop2
    case assign2 =>
      intro l' x V K hK
      gi_wp2
      exact hK
    case body2 =>
      rintro l' j f V hl' ⟨hf, hFo⟩ hj
      rw [HLL.out] at hf
      simp at hf
    case iter2 =>
      intro Bk Xq l V hBk hBlt hX hl hD hB hY
      refine (slost_none 8 (.func (.yield l) #[] #[]) V (fun W' => (Fo 3 4 (B9 + 1) (B9 + 1 + 1) wF LL.length W' ∧ Bk W') ∨ Xq W') (.inl ⟨?_, hB⟩))
      rw [HLL.out]
      exact hD
    case done2 =>
      rintro D V hD hFo hK
      rw [HLN.out] at hFo
      have d0 := hFo.ok.cell
      have d2 := hFo.num.cell
      have d4 := (show Boxed V B9 40 (.slice A9 n c9) from (hFo.off.block _ (by omega) (by omega)).trans H9.out).cell
      have HB3V := Lib.hid (HB3F.out.trans (hFo.off.below (B := w3.heap.size) (fun k hk => by omega) HB3F.out.size))
      have HB4V := Lib.hid (HB4F.out.trans (hFo.off.below (B := w4.heap.size) (fun k hk => by omega) HB4F.out.size))
      have HDV := Lib.hid hK
      have hDlt := (Array.getElem?_eq_some_iff.1 hK).1
      clear hFo hK HI H9
      have f1 : (v != 1) = true := by rw [bne_iff_ne]; omega
      have f2 : (v != 2) = true := by rw [bne_iff_ne]; omega
      gi_wp2_with fail
      refine ⟨trivial, (callsIn_wide.2 (lknown_any V)).mono ?_⟩
      rintro e V2 ⟨rfl, hb2⟩
      have hd2 := (hb2.block _ hDlt).trans HDV.out
      have HF := Lib.hid (HB3.out.trans ((HB3V.out.trans (hb2.mono HB3V.out.size)).mono HB3.out.size))
      clear hb2
      gi_wp2
      try simp only [Exit.noGoto]
      refine ⟨by simp, .inl ⟨_, _, rfl, run_takeDeferred hd2, ?_⟩⟩
      refine ⟨.bool true, ?_, rfl, HF.out.trans (below_put _ _ (by omega))⟩
      simp [results, Tryz.f3, go_sem]
    case stop2 =>
      rintro D cd V hD h hK
      exact h.elim
end Go.Proofs.YtlbfibnfmijahaaGreat

namespace Go.Proofs.YtlbfibnfmijahaaGreat
open Go.RowKit Go.Shelf
set_option maxRecDepth 100000

theorem spacks_go (X : Mg) (P Q : Value) (v : Int) (w : World) (h1 : MAt w w.heap.size X P Q) : Calls Tryz.prog 3 #[mV X P Q, .int .i64 v] w fun e w' => e = .returned (.bool true) ∧ Below w.heap.size w w' := by
  by_cases hv : v = 1 ∨ v = 2
  · exact spacks_yes X P Q v hv w h1
  · exact spacks_no X P Q v hv w h1
end Go.Proofs.YtlbfibnfmijahaaGreat

namespace Go.Proofs.YtlbfibnfmijahaaGreat.schemaPacks
open Go.ChangeShapes Go.WideShapes Go.ChangeAt Go.RowKit
open Go.ChangeMaps (open_string shut_string)
set_option linter.unusedVariables false

theorem own : ownKnob Tryz.prog.godebug = none := by kernel_rfl
theorem laidOut : laidOutB Tryz.prog = true := by kernel_rfl

set_option maxRecDepth 100000 in
theorem lifted (os : Os) (started : os.Started) (H : Type) (enc : TypeId × Value → H) :
    ReturnsInHanded {} Tryz.checked os 3 .any (Rows.schemaPacksSpec.pre6 enc Tryz.prog Tryz.f3 Rows.schemaPacksRow.domain false) (Rows.schemaPacksSpec.post enc Tryz.prog Tryz.f3 false true false false) := by
  refine returnsInHanded_of_change (C := Tryz.checked) own started (by kernel_rfl) Tryz.func3
    (ChangeSpec.witness6 (enc := enc) (C := Tryz.checked) false ⟨#[], #[.agg #[.int .i64 0, .int .i64 0, .int .i64 0, .int .i64 0, .int .i64 0, .int .i64 0, .int .i64 0, .slice none 0 0, .slice none 0 0, .string ⟨#[]⟩, .string ⟨#[]⟩], .int .i64 0], []⟩ 8 (by kernel_rfl) (by kernel_rfl) (by kernel_rfl) (by kernel_rfl)) ?_
  intro W base args ds gs before hval0 hW hcnd _
  have hval : ∀ (j : Nat) t v, Tryz.f3.params[j]? = some t → args[j]? = some v → Value.okWide Tryz.prog W .any base t v := hval0
  have hW' := hW
  obtain ⟨p, q, hA0, hV, rfl, hfz, hnd⟩ := hW
  have hA : DataW.TrodAll enc Tryz.prog W 0 (fun _ => true) true Tryz.f3.params.toList args.toList ds p := hA0
  rw [Tryz.params3] at hA hval
  obtain ⟨v0, vs0, d0, ds0, p0, q0, hargs, rfl, rfl, h0, r0⟩ := trodAll_cons hA
  obtain ⟨v1, vs1, d1, ds1, p1, q1, rfl, rfl, rfl, h1, r1⟩ := trodAll_cons r0
  obtain ⟨rfl, rfl, rfl⟩ := trodAll_nil r1
  obtain rfl : args = #[v0, v1] := by cases args; simp_all
  obtain ⟨rfl, rfl⟩ := trodVars_none hV
  have k0 := h0
  have lt0 : ∀ x ∈ p0, x.block < W.heap.size := by obtain ⟨m, hm⟩ := k0; exact DataW.trod_lt m _ _ _ hm
  obtain ⟨mM0, mP0, mC0, rfl, y0⟩ := open_msg (hval 0 26 v0 rfl rfl) h0
  obtain ⟨a1, rfl, rfl, rfl, w1⟩ := open_int Tryz.underlying3 (hval 1 3 v1 rfl rfl) h1
  clear hA0 hval0
  refine (spacks_go mM0 mP0 mC0 a1 W y0).mono fun e W' ⟨he, bel⟩ => ?_
  subst he
  exact ⟨_, rfl, _, _, _, [], _, [], hW', trodAll_mk1 (shut_bool Tryz.underlying4 _), (trodAll_cons_mk (Below.trod laidOut (by kernel_rfl) (of_decide_eq_true (by kernel_rfl)) k0 bel lt0) (trodAll_cons_mk (shut_int Tryz.underlying3 w1) trodAll_mk0)), rfl, bel.frame _, fun h => by cases h⟩

theorem over : Rows.schemaPacksRow.holds Tryz.pinned (OpenSpec.ofChange Rows.schemaPacksSpec) :=
  OpenClaim.holds_of_wide 3 Tryz.f3 rfl rfl rfl rfl rfl rfl rfl ⟨rfl, rfl, rfl, rfl, rfl⟩ rfl rfl rfl rfl rfl (by kernel_rfl) Tryz.func3 (by kernel_rfl)
    (of_decide_eq_true (by kernel_rfl)) (by unfold Func.isWrapper; first | (rw [if_pos (by decide +kernel)]; kernel_rfl) | (rw [if_neg (by decide +kernel)]; exact ⟨rfl, rfl⟩))
    (fun os started H enc _ => lifted os started H enc)

theorem proved : Rows.SchemaPacksSaid := over
#print axioms proved
end Go.Proofs.YtlbfibnfmijahaaGreat.schemaPacks
