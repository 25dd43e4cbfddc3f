/-
  The law BodyDecodes answers true of every kind, version and bytes.
-/
import Derived.Test.YtmjbimmbphofjaaRows
import Derived.Below
import Derived.WalkKit
import Derived.ProofKit
import Derived.OpenShut
import Derived.ShutString
import Derived.ChangeOld
import Derived.Test.YtmjbimmbphofjaaMDecDecodesProof6
namespace Go.Proofs.Ytmjbimmbphofjaa
open Go.RowKit Go.Shelf
set_option maxRecDepth 100000
attribute [local go_sem] Oper.semAt_some

set_option maxHeartbeats 16000000 in
theorem rdecode_2 (k : Int) (A : Option Addr) (len cap : Nat) (zs : List Int) (w : World) (hlen : zs.length = len) (hll : len ≤ 1000000) (hcap : len ≤ cap) (hby : Bys zs) (hA : Nums .u8 w w.heap.size A zs) (hk : FD k ≠ []) : Calls Try.prog 20 #[.int .i64 k, .int .i64 2, .slice A len cap] w fun e w' => DecR w (bdec k 2 zs) e w' := by
  obtain ⟨w2, hw2⟩ : ∃ w2, w.alloc (.cells #[.int .i64 0, .int .i64 0, .int .i64 0, .int .i64 0, .int .i64 0, .int .i64 0, .int .i64 0, .slice none 0 0, .slice none 0 0, .string ⟨#[]⟩, .string ⟨#[]⟩] 36) = w2 := ⟨_, rfl⟩
  have hb2 : Below w.heap.size w w2 := by rw [← hw2]; exact (Below.refl _ w).alloc (Nat.le_refl _) _
  have q6 : w2.heap[w.heap.size]? = some (.cells (mC (Mg.zero 0) (.slice none 0 0) (.slice none 0 0)) 36 (0, 0)) := by rw [← hw2]; exact World.alloc_heap_new _ _
  have HW2 := Lib.hid hw2
  have HB2 := Lib.hid hb2
  have HQ6 := Lib.hid q6
  have HZ : Hid (∀ W E, Below w.heap.size w W → DecR w (E, Mg.zero 0) (.returned (.tuple #[.agg (mC (Mg.zero 0) (.slice none 0 0) (.slice none 0 0)), .int .i64 (E : Int)])) W) := Lib.hid fun W E hW => ⟨_, rfl, ⟨.slice none 0 0, .slice none 0 0, rfl, ⟨none, 0, rfl, Nat.le_refl _, Nums.nil⟩, ⟨none, 0, rfl, Nat.le_refl _, Nums.nil⟩⟩, hW⟩
  have hfl := FDv_flds k 2
  have HX1 := Lib.hid (show ∀ f ∈ FD k, f.so = 1 → 0 ≤ f.mo from FD_mo1 k)
  obtain ⟨R, hR⟩ : ∃ R, rdL (FDv k 2) (Mg.zero k) zs = R := ⟨_, rfl⟩
  obtain ⟨D, hD⟩ : ∃ D, bdec k 2 zs = D := ⟨_, rfl⟩
  have hbd : D = if R.1 ≠ 0 then (R.1, Mg.zero 0) else if R.2.1 < len then (3, Mg.zero 0) else (0, mproj R.2.2 2) := by
    rw [← hD]
    unfold bdec
    rw [if_neg (by omega), if_neg hk, hR, hlen]
  rw [hD]
  unfold FDv at hfl hR
  have K2 := Lib.hid (rall_any k)
  have h6 := FD_few k
  obtain ⟨L, hL⟩ : ∃ L, FD k = L := ⟨_, rfl⟩
  rw [hL] at hfl hR hk HX1 h6
  have HL := Lib.hid hL
  obtain ⟨n, hn⟩ : ∃ n, L.length = n := ⟨_, rfl⟩
  have hn0 : ¬ (n : Int) = 0 := fun h => hk (List.eq_nil_of_length_eq_zero (by omega))
  have h66 : n ≤ 6 := by omega
  have HN := Lib.hid hn
  have HFL := Lib.hid hfl
  have HRL := Lib.hid hR
  have HBD := Lib.hid hbd
  have HLEN := Lib.hid hlen
  have HBY := Lib.hid hby
  have HA := Lib.hid hA
  clear h6 hw2 hb2 q6 hfl hR hD hbd hL hn hk hlen hby hA
  go_enter Try.func20, Try.ntmps20
  go_wp2_with fail
  rw [HW2.out]
  refine (K2.out w2).mono ?_
  rintro e w4 ⟨Ad, c, rfl, hcap8, hrow, hb4⟩
  rw [HL.out] at hcap8 hrow ⊢
  rw [HN.out] at hcap8 ⊢
  have hs2 := HB2.out.size
  have hs6 := (Array.getElem?_eq_some_iff.1 HQ6.out).1
  have HB4 := Lib.hid (HB2.out.trans (hb4.mono hs2))
  have HR := Lib.hid hrow
  have hs4 := hb4.size
  have q64 := (hb4.block _ hs6).trans HQ6.out
  obtain ⟨w5, hw5⟩ : ∃ w5, w4.alloc (.cells #[.int .i64 0, .int .i64 0, .int .i64 0, .int .i64 0, .int .i64 0, .int .i64 0, .int .i64 0, .slice none 0 0, .slice none 0 0, .string ⟨#[]⟩, .string ⟨#[]⟩] 36) = w5 := ⟨_, rfl⟩
  have hb5 : Below w4.heap.size w4 w5 := by rw [← hw5]; exact (Below.refl _ w4).alloc (Nat.le_refl _) _
  have q5 : w5.heap[w4.heap.size]? = some (.cells (mC (Mg.zero 0) (.slice none 0 0) (.slice none 0 0)) 36 (0, 0)) := by rw [← hw5]; exact World.alloc_heap_new _ _
  have hst5 := rm_store w5 w4.heap.size _ (mC (Mg.zero k) (.slice none 0 0) (.slice none 0 0)) q5 rfl rfl (mg_one _ _ _ _ _ _ _)
  have q96 := setRow_heap w5 _ _ (mC (Mg.zero k) (.slice none 0 0) (.slice none 0 0)) _ _ q5
  have hof5 := Off.setRow (S := fun q => q = w4.heap.size) (Off.refl _ w5) rfl (mC (Mg.zero k) (.slice none 0 0) (.slice none 0 0))
  obtain ⟨w6, hw6⟩ : ∃ w6, w5.setRow w4.heap.size (mC (Mg.zero k) (.slice none 0 0) (.slice none 0 0)) = w6 := ⟨_, rfl⟩
  rw [hw6] at hst5 q96 hof5
  have hb46 : Below w4.heap.size w4 w6 := hb5.trans (hof5.below (B := w4.heap.size) (fun q hq => by omega) hb5.size)
  have q66 := (hb46.block _ (by omega)).trans q64
  have HI0 : Hid (RdI w4 w.heap.size w4.heap.size zs L k 2 (Mg.zero k) (.slice none 0 0) (.slice none 0 0) 0 0 w6) := Lib.hid ⟨q96, q66, ⟨⟨none, 0, rfl, Nat.le_refl _, Nums.nil⟩, ⟨none, 0, rfl, Nat.le_refl _, Nums.nil⟩⟩, ⟨fun _ _ => ⟨fun _ _ _ _ h => absurd rfl h, fun _ _ _ _ h => absurd rfl h⟩, fun _ _ _ _ h => absurd rfl h, fun _ _ _ _ h => absurd rfl h⟩, hb46, ⟨by simp [Mg.zero], by simp [Mg.zero], by show (ByteArray.mk #[]).size ≤ 80; decide, by show (ByteArray.mk #[]).size ≤ 80; decide⟩, by rw [List.drop_zero]; exact HFL.out, by simp⟩
  have HW5 := Lib.hid hw5
  have HST5 := Lib.hid hst5
  have hcap' : (n : Int) ≤ (c : Int) := by omega
  clear hrow hb4 hw5 hb5 q5 hst5 q96 hof5 hw6 hb46 q66 q64 K2 HFL HQ6
  go_wp2_with (rw [HW5.out]; refine wpList_store_run rfl 36 (.tmp 9) (.tmp 29) rfl (some ⟨w4.heap.size, 0, none⟩) rfl (.agg (mC (Mg.zero k) (.slice none 0 0) (.slice none 0 0))) rfl HST5.out ?_)
  go_loopw [10, 11, 12, 13, 14] (fun av iv _ _ _ wr => ∃ (j p : Nat) (N : Mg) (P C : Value), j ≤ n ∧ iv = .int .i64 (j : Int) ∧ av = .int .i64 (p : Int) ∧ p ≤ len ∧ Hid (RdI w4 w.heap.size w4.heap.size zs L k 2 N P C j p wr)) (fun _ iv _ _ _ _ => n - (intOf iv).toNat)
  case atStart => exact ⟨0, 0, _, _, _, by omega, rfl, rfl, by omega, HI0⟩
  case round =>
    obtain ⟨j, p, N, P, C, hj, rfl, rfl, hp, HI⟩ := hrel
    clear HI0
    have hi := HI.out
    unfold RdI at hi
    obtain ⟨i1, i2, i3, i4, i5, i6, i7, i8⟩ := hi
    have hsw := i5.size
    have hbw := HB4.out.trans (i5.mono HB4.out.size)
    rcases Nat.lt_or_ge j n with hlt | hge
    · obtain ⟨f, hf⟩ : ∃ f, L[j]? = some f := ⟨_, List.getElem?_eq_getElem (by rw [HN.out]; exact hlt)⟩
      obtain ⟨gr, rfl, hg1, hg2, e0, e1, e2, e3, e4, e5, e6⟩ := (FdsIn.up HR.out i5).seven hf
      have hj2 : (j : Int) < (n : Int) := by omega
      have hd : L.drop j = f :: L.drop (j + 1) := by
        obtain ⟨hlt, he⟩ := List.getElem?_eq_some_iff.1 hf
        rw [List.drop_eq_getElem_cons hlt, he]
      rw [hd] at i7 i8
      by_cases hsi : f.si ≤ 2
      · rw [List.filter_cons_of_pos (by simpa using hsi)] at i7 i8
        have hfx := i7.fdx f (List.mem_cons_self ..)
        have hst := rdL_step f ((L.drop (j + 1)).filter fun f => decide (f.si ≤ 2)) N (zs.drop p)
        have hok : ∀ u N', rdF N f (zs.drop p) = (0, u, N') → u ≤ (zs.drop p).length ∧ fE N' f = 0 ∧ N' = cp N N' f := fun u N' h => by
          have := rdFld_ok hfx (HBY.out.drop p) (i7.p f (List.mem_cons_self ..)) (i7.c f (List.mem_cons_self ..)) h
          exact ⟨this.1, this.2.2⟩
        have KF : Hid (∀ W, Below wr.heap.size wr W → Calls Try.prog 41 #[.agg (mC N P C), .agg #[.string f.nm, .int .i64 f.so, .int .i64 f.pl, .int .i64 f.le, .int .i64 f.mo, .int .i64 f.si, .int .i64 f.ab], .slice A len cap, .int .i64 (p : Int)] W fun e w' => RdS (fun q => q = w4.heap.size ∨ q = w.heap.size) W (rdF N f (zs.drop p)) p e w') := Lib.hid fun W hW => by
          have hsW := hW.size
          exact rfield_any (fun q => q = w4.heap.size ∨ q = w.heap.size) N f P C A len cap zs p W hfx (HX1.out f (List.mem_of_getElem? hf)) i6 (fun x hx => by have := (Array.getElem?_eq_some_iff.1 i1).1; omega) HLEN.out hll hcap HBY.out (((HA.out.below hbw).mono hbw.size).below hW |>.mono hW.size) hp (i3.later hW) (i4.later hW)
        obtain ⟨⟨E, u, N'⟩, hrd⟩ : ∃ r, rdF N f (zs.drop p) = r := ⟨_, rfl⟩
        rw [hrd] at KF hst hok
        simp only at hst
        rw [hst] at i8
        have LM : ∀ W, Below wr.heap.size wr W → (Instr.loadAt 36 (.pointer (some ⟨w4.heap.size, 0, none⟩))).run Try.prog W = .ok (.agg (mC N P C)) W := fun W hW => mr_look ((hW.block _ (Array.getElem?_eq_some_iff.1 i1).1).trans i1)
        have LG : ∀ W, Below wr.heap.size wr W → (Instr.loadAt 46 (.pointer (some ⟨gr, j * 7, none⟩))).run Try.prog W = .ok (.agg #[.string f.nm, .int .i64 f.so, .int .i64 f.pl, .int .i64 f.le, .int .i64 f.mo, .int .i64 f.si, .int .i64 f.ab]) W := fun W hW => by
          have t0 := (hW.cell (p := ⟨gr, j * 7, none⟩) hg2).trans e0
          have t1 := (hW.cell (p := ⟨gr, j * 7 + 1, none⟩) hg2).trans e1
          have t2 := (hW.cell (p := ⟨gr, j * 7 + 2, none⟩) hg2).trans e2
          have t3 := (hW.cell (p := ⟨gr, j * 7 + 3, none⟩) hg2).trans e3
          have t4 := (hW.cell (p := ⟨gr, j * 7 + 4, none⟩) hg2).trans e4
          have t5 := (hW.cell (p := ⟨gr, j * 7 + 5, none⟩) hg2).trans e5
          have t6 := (hW.cell (p := ⟨gr, j * 7 + 6, none⟩) hg2).trans e6
          simp [Instr.loadAt, go_sem, t0, t1, t2, t3, t4, t5, t6]
        have I1 := Lib.hid i1
        have I2 := Lib.hid i2
        have I5 := Lib.hid i5
        have I6 := Lib.hid i6
        have I7 := Lib.hid i7
        have I8 := Lib.hid i8
        have HOK := Lib.hid hok
        have HFX := Lib.hid hfx
        have HBW := Lib.hid hbw
        have h9l := (Array.getElem?_eq_some_iff.1 i1).1
        clear hst hok hrd hd hf hfx i1 i2 i3 i4 i5 i6 i7 i8 e0 e1 e2 e3 e4 e6 HI hbw
        go_wp2_with fail
        refine wp_region_FTL 69 13 6 [10, 11] [51, 43, 52, 53, 12] (F12 (fun q => q = w4.heap.size ∨ q = w.heap.size) wr.heap.size E N' ((p + u : Nat) : Int)) (fun W => Below wr.heap.size wr W) (by kernel_rfl) (by kernel_rfl) (by rfl) (by kernel_rfl) (by kernel_rfl) (by kernel_rfl) (by rfl) (by simp) (fun W W' h hb => h.trans (hb.mono h.size)) (fun q x W W' h hb => h.later hb) (Below.refl _ _).drew ?_
        simp only [List.take_succ_cons, List.take_zero, List.drop_succ_cons, List.drop_zero]
        refine wpF_load (ad := ⟨w4.heap.size, 0, none⟩) (.agg (mC N P C)) rfl (by rfl) (by rfl) (by rfl) LM ?_
        simp only [Act.put, List.setIfInBounds_toArray, List.set_cons_succ, List.set_cons_zero]
        repeat (refine wpF_pure rfl rfl ?_; go_big_quiet_step (fail); refine wpQuiet_nil ?_)
        refine wpF_load (ad := ⟨gr, j * 7, none⟩) (.agg #[.string f.nm, .int .i64 f.so, .int .i64 f.pl, .int .i64 f.le, .int .i64 f.mo, .int .i64 f.si, .int .i64 f.ab]) rfl (by rfl) (by rfl) (by rfl) LG ?_
        simp only [Act.put, List.setIfInBounds_toArray, List.set_cons_succ, List.set_cons_zero]
        repeat (refine wpF_pure rfl rfl ?_; go_big_quiet_step (fail); refine wpQuiet_nil ?_)
        refine wpF_callsrc 51 (f := 41) (args := #[.agg (mC N P C), .agg #[.string f.nm, .int .i64 f.so, .int .i64 f.pl, .int .i64 f.le, .int .i64 f.mo, .int .i64 f.si, .int .i64 f.ab], .slice A len cap, .int .i64 (p : Int)]) (by simp) rfl rfl rfl (fun x => by first | rfl | (simp [go_sem]; done)) (fun W hW => (KF.out W hW).mono fun e w' h => by
          obtain ⟨M', P', C', a', e, h1, h2, h3, h4⟩ := h
          exact ⟨_, e, ⟨M', P', C', a', rfl, h1, h3, h4⟩, h2⟩) ?_
        simp only [Act.put, List.setIfInBounds_toArray, List.set_cons_succ, List.set_cons_zero]
        refine wpF_mix 43 [51] (by simp) rfl (by kernel_rfl) (by kernel_rfl) (fun xs => by rfl) (fun xs V hV hx => ⟨xs 51, V, by simp [execOp, fill, Act.put, Act.eval, go_sem], hx 51 (by simp), Below.refl _ _⟩) ?_
        simp only [Act.put, List.setIfInBounds_toArray, List.set_cons_succ, List.set_cons_zero]
        refine wpF_mix 52 [43] (by simp) rfl (by kernel_rfl) (by kernel_rfl) (fun xs => by rfl) (fun xs V hV hx => ?_) ?_
        · obtain ⟨M', P', C', a', e, h1, h3, h4⟩ := hx 43 (by simp)
          exact ⟨mV M' P' C', V, by simp [execOp, fill, Act.put, Act.eval, e, go_sem], ⟨M', P', C', rfl, h1, h3, fun h => (h4 h).1⟩, Below.refl _ _⟩
        simp only [Act.put, List.setIfInBounds_toArray, List.set_cons_succ, List.set_cons_zero]
        refine wpF_mix 53 [43] (by simp) rfl (by kernel_rfl) (by kernel_rfl) (fun xs => by rfl) (fun xs V hV hx => ?_) ?_
        · obtain ⟨M', P', C', a', e, h1, h3, h4⟩ := hx 43 (by simp)
          exact ⟨.int .i64 a', V, by simp [execOp, fill, Act.put, Act.eval, e, go_sem], ⟨a', rfl, fun h => (h4 h).2⟩, Below.refl _ _⟩
        simp only [Act.put, List.setIfInBounds_toArray, List.set_cons_succ, List.set_cons_zero]
        refine wpF_useval 43 8 (.int .i64 (E : Int)) (by simp) (by rfl) (by kernel_rfl) (by kernel_rfl) (by rfl) (fun x => by rfl) (fun x V hV hx => ?_) ?_
        · obtain ⟨M', P', C', a', e, h1, h3, h4⟩ := hx
          simp [execOp, Act.put, Act.eval, e, go_sem]
        simp only [Act.put, List.setIfInBounds_toArray, List.set_cons_succ, List.set_cons_zero]
        refine wpF_src 12 (by simp) rfl (by kernel_rfl) (by kernel_rfl) (fun V hV => ⟨.pointer (some ⟨V.heap.size, 0, none⟩), V.alloc (.cells #[.int .i64 0, .int .i64 0, .int .i64 0, .int .i64 0, .int .i64 0, .int .i64 0, .int .i64 0, .slice none 0 0, .slice none 0 0, .string ⟨#[]⟩, .string ⟨#[]⟩] 36), ?_, ⟨_, rfl, hV.size, World.alloc_heap_new _ _⟩, (Below.refl _ _).alloc (Nat.le_refl _) _⟩) ?_
        · have hzz : (zeroValue 36).run Try.prog V = .ok (.agg #[.int .i64 0, .int .i64 0, .int .i64 0, .int .i64 0, .int .i64 0, .int .i64 0, .int .i64 0, .slice none 0 0, .slice none 0 0, .string ⟨#[]⟩, .string ⟨#[]⟩]) V := by kernel_rfl
          simp [execOp, go_sem, hzz]
          try rfl
        simp only [Act.put, List.setIfInBounds_toArray, List.set_cons_succ, List.set_cons_zero]
        intro xs w7 hV hx
        obtain ⟨g12, e12, hg12, hc12⟩ := hx 12 (by simp)
        obtain ⟨M', P', C', e52, hm7, hs7, ho7⟩ := hx 52 (by simp)
        obtain ⟨a', e53, ha7⟩ := hx 53 (by simp)
        simp only [fill, Act.put, List.setIfInBounds_toArray, List.set_cons_succ, List.set_cons_zero]
        rw [e12, e52, e53]
        generalize xs 51 = x51
        generalize xs 43 = x43
        clear hx
        unfold mV
        obtain ⟨w8, hst8, q8, hm8, hof8, hs8⟩ := back_store (S := fun q => q = w4.heap.size ∨ q = w.heap.size) hc12 rfl hm7 (hs7.box hm7 hc12) (.inr rfl) (fun x hx => .inl hx)
        have h9g : g12 ≠ w4.heap.size := by omega
        have h6g : g12 ≠ w.heap.size := by omega
        have hb8 : Below wr.heap.size wr w8 := hV.trans (hof8.below (B := wr.heap.size) (fun q hq => by omega) hV.size)
        have q98 := (hb8.block _ h9l).trans I1.out
        have q68 := (hb8.block _ (by omega)).trans I2.out
        have HST8 := Lib.hid hst8
        have Q8 := Lib.hid q8
        have HM8 := Lib.hid hm8
        have HS8 := Lib.hid hs8
        have HB8 := Lib.hid hb8
        have Q98 := Lib.hid q98
        have Q68 := Lib.hid q68
        clear hst8 q8 hm8 hof8 hs8 hb8 q98 q68 hm7 hs7 e12 e52 e53 hc12 LM LG KF hV I1 I2
        refine wpList_store_run rfl 36 (.tmp 12) (.tmp 52) rfl (some ⟨g12, 0, none⟩) rfl (.agg (mC M' P' C')) rfl HST8.out ?_
        refine wpList_val rfl (.int .i64 a') (fun W => by simp [execOp, Act.put, Act.eval, go_sem]) ?_
        simp only [Act.put, List.setIfInBounds_toArray, List.set_cons_succ, List.set_cons_zero]
        refine wpList_val rfl (.int .i64 (E : Int)) (fun W => by simp [execOp, Act.eval, go_sem]) ?_
        simp only [Act.put, List.setIfInBounds_toArray, List.set_cons_succ, List.set_cons_zero]
        refine ⟨rfl, ?_⟩
        simp only [Exit.then]
        have hbw8 := HBW.out.trans (HB8.out.mono HBW.out.size)
        by_cases hE : E = 0
        · subst hE
          obtain rfl := ho7 rfl
          obtain rfl := ha7 rfl
          obtain ⟨o1, o2, o3⟩ := HOK.out u M' rfl
          have h8 := I8.out
          rw [if_neg (by simp)] at h8
          obtain ⟨w9, hst9, q9, hm9, hof9, hs9⟩ := back_store (S := fun q => q = w4.heap.size ∨ q = w.heap.size) Q98.out rfl HM8.out HS8.out (.inl rfl) (fun x hx => hx)
          have hb9 : Below w4.heap.size w4 w9 := (I5.out.trans (HB8.out.mono hsw)).trans (hof9.below (B := w4.heap.size) (fun q hq => by omega) (by have := HB8.out.size; omega))
          have q69 := (hof9.block _ (Array.getElem?_eq_some_iff.1 Q68.out).1 (by omega)).trans Q68.out
          have hlz : (zs.drop p).length = len - p := by rw [List.length_drop, HLEN.out]
          have HI9 : Hid (RdI w4 w.heap.size w4.heap.size zs L k 2 M' P' C' (j + 1) (p + u) w9) := Lib.hid ⟨q9, q69, hm9, hs9, hb9, rdF_small HFX.out o2 o3 I6.out, by rw [o3]; exact I7.out.next M', by rw [h8, List.drop_drop, Nat.add_assoc]⟩
          have HST9 := Lib.hid hst9
          have LD := Lib.hid (mr_look Q8.out)
          have hp2 : p + u ≤ len := by omega
          clear hst9 q9 hm9 hof9 hs9 hb9 q69 h8 o1 o2 o3 hlz hbw8 ho7 ha7
          go_wp2_with (first | refine wpList_load_run rfl 36 (.tmp 12) rfl (some ⟨g12, 0, none⟩) rfl (.agg (mC M' P' C')) LD.out ?_ | refine wpList_store_run rfl 36 (.tmp 9) (.tmp 59) rfl (some ⟨w4.heap.size, 0, none⟩) rfl (.agg (mC M' P' C')) rfl HST9.out ?_)
          go_roundw
          case rel => exact ⟨j + 1, p + u, M', P', C', by omega, by go_num, by go_num, hp2, HI9⟩
          case measure => simp [intOf]; omega
        · have h8 := I8.out
          rw [if_pos hE] at h8
          have hD : D = (E, Mg.zero 0) := by
            rw [HBD.out, ← HRL.out, h8]
            simp only
            rw [if_pos hE]
          have HDD := Lib.hid hD
          have hE' : ¬ (E : Int) = 0 := by omega
          clear h8 hD
          have q6 := Q68.out
          have hst6 := rm_store w8 w.heap.size _ (mC (Mg.zero 0) (.slice none 0 0) (.slice none 0 0)) q6 rfl rfl (mg_one _ _ _ _ _ _ _)
          have q66 := setRow_heap w8 _ _ (mC (Mg.zero 0) (.slice none 0 0) (.slice none 0 0)) _ _ q6
          have hof6 := Off.setRow (S := fun q => q = w.heap.size) (Off.refl _ w8) rfl (mC (Mg.zero 0) (.slice none 0 0) (.slice none 0 0))
          obtain ⟨w66, hw66⟩ : ∃ w66, w8.setRow w.heap.size (mC (Mg.zero 0) (.slice none 0 0) (.slice none 0 0)) = w66 := ⟨_, rfl⟩
          rw [hw66] at hst6 q66 hof6
          have HST6 := Lib.hid hst6
          have HQ66 := Lib.hid q66
          have HF := Lib.hid (HZ.out w66 E (hbw8.trans (hof6.below (B := w.heap.size) (fun q hq => by omega) hbw8.size)))
          clear hst6 q66 hof6 hw66
          go_wp2_with (refine wpList_store_run rfl 36 (.tmp 6) (.tmp 57) rfl (some ⟨w.heap.size, 0, none⟩) rfl (.agg (mC (Mg.zero 0) (.slice none 0 0) (.slice none 0 0))) rfl HST6.out ?_)
          obtain ⟨y0, y1, y2, y3, y4, y5, y6, y7, y8, y9, y10⟩ := mg_block HQ66.out
          refine bodyPost_ret (v := .tuple #[.agg (mC (Mg.zero 0) (.slice none 0 0) (.slice none 0 0)), .int .i64 (E : Int)]) (by simp [results, Try.results20, go_sem, y0, y1, y2, y3, y4, y5, y6, y7, y8, y9, y10, mC]) rfl ?_
          rw [HDD.out]
          exact HF.out
      · rw [List.filter_cons_of_neg (by simpa using hsi)] at i7 i8
        have HI9 : Hid (RdI w4 w.heap.size w4.heap.size zs L k 2 N P C (j + 1) p wr) := Lib.hid ⟨i1, i2, i3, i4, i5, i6, i7, i8⟩
        have hsi2 : (2 : Int) < f.si := by omega
        clear i1 i2 i3 i4 i5 i6 i7 i8 hd hf HI e0 e1 e2 e3 e4 e6 hbw
        go_wp2_with fail
        go_roundw
        case rel => exact ⟨j + 1, p, N, P, C, by omega, by go_num, rfl, hp, HI9⟩
        case measure => simp [intOf]; omega
    · obtain rfl : j = n := by omega
      rw [List.drop_eq_nil_of_le (by rw [HN.out]; exact Nat.le_refl _)] at i8
      have hR : R = (0, p, N) := by rw [← HRL.out, i8]; rfl
      have hbd := HBD.out
      rw [hR] at hbd
      simp only [ne_eq, not_true_eq_false, if_false] at hbd
      by_cases hpl : p < len
      · rw [if_pos hpl] at hbd
        have HDD := Lib.hid hbd
        have hpl2 : (p : Int) < (len : Int) := by omega
        have q6 := i2
        clear hbd hR i1 i3 i4 i6 i7 i8 HI
        have hst6 := rm_store wr w.heap.size _ (mC (Mg.zero 0) (.slice none 0 0) (.slice none 0 0)) q6 rfl rfl (mg_one _ _ _ _ _ _ _)
        have q66 := setRow_heap wr _ _ (mC (Mg.zero 0) (.slice none 0 0) (.slice none 0 0)) _ _ q6
        have hof6 := Off.setRow (S := fun q => q = w.heap.size) (Off.refl _ wr) rfl (mC (Mg.zero 0) (.slice none 0 0) (.slice none 0 0))
        obtain ⟨w66, hw66⟩ : ∃ w66, wr.setRow w.heap.size (mC (Mg.zero 0) (.slice none 0 0) (.slice none 0 0)) = w66 := ⟨_, rfl⟩
        rw [hw66] at hst6 q66 hof6
        have HST6 := Lib.hid hst6
        have HQ66 := Lib.hid q66
        have HF := Lib.hid (HZ.out w66 3 (hbw.trans (hof6.below (B := w.heap.size) (fun q hq => by omega) hbw.size)))
        clear hst6 q66 hof6 hw66
        go_wp2_with (refine wpList_store_run rfl 36 (.tmp 6) (.tmp 65) rfl (some ⟨w.heap.size, 0, none⟩) rfl (.agg (mC (Mg.zero 0) (.slice none 0 0) (.slice none 0 0))) rfl HST6.out ?_)
        obtain ⟨y0, y1, y2, y3, y4, y5, y6, y7, y8, y9, y10⟩ := mg_block HQ66.out
        refine bodyPost_ret (v := .tuple #[.agg (mC (Mg.zero 0) (.slice none 0 0) (.slice none 0 0)), .int .i64 3]) (by simp [results, Try.results20, go_sem, y0, y1, y2, y3, y4, y5, y6, y7, y8, y9, y10, mC]) rfl ?_
        rw [HDD.out]
        exact HF.out
      · rw [if_neg hpl] at hbd
        have HDD := Lib.hid hbd
        have hpl2 : ¬ (p : Int) < (len : Int) := by omega
        obtain ⟨⟨pa, pc, rfl, pl, pn⟩, ⟨ca, cc, rfl, cl, cn⟩⟩ := i3
        have KP := Lib.hid (rmproject_any N pa ca N.p.length N.c.length pc cc 2 wr)
        have LD := Lib.hid (mr_look i1)
        have I2 := Lib.hid i2
        have I4 := Lib.hid i4
        have HMN : Hid (MAt wr wr.heap.size N (.slice pa N.p.length pc) (.slice ca N.c.length cc)) := Lib.hid ⟨⟨pa, pc, rfl, pl, pn⟩, ⟨ca, cc, rfl, cl, cn⟩⟩
        have HBW := Lib.hid hbw
        clear hbd hR i1 i2 i4 i6 i7 i8 HI pn cn hbw pl cl
        go_wp2_with (refine wpList_load_run rfl 36 (.tmp 9) rfl (some ⟨w4.heap.size, 0, none⟩) rfl (.agg (mC N (.slice pa N.p.length pc) (.slice ca N.c.length cc))) LD.out ?_)
        refine KP.out.mono ?_
        rintro e w7 ⟨rfl, hb7⟩
        have hpp : (mproj N 2).p = N.p := mproj_p N 2
        have hpc : (mproj N 2).c = N.c := mproj_c N 2
        have hm7 : MAt w7 w7.heap.size (mproj N 2) (.slice pa N.p.length pc) (.slice ca N.c.length cc) := by
          have := HMN.out.later hb7
          exact ⟨by rw [hpp]; exact this.p, by rw [hpc]; exact this.c⟩
        have hs7 : Shun (fun q => q = w4.heap.size ∨ q = w.heap.size) w7 (mproj N 2) (.slice pa N.p.length pc) (.slice ca N.c.length cc) := by
          have := I4.out.later hb7
          unfold Shun at *
          rw [hpp, hpc]
          exact this
        have q67 := (hb7.block _ (Array.getElem?_eq_some_iff.1 I2.out).1).trans I2.out
        obtain ⟨w8, hst8, q8, hm8, hof8, -⟩ := back_store (S := fun q => q = w4.heap.size ∨ q = w.heap.size) q67 rfl hm7 hs7 (.inr rfl) (fun x hx => hx)
        have hb78 : Below w.heap.size w w8 := (HBW.out.trans (hb7.mono HBW.out.size)).trans (hof8.below (B := w.heap.size) (fun q hq => by omega) (by have := hb7.size; have := HBW.out.size; omega))
        have HF : Hid (DecR w (0, mproj N 2) (.returned (.tuple #[.agg (mC (mproj N 2) (.slice pa N.p.length pc) (.slice ca N.c.length cc)), .int .i64 0])) w8) := Lib.hid ⟨_, rfl, ⟨_, _, rfl, hm8⟩, hb78⟩
        have HST8 := Lib.hid hst8
        have Q8 := Lib.hid q8
        clear hpp hpc hm7 hs7 q67 hst8 q8 hm8 hof8 hb78 hb7 KP I2 I4 HMN LD
        unfold mV
        go_wp2_with (refine wpList_store_run rfl 36 (.tmp 6) (.tmp 68) rfl (some ⟨w.heap.size, 0, none⟩) rfl (.agg (mC (mproj N 2) (.slice pa N.p.length pc) (.slice ca N.c.length cc))) rfl HST8.out ?_)
        obtain ⟨y0, y1, y2, y3, y4, y5, y6, y7, y8, y9, y10⟩ := mg_block Q8.out
        refine bodyPost_ret (v := .tuple #[.agg (mC (mproj N 2) (.slice pa N.p.length pc) (.slice ca N.c.length cc)), .int .i64 0]) (by simp [results, Try.results20, go_sem, y0, y1, y2, y3, y4, y5, y6, y7, y8, y9, y10, mC]) rfl ?_
        rw [HDD.out]
        exact HF.out
end Go.Proofs.Ytmjbimmbphofjaa

namespace Go.Proofs.Ytmjbimmbphofjaa
open Go.RowKit Go.Shelf
set_option maxRecDepth 100000

theorem rdecode_any (k v : Int) (A : Option Addr) (len cap : Nat) (zs : List Int) (w : World) (hlen : zs.length = len) (hll : len ≤ 1000000) (hcap : len ≤ cap) (hby : Bys zs) (hA : Nums .u8 w w.heap.size A zs) : Calls Try.prog 20 #[.int .i64 k, .int .i64 v, .slice A len cap] w fun e w' => DecR w (bdec k v zs) e w' := by
  by_cases hE : (v ≠ 1 ∧ v ≠ 2) ∨ FD k = []
  · exact rdecode_no k v A len cap zs w hE
  · have hk : FD k ≠ [] := fun h => hE (.inr h)
    have hv : v = 1 ∨ v = 2 := by
      by_cases h : v ≠ 1 ∧ v ≠ 2
      · exact absurd (.inl h) hE
      · omega
    rcases hv with rfl | rfl
    · exact rdecode_1 k A len cap zs w hlen hll hcap hby hA hk
    · exact rdecode_2 k A len cap zs w hlen hll hcap hby hA hk
end Go.Proofs.Ytmjbimmbphofjaa

namespace Go.Proofs.Ytmjbimmbphofjaa
open Go.RowKit Go.Shelf
set_option maxRecDepth 100000
attribute [local go_sem] Oper.semAt_some

theorem mg_oneV {w : World} {B : Nat} {M : Mg} {P C : Value} (h : MAt w B M P C) : (mC M P C).all (·.oneCell') = true := by
  obtain ⟨⟨a, c, rfl, -, -⟩, ⟨a', c', rfl, -, -⟩⟩ := h
  exact mg_one _ _ _ _ _ _ _
/-- a message is stored into a new box -/
theorem new_msg (W : World) {w : World} {B : Nat} {M : Mg} {P C : Value} (h : MAt w B M P C) : ∃ W2, (Instr.storeAt 26 (.pointer (some ⟨W.heap.size, 0, none⟩)) (.agg (mC M P C))).run Try.prog (W.alloc (.cells #[.int .i64 0, .int .i64 0, .int .i64 0, .int .i64 0, .int .i64 0, .int .i64 0, .int .i64 0, .slice none 0 0, .slice none 0 0, .string ⟨#[]⟩, .string ⟨#[]⟩] 26)) = .ok () W2 ∧
    W2.heap[W.heap.size]? = some (.cells (mC M P C) 26 (0, 0)) ∧ Below W.heap.size W W2 := by
  have r := World.alloc_heap_new W (.cells #[.int .i64 0, .int .i64 0, .int .i64 0, .int .i64 0, .int .i64 0, .int .i64 0, .int .i64 0, .slice none 0 0, .slice none 0 0, .string ⟨#[]⟩, .string ⟨#[]⟩] 26)
  have hb : Below W.heap.size W (W.alloc (.cells #[.int .i64 0, .int .i64 0, .int .i64 0, .int .i64 0, .int .i64 0, .int .i64 0, .int .i64 0, .slice none 0 0, .slice none 0 0, .string ⟨#[]⟩, .string ⟨#[]⟩] 26)) := (Below.refl _ W).alloc (Nat.le_refl _) _
  have hoff := Off.setRow (S := fun k => k = W.heap.size) (Off.refl _ (W.alloc (.cells #[.int .i64 0, .int .i64 0, .int .i64 0, .int .i64 0, .int .i64 0, .int .i64 0, .int .i64 0, .slice none 0 0, .slice none 0 0, .string ⟨#[]⟩, .string ⟨#[]⟩] 26))) rfl (mC M P C)
  exact ⟨_, mg_store _ _ _ (mC M P C) r rfl rfl (mg_oneV h), setRow_heap _ _ _ _ _ _ r, hb.trans (hoff.below (B := W.heap.size) (fun k hk => by omega) hb.size)⟩
end Go.Proofs.Ytmjbimmbphofjaa

namespace Go.Proofs.Ytmjbimmbphofjaa
open Go.RowKit Go.Shelf
set_option maxRecDepth 100000
attribute [local go_sem] Oper.semAt_some

/-- a right message isn't large -/
theorem mck_small {M : Mg} (h : mck M = 0) : Msm M := by
  rw [mck_zero] at h
  obtain ⟨-, h2, h3⟩ := h
  rw [rest_iff] at h3
  obtain ⟨-, p, c, tx, tg⟩ := h3
  have key : ∀ q : Int, isS (FD M.k) q = true → ∃ f ∈ FD M.k, f.so = q := fun q h => by
    unfold isS at h
    rw [List.any_eq_true] at h
    obtain ⟨f, hf, h⟩ := h
    exact ⟨f, hf, by simpa using h⟩
  constructor
  · cases he : isS (FD M.k) 3
    · rw [p he]; simp
    · obtain ⟨f, hf, hs⟩ := key 3 he
      have h4 := h2 f hf
      have hm := (FD_fdx M.k f hf).mo.1 hs
      unfold fE at h4
      rw [if_pos hs] at h4
      have := (wP_zero h4).2.1
      omega
  · cases he : isS (FD M.k) 4
    · rw [c he]; simp
    · obtain ⟨f, hf, hs⟩ := key 4 he
      have h4 := h2 f hf
      have hm := (FD_fdx M.k f hf).mo.2.1 hs
      unfold fE at h4
      rw [if_neg (by omega), if_pos hs] at h4
      have := (wC_zero h4).2.1
      omega
  · cases he : isS (FD M.k) 5
    · rw [tx he]; decide
    · obtain ⟨f, hf, hs⟩ := key 5 he
      have h4 := h2 f hf
      have hm := (FD_fdx M.k f hf).mo.2.2.1 hs
      unfold fE at h4
      rw [if_neg (by omega), if_neg (by omega), if_pos hs] at h4
      have := (wT_zero h4).1
      omega
  · cases he : isS (FD M.k) 6
    · rw [tg he]; decide
    · obtain ⟨f, hf, hs⟩ := key 6 he
      have h4 := h2 f hf
      have hm := (FD_fdx M.k f hf).mo.2.2.2 hs
      unfold fE at h4
      rw [if_neg (by omega), if_neg (by omega), if_neg (by omega), if_pos hs] at h4
      have := (wT_zero h4).1
      omega
theorem bdec_small {k v : Int} {l : List Int} (hl : Bys l) : Msm (bdec k v l).2 := by
  by_cases h : (bdec k v l).1 = 0
  · obtain ⟨_, _, h2, _⟩ := bdec_ok (m := (bdec k v l).2) hl (by rw [← h])
    exact mck_small h2
  · have h0 : (bdec k v l).2 = Mg.zero 0 := by
      unfold bdec at h ⊢
      repeat' split
      all_goals first | rfl | (exfalso; apply h; rename_i h1 h2 h3 h4; rw [if_neg h1, if_neg h2, if_neg h3, if_neg h4])
    rw [h0]
    exact ⟨by simp [Mg.zero], by simp [Mg.zero], by show (ByteArray.mk #[]).size ≤ 80; decide, by show (ByteArray.mk #[]).size ≤ 80; decide⟩
/-- a message of the document's is stored into a new box -/
theorem new_rmsg (W : World) {w : World} {B : Nat} {M : Mg} {P C : Value} (h : MAt w B M P C) : ∃ W2, (Instr.storeAt 36 (.pointer (some ⟨W.heap.size, 0, none⟩)) (.agg (mC M P C))).run Try.prog (W.alloc (.cells #[.int .i64 0, .int .i64 0, .int .i64 0, .int .i64 0, .int .i64 0, .int .i64 0, .int .i64 0, .slice none 0 0, .slice none 0 0, .string ⟨#[]⟩, .string ⟨#[]⟩] 36)) = .ok () W2 ∧
    W2.heap[W.heap.size]? = some (.cells (mC M P C) 36 (0, 0)) ∧ Below W.heap.size W W2 := by
  have r := World.alloc_heap_new W (.cells #[.int .i64 0, .int .i64 0, .int .i64 0, .int .i64 0, .int .i64 0, .int .i64 0, .int .i64 0, .slice none 0 0, .slice none 0 0, .string ⟨#[]⟩, .string ⟨#[]⟩] 36)
  have hb : Below W.heap.size W (W.alloc (.cells #[.int .i64 0, .int .i64 0, .int .i64 0, .int .i64 0, .int .i64 0, .int .i64 0, .int .i64 0, .slice none 0 0, .slice none 0 0, .string ⟨#[]⟩, .string ⟨#[]⟩] 36)) := (Below.refl _ W).alloc (Nat.le_refl _) _
  have hoff := Off.setRow (S := fun k => k = W.heap.size) (Off.refl _ (W.alloc (.cells #[.int .i64 0, .int .i64 0, .int .i64 0, .int .i64 0, .int .i64 0, .int .i64 0, .int .i64 0, .slice none 0 0, .slice none 0 0, .string ⟨#[]⟩, .string ⟨#[]⟩] 36))) rfl (mC M P C)
  exact ⟨_, rm_store _ _ _ (mC M P C) r rfl rfl (mg_oneV h), setRow_heap _ _ _ _ _ _ r, hb.trans (hoff.below (B := W.heap.size) (fun k hk => by omega) hb.size)⟩
set_option maxHeartbeats 16000000 in
theorem decodes_go (k v : Int) (a : Option Addr) (n m cp : Nat) (es : List Int) (w : World) (hn : es.length = n) (hc : n ≤ cp) (hz : Bys es) (h1 : Nums .u8 w w.heap.size a es) (hm : min (n : Int) 250 = (m : Int)) (hmn : m ≤ n) (hm2 : m ≤ 250) :
    Calls Try.prog 4 #[.int .i64 k, .int .i64 v, .slice a n cp] w fun e w' => e = .returned (.bool true) ∧ Below w.heap.size w w' := by
  have hmc : (m : Int) ≤ (cp : Int) := by omega
  have hlen : (es.take m).length = m := by rw [List.length_take]; omega
  have hby : Bys (es.take m) := fun c hc => hz c (List.mem_of_mem_take hc)
  have hnum := h1.take m
  generalize es.take m = zs at *
  clear hz h1 hn
  have hsm := bdec_small (k := k) (v := v) hby
  have hok : ∀ M, bdec k v zs = (0, M) → mck M = 0 ∧ body M v = zs ∧ (v = 1 ∨ v = 2) := fun M h => by
    obtain ⟨q1, _, q2, q3, _⟩ := bdec_ok hby h
    exact ⟨q2, q3, q1⟩
  obtain ⟨⟨E, M⟩, hD⟩ : ∃ r, bdec k v zs = r := ⟨_, rfl⟩
  have D1 : Hid (∀ W, Below w.heap.size w W → Calls Try.prog 17 #[.int .i64 k, .int .i64 v, .slice a m cp] W fun e w' => DecR W (E, M) e w') := Lib.hid fun W hW => by
    have := bdecode_any k v a m cp zs W hlen (by omega) hby ((hnum.below hW).mono hW.size)
    rwa [hD] at this
  have D2 : Hid (∀ W, Below w.heap.size w W → Calls Try.prog 20 #[.int .i64 k, .int .i64 v, .slice a m cp] W fun e w' => DecR W (E, M) e w') := Lib.hid fun W hW => by
    have := rdecode_any k v a m cp zs W hlen (by omega) (by omega) hby ((hnum.below hW).mono hW.size)
    rwa [hD] at this
  rw [hD] at hsm hok
  have HSM := Lib.hid hsm
  have HOK := Lib.hid hok
  have HNM := Lib.hid hnum
  have HLN := Lib.hid hlen
  clear hsm hok hD hby hnum hlen
  simp only at HSM
  go_enter Try.func4, Try.ntmps4
  go_wp2_with (first | rw [hm])
  refine (D1.out w (Below.refl _ _)).mono ?_
  rintro e w2 ⟨_, rfl, ⟨P, C, rfl, hmx⟩, hb2⟩
  obtain ⟨w3, hst3, q3, hb3⟩ := new_msg w2 hmx
  have HST3 := Lib.hid hst3
  have hbw3 := hb2.trans (hb3.mono hb2.size)
  have HX := Lib.hid (And.intro q3 (hmx.later hb3))
  have HB3 := Lib.hid hbw3
  clear hst3 q3 hb2 hb3 hbw3 hmx D1
  simp only
  unfold mV
  go_wp2_with (refine wpList_store_run rfl 26 (.tmp 7) (.tmp 23) rfl (some ⟨w2.heap.size, 0, none⟩) rfl (.agg (mC M P C)) rfl HST3.out ?_)
  refine (D2.out w3 HB3.out).mono ?_
  rintro e w4 ⟨_, rfl, ⟨P2, C2, rfl, hmy⟩, hb4⟩
  obtain ⟨w5, hst5, q5, hb5⟩ := new_rmsg w4 hmy
  have HST5 := Lib.hid hst5
  have hb35 := hb4.trans (hb5.mono hb4.size)
  have HY := Lib.hid (And.intro q5 (hmy.later hb5))
  have HX5 := Lib.hid (And.intro ((hb35.block _ (Array.getElem?_eq_some_iff.1 HX.out.1).1).trans HX.out.1) (HX.out.2.later hb35))
  have HB5 := Lib.hid (HB3.out.trans (hb35.mono HB3.out.size))
  clear hst5 q5 hb4 hb5 hb35 hmy D2 HX HB3 HST3
  simp only
  unfold mV
  go_wp2_with (refine wpList_store_run rfl 36 (.tmp 9) (.tmp 30) rfl (some ⟨w4.heap.size, 0, none⟩) rfl (.agg (mC M P2 C2)) rfl HST5.out ?_)
  have lX : Hid (∀ W, Below w5.heap.size w5 W → (Instr.loadAt 26 (.pointer (some ⟨w2.heap.size, 0, none⟩))).run Try.prog W = .ok (.agg (mC M P C)) W) := Lib.hid fun W hW => mg_read ((hW.block _ (Array.getElem?_eq_some_iff.1 HX5.out.1).1).trans HX5.out.1)
  have lY : ∀ W, Below w5.heap.size w5 W → (Instr.loadAt 36 (.pointer (some ⟨w4.heap.size, 0, none⟩))).run Try.prog W = .ok (.agg (mC M P2 C2)) W := fun W hW => mr_look ((hW.block _ (Array.getElem?_eq_some_iff.1 HY.out.1).1).trans HY.out.1)
  have FX : ∀ W, Below w5.heap.size w5 W → FMs M (.agg (mC M P C)) W := fun W hW => ⟨P, C, rfl, HX5.out.2.later hW⟩
  have FY : ∀ W, Below w5.heap.size w5 W → FMs M (.agg (mC M P2 C2)) W := fun W hW => ⟨P2, C2, rfl, HY.out.2.later hW⟩
  refine wp_region_F 66 [37] (fun _ x W => FMs M x W) (fun W => Below w5.heap.size w5 W) (by kernel_rfl) (by kernel_rfl) (by rfl) (by simp) (fun W W' h hb => h.trans (hb.mono h.size)) (fun s x W W' h hb => h.later hb) (Below.refl _ _).drew ?_
  repeat (refine wpF_pure rfl rfl ?_; go_big_quiet_step (fail); refine wpQuiet_nil ?_)
  refine wpF_load (ad := ⟨w2.heap.size, 0, none⟩) (.agg (mC M P C)) rfl (by rfl) (by rfl) (by rfl) lX.out ?_
  simp only [Act.put, List.setIfInBounds_toArray, List.set_cons_succ, List.set_cons_zero]
  refine wpF_callsrc 37 (f := 10) (args := #[.agg (mC M P C)]) (by simp) rfl rfl rfl (fun x => by first | rfl | (simp [go_sem]; done)) (fun W hW => of_F HSM.out (FX W hW)) ?_
  simp only [Act.put, List.setIfInBounds_toArray, List.set_cons_succ, List.set_cons_zero]
  refine wpF_load (ad := ⟨w4.heap.size, 0, none⟩) (.agg (mC M P2 C2)) rfl (by rfl) (by rfl) (by rfl) lY ?_
  simp only [Act.put, List.setIfInBounds_toArray, List.set_cons_succ, List.set_cons_zero]
  refine wpF_use 37 5 (f := 18) (fun x => #[x, .agg (mC M P2 C2)]) (.bool true) (by simp) rfl (by kernel_rfl) (by kernel_rfl) (by kernel_rfl) (fun x => by rfl) (fun x W => by first | rfl | (simp [go_sem]; done)) (fun x W hW hx => by
    have := rsame_F HSM.out hx (FY W hW)
    rwa [decide_eq_true rfl] at this) ?_
  simp only [Act.put, List.setIfInBounds_toArray, List.set_cons_succ, List.set_cons_zero]
  repeat (refine wpF_pure rfl rfl ?_; go_big_quiet_step (fail); refine wpQuiet_nil ?_)
  intro xs w6 hb6 hxs
  have HB6 := Lib.hid (HB5.out.trans (hb6.mono HB5.out.size))
  have HB56 := Lib.hid hb6
  clear hxs lY FY hb6 HY
  simp only [fill, Act.put, List.setIfInBounds_toArray, List.set_cons_succ, List.set_cons_zero]
  generalize xs 37 = x37
  by_cases hE : E = 0
  · subst hE
    obtain ⟨g1, g2, g3⟩ := HOK.out M rfl
    have hr : benc M v = (zs, 0) := by
      unfold benc
      rw [if_neg (by omega), if_neg (by simp [g1]), g2]
    have KE : Hid (Calls Try.prog 8 #[.agg (mC M P C), .int .i64 v] w6 fun e w' => EncR w6 (zs, 0) e w') := Lib.hid (by
      have := bencode_any M P C v w6 HSM.out (HX5.out.2.later HB56.out)
      rwa [hr] at this)
    have HG1 := Lib.hid g1
    have lX6 := lX.out w6 HB56.out
    clear g1 g2 g3 hr FX
    go_wp2_with (refine wpList_load_run rfl 26 (.tmp 7) rfl (some ⟨w2.heap.size, 0, none⟩) rfl (.agg (mC M P C)) lX6 ?_)
    refine KE.out.mono ?_
    rintro e w7 ⟨x7, rfl, hm7⟩
    obtain ⟨A7, c7, rfl, hc7, hn7⟩ := hm7.slice
    have hb57 := HB56.out.trans (hm7.2.mono HB56.out.size)
    have HB57 := Lib.hid hb57
    have HN7 := Lib.hid hn7
    have HB7 := Lib.hid (HB6.out.trans (hm7.2.mono HB6.out.size))
    clear hm7 hb57 hn7 lX6 KE
    rw [HLN.out] at hc7 ⊢
    go_wp2_with fail
    refine (bdknown_any w7).mono ?_
    rintro e w8 ⟨rfl, hb8⟩
    have KS : Hid (Calls Try.prog 11 #[.slice A7 m c7, .slice a m cp] w8 fun e w' => e = .returned (.bool true) ∧ Below w8.heap.size w8 w') := Lib.hid ((same_len w8.heap.size A7 a m m c7 cp zs zs w8 rfl HLN.out HLN.out (by omega) ((HN7.out.below hb8).mono hb8.size) ((HNM.out.below (HB7.out.trans (hb8.mono HB7.out.size))).mono (HB7.out.trans (hb8.mono HB7.out.size)).size)).mono fun e w' h => by
      obtain ⟨h1, j, h2⟩ := h
      exact ⟨h1, by rw [h2]; exact below_drewN (Below.refl _ _) j⟩)
    have HB8 := Lib.hid (HB7.out.trans (hb8.mono HB7.out.size))
    have HB58 := Lib.hid (HB57.out.trans (hb8.mono HB57.out.size))
    clear hb8
    go_wp2_with fail
    refine KS.out.mono ?_
    rintro e w9 ⟨rfl, hb9⟩
    have HB59 := Lib.hid (HB58.out.trans (hb9.mono HB58.out.size))
    have HB9 := Lib.hid (HB8.out.trans (hb9.mono HB8.out.size))
    have lX9 := lX.out w9 HB59.out
    clear hb9
    have KC : Hid (Calls Try.prog 21 #[.agg (mC M P C)] w9 fun e w' => e = .returned (.int .i64 0) ∧ Below w9.heap.size w9 w') := Lib.hid (by
      have := chk_F HSM.out (show FMs M (.agg (mC M P C)) w9 from ⟨P, C, rfl, HX5.out.2.later HB59.out⟩)
      rwa [HG1.out] at this)
    go_wp2_with (refine wpList_load_rung (by rfl) 26 (.tmp 7) rfl (some ⟨w2.heap.size, 0, none⟩) rfl (.agg (mC M P C)) lX9 ?_)
    refine KC.out.mono ?_
    rintro e w10 ⟨rfl, hb10⟩
    have HF := Lib.hid (HB9.out.trans (hb10.mono HB9.out.size))
    clear hb10
    go_wp2
    go_ret
    exact ⟨rfl, HF.out⟩
  · have hE' : ¬ (E : Int) = 0 := by omega
    have e1 : ((E : Int) != 0) = true := by simpa using hE'
    clear FX
    go_wp2_with fail
    refine (bdknown_any w6).mono ?_
    rintro e w7 ⟨rfl, hb7⟩
    have HF := Lib.hid (HB6.out.trans (hb7.mono HB6.out.size))
    clear hb7
    go_wp2
    go_ret
    exact ⟨rfl, HF.out⟩
end Go.Proofs.Ytmjbimmbphofjaa

namespace Go.Proofs.Ytmjbimmbphofjaa.bodyDecodes
open Go.ChangeShapes Go.WideShapes Go.ChangeAt Go.RowKit
open Go.ChangeMaps (open_string shut_string)
set_option linter.unusedVariables false

theorem own : ownKnob Try.prog.godebug = none := by kernel_rfl
theorem laidOut : laidOutB Try.prog = true := by kernel_rfl

set_option maxRecDepth 100000 in
theorem lifted (os : Os) (started : os.Started) (H : Type) (enc : TypeId × Value → H) :
    ReturnsInHanded {} Try.checked os 4 .any (Rows.bodyDecodesSpec.pre6 enc Try.prog Try.f4 Rows.bodyDecodesRow.domain false) (Rows.bodyDecodesSpec.post enc Try.prog Try.f4 false true false false) := by
  refine returnsInHanded_of_change (C := Try.checked) own started (by kernel_rfl) Try.func4
    (ChangeSpec.witness6 (enc := enc) (C := Try.checked) false ⟨#[], #[.int .i64 0, .int .i64 0, .slice none 0 0], []⟩ 8 (by kernel_rfl) (by kernel_rfl) (by kernel_rfl) (by kernel_rfl)) ?_
  intro W base args ds gs before hval0 hW hcnd _
  have hval : ∀ (j : Nat) t v, Try.f4.params[j]? = some t → args[j]? = some v → Value.okWide Try.prog W .any base t v := hval0
  have hW' := hW
  obtain ⟨p, q, hA0, hV, rfl, hfz, hnd⟩ := hW
  have hA : DataW.TrodAll enc Try.prog W 0 (fun _ => true) true Try.f4.params.toList args.toList ds p := hA0
  rw [Try.params4] at hA hval
  obtain ⟨v0, vs0, d0, ds0, p0, q0, hargs, rfl, rfl, h0, r0⟩ := trodAll_cons hA
  obtain ⟨v1, vs1, d1, ds1, p1, q1, rfl, rfl, rfl, h1, r1⟩ := trodAll_cons r0
  obtain ⟨v2, vs2, d2, ds2, p2, q2, rfl, rfl, rfl, h2, r2⟩ := trodAll_cons r1
  obtain ⟨rfl, rfl, rfl⟩ := trodAll_nil r2
  obtain rfl : args = #[v0, v1, v2] := by cases args; simp_all
  obtain ⟨rfl, rfl⟩ := trodVars_none hV
  obtain ⟨a0, rfl, rfl, rfl, w0⟩ := open_int Try.underlying3 (hval 0 3 v0 rfl rfl) h0
  obtain ⟨a1, rfl, rfl, rfl, w1⟩ := open_int Try.underlying3 (hval 1 3 v1 rfl rfl) h1
  obtain ⟨a2, len2, cap2, rfl⟩ := okWide_slice Try.underlying28 (hval 2 28 v2 rfl rfl)
  have k2 := h2
  have lt2 : ∀ x ∈ p2, x.block < W.heap.size := by obtain ⟨m, hm⟩ := k2; exact DataW.trod_lt m _ _ _ hm
  obtain ⟨e2, hd2, hm2, w2⟩ : ∃ es : List Int, es.length = len2 ∧ len2 ≤ cap2 ∧ Nums .u8 W W.heap.size a2 es ∧ ∀ z ∈ es, (Lit.int .u8 z).wf = true := by
    obtain ⟨fuel, hf⟩ := h2
    obtain ⟨_, _, _, es, he, q⟩ := row_of Try.underlying28 Try.underlying5 (by kernel_rfl) hf
    injection he with e1 e2 e3
    subst e1 e2 e3
    exact ⟨es, q⟩
  clear hA0 hval0
  refine (decodes_go a0 a1 a2 len2 (min len2 250) cap2 e2 W hd2 hm2 (fun c hc => bounds_u8 (w2.2 c hc)) w2.1 (by omega) (by omega) (by omega)).mono fun e W' ⟨he, bel⟩ => ?_
  subst he
  exact ⟨_, rfl, _, _, _, [], _, [], hW', trodAll_mk1 (shut_bool Try.underlying4 _), (trodAll_cons_mk (shut_int Try.underlying3 w0) (trodAll_cons_mk (shut_int Try.underlying3 w1) (trodAll_cons_mk (Below.trod laidOut (by kernel_rfl) (of_decide_eq_true (by kernel_rfl)) k2 bel lt2) trodAll_mk0))), rfl, bel.frame _, fun h => by cases h⟩

theorem over : Rows.bodyDecodesRow.holds Try.pinned (OpenSpec.ofChange Rows.bodyDecodesSpec) :=
  OpenClaim.holds_of_wide 4 Try.f4 rfl rfl rfl rfl rfl rfl rfl ⟨rfl, rfl, rfl, rfl, rfl⟩ rfl rfl rfl rfl rfl (by kernel_rfl) Try.func4 (by kernel_rfl)
    (of_decide_eq_true (by kernel_rfl)) (by unfold Func.isWrapper; first | (rw [if_pos (by decide +kernel)]; kernel_rfl) | (rw [if_neg (by decide +kernel)]; exact ⟨rfl, rfl⟩))
    (fun os started H enc _ => lifted os started H enc)

theorem proved : Rows.BodyDecodesSaid := over
#print axioms proved
end Go.Proofs.Ytmjbimmbphofjaa.bodyDecodes
