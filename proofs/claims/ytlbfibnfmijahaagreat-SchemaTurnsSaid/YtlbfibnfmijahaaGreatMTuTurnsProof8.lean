/-
  The law SchemaTurns returns true for every kind, every two versions and every bytes: what Turn answers is the document's.
-/
import Derived.Test.YtlbfibnfmijahaaGreatRows
import Derived.Below
import Derived.WalkKit
import Derived.ProofKit
import Derived.OpenShut
import Derived.ShutString
import Derived.ChangeOld
import Derived.Test.YtlbfibnfmijahaaGreatMTuTurnsProof7
namespace Go.Proofs.YtlbfibnfmijahaaGreat
open Go.RowKit Go.Shelf
set_option maxRecDepth 100000
attribute [local go_sem] Oper.semAt_some

set_option maxHeartbeats 16000000 in
theorem rdecode_2 (k : Int) (A : Option Addr) (len cap : Nat) (zs : List Int) (w : World) (hlen : zs.length = len) (hll : len ≤ 1000000) (hcap : len ≤ cap) (hby : Bys zs) (hA : Nums .u8 w w.heap.size A zs) (hk : FD k ≠ []) : Calls Tryz.prog 40 #[.int .i64 k, .int .i64 2, .slice A len cap] w fun e w' => DecR w (bdec k 2 zs) e w' := by
  obtain ⟨w2, hw2⟩ : ∃ w2, w.alloc (.cells #[.int .i64 0, .int .i64 0, .int .i64 0, .int .i64 0, .int .i64 0, .int .i64 0, .int .i64 0, .slice none 0 0, .slice none 0 0, .string ⟨#[]⟩, .string ⟨#[]⟩] 38) = w2 := ⟨_, rfl⟩
  have hb2 : Below w.heap.size w w2 := by rw [← hw2]; exact (Below.refl _ w).alloc (Nat.le_refl _) _
  have q6 : w2.heap[w.heap.size]? = some (.cells (mC (Mg.zero 0) (.slice none 0 0) (.slice none 0 0)) 38 (0, 0)) := by rw [← hw2]; exact World.alloc_heap_new _ _
  have HW2 := Lib.hid hw2
  have HB2 := Lib.hid hb2
  have HQ6 := Lib.hid q6
  have HZ : Hid (∀ W E, Below w.heap.size w W → DecR w (E, Mg.zero 0) (.returned (.tuple #[.agg (mC (Mg.zero 0) (.slice none 0 0) (.slice none 0 0)), .int .i64 (E : Int)])) W) := Lib.hid fun W E hW => ⟨_, rfl, ⟨.slice none 0 0, .slice none 0 0, rfl, ⟨none, 0, rfl, Nat.le_refl _, Nums.nil⟩, ⟨none, 0, rfl, Nat.le_refl _, Nums.nil⟩⟩, hW⟩
  have hfl := FDv_flds k 2
  have HX1 := Lib.hid (show ∀ f ∈ FD k, f.so = 1 → 0 ≤ f.mo from FD_mo1 k)
  obtain ⟨R, hR⟩ : ∃ R, rdL (FDv k 2) (Mg.zero k) zs = R := ⟨_, rfl⟩
  obtain ⟨D, hD⟩ : ∃ D, bdec k 2 zs = D := ⟨_, rfl⟩
  have hbd : D = if R.1 ≠ 0 then (R.1, Mg.zero 0) else if R.2.1 < len then (3, Mg.zero 0) else (0, mproj R.2.2 2) := by
    rw [← hD]
    unfold bdec
    rw [if_neg (by omega), if_neg hk, hR, hlen]
  rw [hD]
  unfold FDv at hfl hR
  have K2 := Lib.hid (rall_any k)
  have h6 := FD_few k
  obtain ⟨L, hL⟩ : ∃ L, FD k = L := ⟨_, rfl⟩
  rw [hL] at hfl hR hk HX1 h6
  have HL := Lib.hid hL
  obtain ⟨n, hn⟩ : ∃ n, L.length = n := ⟨_, rfl⟩
  have hn0 : ¬ (n : Int) = 0 := fun h => hk (List.eq_nil_of_length_eq_zero (by omega))
  have h66 : n ≤ 6 := by omega
  have HN := Lib.hid hn
  have HFL := Lib.hid hfl
  have HRL := Lib.hid hR
  have HBD := Lib.hid hbd
  have HLEN := Lib.hid hlen
  have HBY := Lib.hid hby
  have HA := Lib.hid hA
  clear h6 hw2 hb2 q6 hfl hR hD hbd hL hn hk hlen hby hA
  go_enter Tryz.func40, Tryz.ntmps40
  go_wp2_with fail
  rw [HW2.out]
  refine (K2.out w2).mono ?_
  rintro e w4 ⟨Ad, c, rfl, hcap8, hrow, hb4⟩
  rw [HL.out] at hcap8 hrow ⊢
  rw [HN.out] at hcap8 ⊢
  have hs2 := HB2.out.size
  have hs6 := (Array.getElem?_eq_some_iff.1 HQ6.out).1
  have HB4 := Lib.hid (HB2.out.trans (hb4.mono hs2))
  have HR := Lib.hid hrow
  have hs4 := hb4.size
  have q64 := (hb4.block _ hs6).trans HQ6.out
  obtain ⟨w5, hw5⟩ : ∃ w5, w4.alloc (.cells #[.int .i64 0, .int .i64 0, .int .i64 0, .int .i64 0, .int .i64 0, .int .i64 0, .int .i64 0, .slice none 0 0, .slice none 0 0, .string ⟨#[]⟩, .string ⟨#[]⟩] 38) = w5 := ⟨_, rfl⟩
  have hb5 : Below w4.heap.size w4 w5 := by rw [← hw5]; exact (Below.refl _ w4).alloc (Nat.le_refl _) _
  have q5 : w5.heap[w4.heap.size]? = some (.cells (mC (Mg.zero 0) (.slice none 0 0) (.slice none 0 0)) 38 (0, 0)) := by rw [← hw5]; exact World.alloc_heap_new _ _
  have hst5 := rm_store w5 w4.heap.size _ (mC (Mg.zero k) (.slice none 0 0) (.slice none 0 0)) q5 rfl rfl (mg_one _ _ _ _ _ _ _)
  have q96 := setRow_heap w5 _ _ (mC (Mg.zero k) (.slice none 0 0) (.slice none 0 0)) _ _ q5
  have hof5 := Off.setRow (S := fun q => q = w4.heap.size) (Off.refl _ w5) rfl (mC (Mg.zero k) (.slice none 0 0) (.slice none 0 0))
  obtain ⟨w6, hw6⟩ : ∃ w6, w5.setRow w4.heap.size (mC (Mg.zero k) (.slice none 0 0) (.slice none 0 0)) = w6 := ⟨_, rfl⟩
  rw [hw6] at hst5 q96 hof5
  have hb46 : Below w4.heap.size w4 w6 := hb5.trans (hof5.below (B := w4.heap.size) (fun q hq => by omega) hb5.size)
  have q66 := (hb46.block _ (by omega)).trans q64
  have HI0 : Hid (RdI w4 w.heap.size w4.heap.size zs L k 2 (Mg.zero k) (.slice none 0 0) (.slice none 0 0) 0 0 w6) := Lib.hid ⟨q96, q66, ⟨⟨none, 0, rfl, Nat.le_refl _, Nums.nil⟩, ⟨none, 0, rfl, Nat.le_refl _, Nums.nil⟩⟩, ⟨fun _ _ => ⟨fun _ _ _ _ h => absurd rfl h, fun _ _ _ _ h => absurd rfl h⟩, fun _ _ _ _ h => absurd rfl h, fun _ _ _ _ h => absurd rfl h⟩, hb46, ⟨by simp [Mg.zero], by simp [Mg.zero], by show (ByteArray.mk #[]).size ≤ 80; decide, by show (ByteArray.mk #[]).size ≤ 80; decide⟩, by rw [List.drop_zero]; exact HFL.out, by simp⟩
  have HW5 := Lib.hid hw5
  have HST5 := Lib.hid hst5
  have hcap' : (n : Int) ≤ (c : Int) := by omega
  clear hrow hb4 hw5 hb5 q5 hst5 q96 hof5 hw6 hb46 q66 q64 K2 HFL HQ6
  go_wp2_with (rw [HW5.out]; refine wpList_store_run rfl 38 (.tmp 9) (.tmp 29) rfl (some ⟨w4.heap.size, 0, none⟩) rfl (.agg (mC (Mg.zero k) (.slice none 0 0) (.slice none 0 0))) rfl HST5.out ?_)
  go_loopw [10, 11, 12, 13, 14] (fun av iv _ _ _ wr => ∃ (j p : Nat) (N : Mg) (P C : Value), j ≤ n ∧ iv = .int .i64 (j : Int) ∧ av = .int .i64 (p : Int) ∧ p ≤ len ∧ Hid (RdI w4 w.heap.size w4.heap.size zs L k 2 N P C j p wr)) (fun _ iv _ _ _ _ => n - (intOf iv).toNat)
  case atStart => exact ⟨0, 0, _, _, _, by omega, rfl, rfl, by omega, HI0⟩
  case round =>
    obtain ⟨j, p, N, P, C, hj, rfl, rfl, hp, HI⟩ := hrel
    clear HI0
    have hi := HI.out
    unfold RdI at hi
    obtain ⟨i1, i2, i3, i4, i5, i6, i7, i8⟩ := hi
    have hsw := i5.size
    have hbw := HB4.out.trans (i5.mono HB4.out.size)
    rcases Nat.lt_or_ge j n with hlt | hge
    · obtain ⟨f, hf⟩ : ∃ f, L[j]? = some f := ⟨_, List.getElem?_eq_getElem (by rw [HN.out]; exact hlt)⟩
      obtain ⟨gr, rfl, hg1, hg2, e0, e1, e2, e3, e4, e5, e6⟩ := (FdsIn.up HR.out i5).seven hf
      have hj2 : (j : Int) < (n : Int) := by omega
      have hd : L.drop j = f :: L.drop (j + 1) := by
        obtain ⟨hlt, he⟩ := List.getElem?_eq_some_iff.1 hf
        rw [List.drop_eq_getElem_cons hlt, he]
      rw [hd] at i7 i8
      by_cases hsi : f.si ≤ 2
      · rw [List.filter_cons_of_pos (by simpa using hsi)] at i7 i8
        have hfx := i7.fdx f (List.mem_cons_self ..)
        have hst := rdL_step f ((L.drop (j + 1)).filter fun f => decide (f.si ≤ 2)) N (zs.drop p)
        have hok : ∀ u N', rdF N f (zs.drop p) = (0, u, N') → u ≤ (zs.drop p).length ∧ fE N' f = 0 ∧ N' = cp N N' f := fun u N' h => by
          have := rdFld_ok hfx (HBY.out.drop p) (i7.p f (List.mem_cons_self ..)) (i7.c f (List.mem_cons_self ..)) h
          exact ⟨this.1, this.2.2⟩
        have KF : Hid (∀ W, Below wr.heap.size wr W → Calls Tryz.prog 63 #[.agg (mC N P C), .agg #[.string f.nm, .int .i64 f.so, .int .i64 f.pl, .int .i64 f.le, .int .i64 f.mo, .int .i64 f.si, .int .i64 f.ab], .slice A len cap, .int .i64 (p : Int)] W fun e w' => RdS (fun q => q = w4.heap.size ∨ q = w.heap.size) W (rdF N f (zs.drop p)) p e w') := Lib.hid fun W hW => by
          have hsW := hW.size
          exact rfield_any (fun q => q = w4.heap.size ∨ q = w.heap.size) N f P C A len cap zs p W hfx (HX1.out f (List.mem_of_getElem? hf)) i6 (fun x hx => by have := (Array.getElem?_eq_some_iff.1 i1).1; omega) HLEN.out hll hcap HBY.out (((HA.out.below hbw).mono hbw.size).below hW |>.mono hW.size) hp (i3.later hW) (i4.later hW)
        obtain ⟨⟨E, u, N'⟩, hrd⟩ : ∃ r, rdF N f (zs.drop p) = r := ⟨_, rfl⟩
        rw [hrd] at KF hst hok
        simp only at hst
        rw [hst] at i8
        have LM : ∀ W, Below wr.heap.size wr W → (Instr.loadAt 38 (.pointer (some ⟨w4.heap.size, 0, none⟩))).run Tryz.prog W = .ok (.agg (mC N P C)) W := fun W hW => mr_look ((hW.block _ (Array.getElem?_eq_some_iff.1 i1).1).trans i1)
        have LG : ∀ W, Below wr.heap.size wr W → (Instr.loadAt 81 (.pointer (some ⟨gr, j * 7, none⟩))).run Tryz.prog W = .ok (.agg #[.string f.nm, .int .i64 f.so, .int .i64 f.pl, .int .i64 f.le, .int .i64 f.mo, .int .i64 f.si, .int .i64 f.ab]) W := fun W hW => by
          have t0 := (hW.cell (p := ⟨gr, j * 7, none⟩) hg2).trans e0
          have t1 := (hW.cell (p := ⟨gr, j * 7 + 1, none⟩) hg2).trans e1
          have t2 := (hW.cell (p := ⟨gr, j * 7 + 2, none⟩) hg2).trans e2
          have t3 := (hW.cell (p := ⟨gr, j * 7 + 3, none⟩) hg2).trans e3
          have t4 := (hW.cell (p := ⟨gr, j * 7 + 4, none⟩) hg2).trans e4
          have t5 := (hW.cell (p := ⟨gr, j * 7 + 5, none⟩) hg2).trans e5
          have t6 := (hW.cell (p := ⟨gr, j * 7 + 6, none⟩) hg2).trans e6
          simp [Instr.loadAt, go_sem, t0, t1, t2, t3, t4, t5, t6]
        have I1 := Lib.hid i1
        have I2 := Lib.hid i2
        have I5 := Lib.hid i5
        have I6 := Lib.hid i6
        have I7 := Lib.hid i7
        have I8 := Lib.hid i8
        have HOK := Lib.hid hok
        have HFX := Lib.hid hfx
        have HBW := Lib.hid hbw
        have h9l := (Array.getElem?_eq_some_iff.1 i1).1
        clear hst hok hrd hd hf hfx i1 i2 i3 i4 i5 i6 i7 i8 e0 e1 e2 e3 e4 e6 HI hbw
        go_wp2_with fail
        refine wp_region_FTL 69 13 6 [10, 11] [51, 43, 52, 53, 12] (F12 (fun q => q = w4.heap.size ∨ q = w.heap.size) wr.heap.size E N' ((p + u : Nat) : Int)) (fun W => Below wr.heap.size wr W) (by kernel_rfl) (by kernel_rfl) (by rfl) (by kernel_rfl) (by kernel_rfl) (by kernel_rfl) (by rfl) (by simp) (fun W W' h hb => h.trans (hb.mono h.size)) (fun q x W W' h hb => h.later hb) (Below.refl _ _).drew ?_
        simp only [List.take_succ_cons, List.take_zero, List.drop_succ_cons, List.drop_zero]
        refine wpF_load (ad := ⟨w4.heap.size, 0, none⟩) (.agg (mC N P C)) rfl (by rfl) (by rfl) (by rfl) LM ?_
        simp only [Act.put, List.setIfInBounds_toArray, List.set_cons_succ, List.set_cons_zero]
        repeat (refine wpF_pure rfl rfl ?_; go_big_quiet_step (fail); refine wpQuiet_nil ?_)
        refine wpF_load (ad := ⟨gr, j * 7, none⟩) (.agg #[.string f.nm, .int .i64 f.so, .int .i64 f.pl, .int .i64 f.le, .int .i64 f.mo, .int .i64 f.si, .int .i64 f.ab]) rfl (by rfl) (by rfl) (by rfl) LG ?_
        simp only [Act.put, List.setIfInBounds_toArray, List.set_cons_succ, List.set_cons_zero]
        repeat (refine wpF_pure rfl rfl ?_; go_big_quiet_step (fail); refine wpQuiet_nil ?_)
        refine wpF_callsrc 51 (f := 63) (args := #[.agg (mC N P C), .agg #[.string f.nm, .int .i64 f.so, .int .i64 f.pl, .int .i64 f.le, .int .i64 f.mo, .int .i64 f.si, .int .i64 f.ab], .slice A len cap, .int .i64 (p : Int)]) (by simp) rfl rfl rfl (fun x => by first | rfl | (simp [go_sem]; done)) (fun W hW => (KF.out W hW).mono fun e w' h => by
          obtain ⟨M', P', C', a', e, h1, h2, h3, h4⟩ := h
          exact ⟨_, e, ⟨M', P', C', a', rfl, h1, h3, h4⟩, h2⟩) ?_
        simp only [Act.put, List.setIfInBounds_toArray, List.set_cons_succ, List.set_cons_zero]
        refine wpF_mix 43 [51] (by simp) rfl (by kernel_rfl) (by kernel_rfl) (fun xs => by rfl) (fun xs V hV hx => ⟨xs 51, V, by simp [execOp, fill, Act.put, Act.eval, go_sem], hx 51 (by simp), Below.refl _ _⟩) ?_
        simp only [Act.put, List.setIfInBounds_toArray, List.set_cons_succ, List.set_cons_zero]
        refine wpF_mix 52 [43] (by simp) rfl (by kernel_rfl) (by kernel_rfl) (fun xs => by rfl) (fun xs V hV hx => ?_) ?_
        · obtain ⟨M', P', C', a', e, h1, h3, h4⟩ := hx 43 (by simp)
          exact ⟨mV M' P' C', V, by simp [execOp, fill, Act.put, Act.eval, e, go_sem], ⟨M', P', C', rfl, h1, h3, fun h => (h4 h).1⟩, Below.refl _ _⟩
        simp only [Act.put, List.setIfInBounds_toArray, List.set_cons_succ, List.set_cons_zero]
        refine wpF_mix 53 [43] (by simp) rfl (by kernel_rfl) (by kernel_rfl) (fun xs => by rfl) (fun xs V hV hx => ?_) ?_
        · obtain ⟨M', P', C', a', e, h1, h3, h4⟩ := hx 43 (by simp)
          exact ⟨.int .i64 a', V, by simp [execOp, fill, Act.put, Act.eval, e, go_sem], ⟨a', rfl, fun h => (h4 h).2⟩, Below.refl _ _⟩
        simp only [Act.put, List.setIfInBounds_toArray, List.set_cons_succ, List.set_cons_zero]
        refine wpF_useval 43 8 (.int .i64 (E : Int)) (by simp) (by rfl) (by kernel_rfl) (by kernel_rfl) (by rfl) (fun x => by rfl) (fun x V hV hx => ?_) ?_
        · obtain ⟨M', P', C', a', e, h1, h3, h4⟩ := hx
          simp [execOp, Act.put, Act.eval, e, go_sem]
        simp only [Act.put, List.setIfInBounds_toArray, List.set_cons_succ, List.set_cons_zero]
        refine wpF_src 12 (by simp) rfl (by kernel_rfl) (by kernel_rfl) (fun V hV => ⟨.pointer (some ⟨V.heap.size, 0, none⟩), V.alloc (.cells #[.int .i64 0, .int .i64 0, .int .i64 0, .int .i64 0, .int .i64 0, .int .i64 0, .int .i64 0, .slice none 0 0, .slice none 0 0, .string ⟨#[]⟩, .string ⟨#[]⟩] 38), ?_, ⟨_, rfl, hV.size, World.alloc_heap_new _ _⟩, (Below.refl _ _).alloc (Nat.le_refl _) _⟩) ?_
        · have hzz : (zeroValue 38).run Tryz.prog V = .ok (.agg #[.int .i64 0, .int .i64 0, .int .i64 0, .int .i64 0, .int .i64 0, .int .i64 0, .int .i64 0, .slice none 0 0, .slice none 0 0, .string ⟨#[]⟩, .string ⟨#[]⟩]) V := by kernel_rfl
          simp [execOp, go_sem, hzz]
          try rfl
        simp only [Act.put, List.setIfInBounds_toArray, List.set_cons_succ, List.set_cons_zero]
        intro xs w7 hV hx
        obtain ⟨g12, e12, hg12, hc12⟩ := hx 12 (by simp)
        obtain ⟨M', P', C', e52, hm7, hs7, ho7⟩ := hx 52 (by simp)
        obtain ⟨a', e53, ha7⟩ := hx 53 (by simp)
        simp only [fill, Act.put, List.setIfInBounds_toArray, List.set_cons_succ, List.set_cons_zero]
        rw [e12, e52, e53]
        generalize xs 51 = x51
        generalize xs 43 = x43
        clear hx
        unfold mV
        obtain ⟨w8, hst8, q8, hm8, hof8, hs8⟩ := back_store (S := fun q => q = w4.heap.size ∨ q = w.heap.size) hc12 rfl hm7 (hs7.box hm7 hc12) (.inr rfl) (fun x hx => .inl hx)
        have h9g : g12 ≠ w4.heap.size := by omega
        have h6g : g12 ≠ w.heap.size := by omega
        have hb8 : Below wr.heap.size wr w8 := hV.trans (hof8.below (B := wr.heap.size) (fun q hq => by omega) hV.size)
        have q98 := (hb8.block _ h9l).trans I1.out
        have q68 := (hb8.block _ (by omega)).trans I2.out
        have HST8 := Lib.hid hst8
        have Q8 := Lib.hid q8
        have HM8 := Lib.hid hm8
        have HS8 := Lib.hid hs8
        have HB8 := Lib.hid hb8
        have Q98 := Lib.hid q98
        have Q68 := Lib.hid q68
        clear hst8 q8 hm8 hof8 hs8 hb8 q98 q68 hm7 hs7 e12 e52 e53 hc12 LM LG KF hV I1 I2
        refine wpList_store_run rfl 38 (.tmp 12) (.tmp 52) rfl (some ⟨g12, 0, none⟩) rfl (.agg (mC M' P' C')) rfl HST8.out ?_
        refine wpList_val rfl (.int .i64 a') (fun W => by simp [execOp, Act.put, Act.eval, go_sem]) ?_
        simp only [Act.put, List.setIfInBounds_toArray, List.set_cons_succ, List.set_cons_zero]
        refine wpList_val rfl (.int .i64 (E : Int)) (fun W => by simp [execOp, Act.eval, go_sem]) ?_
        simp only [Act.put, List.setIfInBounds_toArray, List.set_cons_succ, List.set_cons_zero]
        refine ⟨rfl, ?_⟩
        simp only [Exit.then]
        have hbw8 := HBW.out.trans (HB8.out.mono HBW.out.size)
        by_cases hE : E = 0
        · subst hE
          obtain rfl := ho7 rfl
          obtain rfl := ha7 rfl
          obtain ⟨o1, o2, o3⟩ := HOK.out u M' rfl
          have h8 := I8.out
          rw [if_neg (by simp)] at h8
          obtain ⟨w9, hst9, q9, hm9, hof9, hs9⟩ := back_store (S := fun q => q = w4.heap.size ∨ q = w.heap.size) Q98.out rfl HM8.out HS8.out (.inl rfl) (fun x hx => hx)
          have hb9 : Below w4.heap.size w4 w9 := (I5.out.trans (HB8.out.mono hsw)).trans (hof9.below (B := w4.heap.size) (fun q hq => by omega) (by have := HB8.out.size; omega))
          have q69 := (hof9.block _ (Array.getElem?_eq_some_iff.1 Q68.out).1 (by omega)).trans Q68.out
          have hlz : (zs.drop p).length = len - p := by rw [List.length_drop, HLEN.out]
          have HI9 : Hid (RdI w4 w.heap.size w4.heap.size zs L k 2 M' P' C' (j + 1) (p + u) w9) := Lib.hid ⟨q9, q69, hm9, hs9, hb9, rdF_small HFX.out o2 o3 I6.out, by rw [o3]; exact I7.out.next M', by rw [h8, List.drop_drop, Nat.add_assoc]⟩
          have HST9 := Lib.hid hst9
          have LD := Lib.hid (mr_look Q8.out)
          have hp2 : p + u ≤ len := by omega
          clear hst9 q9 hm9 hof9 hs9 hb9 q69 h8 o1 o2 o3 hlz hbw8 ho7 ha7
          go_wp2_with (first | refine wpList_load_run rfl 38 (.tmp 12) rfl (some ⟨g12, 0, none⟩) rfl (.agg (mC M' P' C')) LD.out ?_ | refine wpList_store_run rfl 38 (.tmp 9) (.tmp 59) rfl (some ⟨w4.heap.size, 0, none⟩) rfl (.agg (mC M' P' C')) rfl HST9.out ?_)
          go_roundw
          case rel => exact ⟨j + 1, p + u, M', P', C', by omega, by go_num, by go_num, hp2, HI9⟩
          case measure => simp [intOf]; omega
        · have h8 := I8.out
          rw [if_pos hE] at h8
          have hD : D = (E, Mg.zero 0) := by
            rw [HBD.out, ← HRL.out, h8]
            simp only
            rw [if_pos hE]
          have HDD := Lib.hid hD
          have hE' : ¬ (E : Int) = 0 := by omega
          clear h8 hD
          have q6 := Q68.out
          have hst6 := rm_store w8 w.heap.size _ (mC (Mg.zero 0) (.slice none 0 0) (.slice none 0 0)) q6 rfl rfl (mg_one _ _ _ _ _ _ _)
          have q66 := setRow_heap w8 _ _ (mC (Mg.zero 0) (.slice none 0 0) (.slice none 0 0)) _ _ q6
          have hof6 := Off.setRow (S := fun q => q = w.heap.size) (Off.refl _ w8) rfl (mC (Mg.zero 0) (.slice none 0 0) (.slice none 0 0))
          obtain ⟨w66, hw66⟩ : ∃ w66, w8.setRow w.heap.size (mC (Mg.zero 0) (.slice none 0 0) (.slice none 0 0)) = w66 := ⟨_, rfl⟩
          rw [hw66] at hst6 q66 hof6
          have HST6 := Lib.hid hst6
          have HQ66 := Lib.hid q66
          have HF := Lib.hid (HZ.out w66 E (hbw8.trans (hof6.below (B := w.heap.size) (fun q hq => by omega) hbw8.size)))
          clear hst6 q66 hof6 hw66
          go_wp2_with (refine wpList_store_run rfl 38 (.tmp 6) (.tmp 57) rfl (some ⟨w.heap.size, 0, none⟩) rfl (.agg (mC (Mg.zero 0) (.slice none 0 0) (.slice none 0 0))) rfl HST6.out ?_)
          obtain ⟨y0, y1, y2, y3, y4, y5, y6, y7, y8, y9, y10⟩ := mg_block HQ66.out
          refine bodyPost_ret (v := .tuple #[.agg (mC (Mg.zero 0) (.slice none 0 0) (.slice none 0 0)), .int .i64 (E : Int)]) (by simp [results, Tryz.results40, go_sem, y0, y1, y2, y3, y4, y5, y6, y7, y8, y9, y10, mC]) rfl ?_
          rw [HDD.out]
          exact HF.out
      · rw [List.filter_cons_of_neg (by simpa using hsi)] at i7 i8
        have HI9 : Hid (RdI w4 w.heap.size w4.heap.size zs L k 2 N P C (j + 1) p wr) := Lib.hid ⟨i1, i2, i3, i4, i5, i6, i7, i8⟩
        have hsi2 : (2 : Int) < f.si := by omega
        clear i1 i2 i3 i4 i5 i6 i7 i8 hd hf HI e0 e1 e2 e3 e4 e6 hbw
        go_wp2_with fail
        go_roundw
        case rel => exact ⟨j + 1, p, N, P, C, by omega, by go_num, rfl, hp, HI9⟩
        case measure => simp [intOf]; omega
    · obtain rfl : j = n := by omega
      rw [List.drop_eq_nil_of_le (by rw [HN.out]; exact Nat.le_refl _)] at i8
      have hR : R = (0, p, N) := by rw [← HRL.out, i8]; rfl
      have hbd := HBD.out
      rw [hR] at hbd
      simp only [ne_eq, not_true_eq_false, if_false] at hbd
      by_cases hpl : p < len
      · rw [if_pos hpl] at hbd
        have HDD := Lib.hid hbd
        have hpl2 : (p : Int) < (len : Int) := by omega
        have q6 := i2
        clear hbd hR i1 i3 i4 i6 i7 i8 HI
        have hst6 := rm_store wr w.heap.size _ (mC (Mg.zero 0) (.slice none 0 0) (.slice none 0 0)) q6 rfl rfl (mg_one _ _ _ _ _ _ _)
        have q66 := setRow_heap wr _ _ (mC (Mg.zero 0) (.slice none 0 0) (.slice none 0 0)) _ _ q6
        have hof6 := Off.setRow (S := fun q => q = w.heap.size) (Off.refl _ wr) rfl (mC (Mg.zero 0) (.slice none 0 0) (.slice none 0 0))
        obtain ⟨w66, hw66⟩ : ∃ w66, wr.setRow w.heap.size (mC (Mg.zero 0) (.slice none 0 0) (.slice none 0 0)) = w66 := ⟨_, rfl⟩
        rw [hw66] at hst6 q66 hof6
        have HST6 := Lib.hid hst6
        have HQ66 := Lib.hid q66
        have HF := Lib.hid (HZ.out w66 3 (hbw.trans (hof6.below (B := w.heap.size) (fun q hq => by omega) hbw.size)))
        clear hst6 q66 hof6 hw66
        go_wp2_with (refine wpList_store_run rfl 38 (.tmp 6) (.tmp 65) rfl (some ⟨w.heap.size, 0, none⟩) rfl (.agg (mC (Mg.zero 0) (.slice none 0 0) (.slice none 0 0))) rfl HST6.out ?_)
        obtain ⟨y0, y1, y2, y3, y4, y5, y6, y7, y8, y9, y10⟩ := mg_block HQ66.out
        refine bodyPost_ret (v := .tuple #[.agg (mC (Mg.zero 0) (.slice none 0 0) (.slice none 0 0)), .int .i64 3]) (by simp [results, Tryz.results40, go_sem, y0, y1, y2, y3, y4, y5, y6, y7, y8, y9, y10, mC]) rfl ?_
        rw [HDD.out]
        exact HF.out
      · rw [if_neg hpl] at hbd
        have HDD := Lib.hid hbd
        have hpl2 : ¬ (p : Int) < (len : Int) := by omega
        obtain ⟨⟨pa, pc, rfl, pl, pn⟩, ⟨ca, cc, rfl, cl, cn⟩⟩ := i3
        have KP := Lib.hid (rmproject_any N pa ca N.p.length N.c.length pc cc 2 wr)
        have LD := Lib.hid (mr_look i1)
        have I2 := Lib.hid i2
        have I4 := Lib.hid i4
        have HMN : Hid (MAt wr wr.heap.size N (.slice pa N.p.length pc) (.slice ca N.c.length cc)) := Lib.hid ⟨⟨pa, pc, rfl, pl, pn⟩, ⟨ca, cc, rfl, cl, cn⟩⟩
        have HBW := Lib.hid hbw
        clear hbd hR i1 i2 i4 i6 i7 i8 HI pn cn hbw pl cl
        go_wp2_with (refine wpList_load_run rfl 38 (.tmp 9) rfl (some ⟨w4.heap.size, 0, none⟩) rfl (.agg (mC N (.slice pa N.p.length pc) (.slice ca N.c.length cc))) LD.out ?_)
        refine KP.out.mono ?_
        rintro e w7 ⟨rfl, hb7⟩
        have hpp : (mproj N 2).p = N.p := mproj_p N 2
        have hpc : (mproj N 2).c = N.c := mproj_c N 2
        have hm7 : MAt w7 w7.heap.size (mproj N 2) (.slice pa N.p.length pc) (.slice ca N.c.length cc) := by
          have := HMN.out.later hb7
          exact ⟨by rw [hpp]; exact this.p, by rw [hpc]; exact this.c⟩
        have hs7 : Shun (fun q => q = w4.heap.size ∨ q = w.heap.size) w7 (mproj N 2) (.slice pa N.p.length pc) (.slice ca N.c.length cc) := by
          have := I4.out.later hb7
          unfold Shun at *
          rw [hpp, hpc]
          exact this
        have q67 := (hb7.block _ (Array.getElem?_eq_some_iff.1 I2.out).1).trans I2.out
        obtain ⟨w8, hst8, q8, hm8, hof8, -⟩ := back_store (S := fun q => q = w4.heap.size ∨ q = w.heap.size) q67 rfl hm7 hs7 (.inr rfl) (fun x hx => hx)
        have hb78 : Below w.heap.size w w8 := (HBW.out.trans (hb7.mono HBW.out.size)).trans (hof8.below (B := w.heap.size) (fun q hq => by omega) (by have := hb7.size; have := HBW.out.size; omega))
        have HF : Hid (DecR w (0, mproj N 2) (.returned (.tuple #[.agg (mC (mproj N 2) (.slice pa N.p.length pc) (.slice ca N.c.length cc)), .int .i64 0])) w8) := Lib.hid ⟨_, rfl, ⟨_, _, rfl, hm8⟩, hb78⟩
        have HST8 := Lib.hid hst8
        have Q8 := Lib.hid q8
        clear hpp hpc hm7 hs7 q67 hst8 q8 hm8 hof8 hb78 hb7 KP I2 I4 HMN LD
        unfold mV
        go_wp2_with (refine wpList_store_run rfl 38 (.tmp 6) (.tmp 68) rfl (some ⟨w.heap.size, 0, none⟩) rfl (.agg (mC (mproj N 2) (.slice pa N.p.length pc) (.slice ca N.c.length cc))) rfl HST8.out ?_)
        obtain ⟨y0, y1, y2, y3, y4, y5, y6, y7, y8, y9, y10⟩ := mg_block Q8.out
        refine bodyPost_ret (v := .tuple #[.agg (mC (mproj N 2) (.slice pa N.p.length pc) (.slice ca N.c.length cc)), .int .i64 0]) (by simp [results, Tryz.results40, go_sem, y0, y1, y2, y3, y4, y5, y6, y7, y8, y9, y10, mC]) rfl ?_
        rw [HDD.out]
        exact HF.out
end Go.Proofs.YtlbfibnfmijahaaGreat

namespace Go.Proofs.YtlbfibnfmijahaaGreat
open Go.RowKit Go.Shelf
set_option maxRecDepth 100000

theorem rdecode_any (k v : Int) (A : Option Addr) (len cap : Nat) (zs : List Int) (w : World) (hlen : zs.length = len) (hll : len ≤ 1000000) (hcap : len ≤ cap) (hby : Bys zs) (hA : Nums .u8 w w.heap.size A zs) : Calls Tryz.prog 40 #[.int .i64 k, .int .i64 v, .slice A len cap] w fun e w' => DecR w (bdec k v zs) e w' := by
  by_cases hE : (v ≠ 1 ∧ v ≠ 2) ∨ FD k = []
  · exact rdecode_no k v A len cap zs w hE
  · have hk : FD k ≠ [] := fun h => hE (.inr h)
    have hv : v = 1 ∨ v = 2 := by
      by_cases h : v ≠ 1 ∧ v ≠ 2
      · exact absurd (.inl h) hE
      · omega
    rcases hv with rfl | rfl
    · exact rdecode_1 k A len cap zs w hlen hll hcap hby hA hk
    · exact rdecode_2 k A len cap zs w hlen hll hcap hby hA hk
end Go.Proofs.YtlbfibnfmijahaaGreat

namespace Go.Proofs.YtlbfibnfmijahaaGreat
open Go.RowKit Go.Shelf
set_option maxRecDepth 100000
attribute [local go_sem] Oper.semAt_some

/-- a right message isn't large -/
theorem mck_small {M : Mg} (h : mck M = 0) : Msm M := by
  rw [mck_zero] at h
  obtain ⟨-, h2, h3⟩ := h
  rw [rest_iff] at h3
  obtain ⟨-, p, c, tx, tg⟩ := h3
  have key : ∀ q : Int, isS (FD M.k) q = true → ∃ f ∈ FD M.k, f.so = q := fun q h => by
    unfold isS at h
    rw [List.any_eq_true] at h
    obtain ⟨f, hf, h⟩ := h
    exact ⟨f, hf, by simpa using h⟩
  constructor
  · cases he : isS (FD M.k) 3
    · rw [p he]; simp
    · obtain ⟨f, hf, hs⟩ := key 3 he
      have h4 := h2 f hf
      have hm := (FD_fdx M.k f hf).mo.1 hs
      unfold fE at h4
      rw [if_pos hs] at h4
      have := (wP_zero h4).2.1
      omega
  · cases he : isS (FD M.k) 4
    · rw [c he]; simp
    · obtain ⟨f, hf, hs⟩ := key 4 he
      have h4 := h2 f hf
      have hm := (FD_fdx M.k f hf).mo.2.1 hs
      unfold fE at h4
      rw [if_neg (by omega), if_pos hs] at h4
      have := (wC_zero h4).2.1
      omega
  · cases he : isS (FD M.k) 5
    · rw [tx he]; decide
    · obtain ⟨f, hf, hs⟩ := key 5 he
      have h4 := h2 f hf
      have hm := (FD_fdx M.k f hf).mo.2.2.1 hs
      unfold fE at h4
      rw [if_neg (by omega), if_neg (by omega), if_pos hs] at h4
      have := (wT_zero h4).1
      omega
  · cases he : isS (FD M.k) 6
    · rw [tg he]; decide
    · obtain ⟨f, hf, hs⟩ := key 6 he
      have h4 := h2 f hf
      have hm := (FD_fdx M.k f hf).mo.2.2.2 hs
      unfold fE at h4
      rw [if_neg (by omega), if_neg (by omega), if_neg (by omega), if_pos hs] at h4
      have := (wT_zero h4).1
      omega
theorem bdec_small {k v : Int} {l : List Int} (hl : Bys l) : Msm (bdec k v l).2 := by
  by_cases h : (bdec k v l).1 = 0
  · obtain ⟨_, _, h2, _⟩ := bdec_ok (m := (bdec k v l).2) hl (by rw [← h])
    exact mck_small h2
  · have h0 : (bdec k v l).2 = Mg.zero 0 := by
      unfold bdec at h ⊢
      repeat' split
      all_goals first | rfl | (exfalso; apply h; rename_i h1 h2 h3 h4; rw [if_neg h1, if_neg h2, if_neg h3, if_neg h4])
    rw [h0]
    exact ⟨by simp [Mg.zero], by simp [Mg.zero], by show (ByteArray.mk #[]).size ≤ 80; decide, by show (ByteArray.mk #[]).size ≤ 80; decide⟩
/-- a message of the document's is stored into a new box -/
theorem new_rmsg (W : World) {w : World} {B : Nat} {M : Mg} {P C : Value} (h : MAt w B M P C) : ∃ W2, (Instr.storeAt 38 (.pointer (some ⟨W.heap.size, 0, none⟩)) (.agg (mC M P C))).run Tryz.prog (W.alloc (.cells #[.int .i64 0, .int .i64 0, .int .i64 0, .int .i64 0, .int .i64 0, .int .i64 0, .int .i64 0, .slice none 0 0, .slice none 0 0, .string ⟨#[]⟩, .string ⟨#[]⟩] 38)) = .ok () W2 ∧
    W2.heap[W.heap.size]? = some (.cells (mC M P C) 38 (0, 0)) ∧ Below W.heap.size W W2 := by
  have r := World.alloc_heap_new W (.cells #[.int .i64 0, .int .i64 0, .int .i64 0, .int .i64 0, .int .i64 0, .int .i64 0, .int .i64 0, .slice none 0 0, .slice none 0 0, .string ⟨#[]⟩, .string ⟨#[]⟩] 38)
  have hb : Below W.heap.size W (W.alloc (.cells #[.int .i64 0, .int .i64 0, .int .i64 0, .int .i64 0, .int .i64 0, .int .i64 0, .int .i64 0, .slice none 0 0, .slice none 0 0, .string ⟨#[]⟩, .string ⟨#[]⟩] 38)) := (Below.refl _ W).alloc (Nat.le_refl _) _
  have hoff := Off.setRow (S := fun k => k = W.heap.size) (Off.refl _ (W.alloc (.cells #[.int .i64 0, .int .i64 0, .int .i64 0, .int .i64 0, .int .i64 0, .int .i64 0, .int .i64 0, .slice none 0 0, .slice none 0 0, .string ⟨#[]⟩, .string ⟨#[]⟩] 38))) rfl (mC M P C)
  exact ⟨_, rm_store _ _ _ (mC M P C) r rfl rfl (mg_oneV h), setRow_heap _ _ _ _ _ _ r, hb.trans (hoff.below (B := W.heap.size) (fun k hk => by omega) hb.size)⟩
end Go.Proofs.YtlbfibnfmijahaaGreat

namespace Go.Proofs.YtlbfibnfmijahaaGreat
open Go.RowKit Go.Shelf
set_option maxRecDepth 100000
attribute [local go_sem] Oper.semAt_some

/-- what Pack answers -/
def PackR (w : World) (M : Mg) (v : Int) (e : Ending) (w' : World) : Prop := ∃ x, e = .returned (.tuple #[.int .i64 (if (benc M v).2 = 0 then M.k else 0), x, .int .i64 (benc M v).2]) ∧ Made w w' (benc M v).1 x
theorem benc_no {M : Mg} {v : Int} (h : (benc M v).2 ≠ 0) : (benc M v).1 = [] := by
  unfold benc at h ⊢
  split
  · rfl
  · rename_i h1
    rw [if_neg h1] at h
    split
    · rfl
    · rename_i h2
      rw [if_neg h2] at h
      exact absurd rfl h
set_option maxHeartbeats 4000000 in
theorem spack_any (M : Mg) (P C : Value) (b : Nat) (v : Int) (w : World) (hs : Msm M) (h1 : MAt w w.heap.size M P C) (hb : SAt w b v) : Calls Tryz.prog 16 #[.pointer (some ⟨b, 0, none⟩), mV M P C] w fun e w' => PackR w M v e w' := by
  obtain ⟨w2, hw2⟩ : ∃ w2, w.alloc (.cells (mC M P C) 26) = w2 := ⟨_, rfl⟩
  have hb2 : Below w.heap.size w w2 := by rw [← hw2]; exact (Below.refl _ w).alloc (Nat.le_refl _) _
  have q0 : w2.heap[w.heap.size]? = some (.cells (mC M P C) 26 (0, 0)) := by rw [← hw2]; exact World.alloc_heap_new _ _
  have hlt := (Array.getElem?_eq_some_iff.1 q0).1
  have HW2 := Lib.hid hw2
  have HB2 := Lib.hid hb2
  have HQ := Lib.hid q0
  have hsb := hb.later hb2
  have LM : ∀ W, Below w2.heap.size w2 W → (Instr.loadAt 26 (.pointer (some ⟨w.heap.size, 0, none⟩))).run Tryz.prog W = .ok (.agg (mC M P C)) W := fun W hW => mg_read ((hW.block _ hlt).trans q0)
  have LV : ∀ W, Below w2.heap.size w2 W → (Instr.loadAt 3 (.pointer (some ⟨b, 0, none⟩))).run Tryz.prog W = .ok (.int .i64 v) W := fun W hW => by
    have k := (hsb.later hW).cell
    simp [Instr.loadAt, go_sem, k]
  obtain ⟨⟨L, E⟩, hD⟩ : ∃ r, benc M v = r := ⟨_, rfl⟩
  have hno := benc_no (M := M) (v := v)
  have KE : Hid (∀ W, Below w2.heap.size w2 W → Calls Tryz.prog 36 #[.agg (mC M P C), .int .i64 v] W fun e w' => EncR W (L, E) e w') := Lib.hid fun W hW => by
    have := bencode_any M P C v W hs ((h1.later hb2).later hW)
    rwa [hD] at this
  unfold PackR
  rw [hD] at hno ⊢
  simp only at hno ⊢
  have HNO := Lib.hid hno
  have HK : Hid (∀ W, Below w2.heap.size w2 W → W.cell? ⟨w.heap.size, 0, none⟩ = some (.int .i64 M.k)) := Lib.hid fun W hW => row_cell ((hW.block _ hlt).trans q0) 0 (.int .i64 M.k) rfl
  clear hw2 hb2 q0 h1 hb hsb hD hno
  unfold mV
  go_enter Tryz.func16, Tryz.ntmps16
  go_wp2_with fail
  rw [HW2.out]
  refine wp_region_order9 12 (0 :: 1 :: 2 :: 3 :: 4 :: 5 :: 6 :: 7 :: 8 :: 9 :: 10 :: 11 :: []) (fun V => Below w2.heap.size w2 V) (C := fun V => Below w2.heap.size w2 V) (by kernel_rfl) (by kernel_rfl) (by kernel_rfl) (Below.refl _ _).drew (fun V hV => hV) ?_
  refine wpO9_load (ad := ⟨w.heap.size, 0, none⟩) (.agg (mC M P C)) rfl rfl rfl (by rfl) LM ?_
  simp only [Act.put, List.setIfInBounds_toArray, List.set_cons_succ, List.set_cons_zero]
  refine wpO9_pure rfl rfl ?_; go_big_quiet_step (fail); refine wpQuiet_nil ?_
  refine wpO9_nil (ad := ⟨b, 0, none⟩) rfl rfl rfl (by rfl) ?_
  simp only [Act.put, List.setIfInBounds_toArray, List.set_cons_succ, List.set_cons_zero]
  repeat (refine wpO9_pure rfl rfl ?_; go_big_quiet_step (fail); refine wpQuiet_nil ?_)
  refine wpO9_load (ad := ⟨b, 0, none⟩) (.int .i64 v) rfl rfl rfl (by rfl) LV ?_
  simp only [Act.put, List.setIfInBounds_toArray, List.set_cons_succ, List.set_cons_zero]
  refine wpO9_call (fun z => ∃ x, z = .tuple #[x, .int .i64 E]) (fun z V => Below w2.heap.size w2 V ∧ ∀ x, z = .tuple #[x, .int .i64 E] → Made w2 V L x) (f := 36) (args := #[.agg (mC M P C), .int .i64 v]) rfl rfl rfl (fun _ V h => h.1) (fun x => by first | rfl | (simp [go_sem]; done)) (fun V hV => (KE.out V hV).mono (fun e w' h => by
    obtain ⟨x, rfl, hm⟩ := h
    refine ⟨_, rfl, ⟨x, rfl⟩, hV.trans (hm.2.mono hV.size), fun y hy => ?_⟩
    injection hy with hy
    simp at hy
    subst hy
    exact hm.since hV)) ?_
  rintro z ⟨x, rfl⟩
  simp only [Act.put, List.setIfInBounds_toArray, List.set_cons_succ, List.set_cons_zero]
  repeat (refine wpO9_pure rfl rfl ?_; go_big_quiet_step (fail); refine wpQuiet_nil ?_)
  rintro w3 ⟨hb3, hm3⟩
  have HM3 := Lib.hid (hm3 x rfl)
  have HB3 := Lib.hid hb3
  clear hm3 hb3 KE LM LV
  simp only [List.drop_succ_cons, List.drop_zero]
  by_cases hE : E = 0
  · subst hE
    have c0 := HK.out w3 HB3.out
    go_wp2
    go_ret3
    exact ⟨x, rfl, HM3.out.since HB2.out⟩
  · have e1 : (E != 0) = true := by simpa using hE
    go_wp2
    go_ret3
    refine ⟨.slice none 0 0, rfl, ?_⟩
    rw [HNO.out hE]
    exact ⟨World.ownsRow_nil _ _ _ _, HB2.out.trans (HM3.out.2.mono HB2.out.size)⟩
set_option maxHeartbeats 4000000 in
theorem sunpack_any (k : Int) (A : Option Addr) (len cap : Nat) (zs : List Int) (b : Nat) (v : Int) (w : World) (hb : SAt w b v) (hlen : zs.length = len) (hll : len ≤ 1000000) (hby : Bys zs) (hA : Nums .u8 w w.heap.size A zs) :
    Calls Tryz.prog 19 #[.pointer (some ⟨b, 0, none⟩), .int .i64 k, .slice A len cap] w fun e w' => DecO w (bdec k v zs) e w' := by
  obtain ⟨w2, hw2⟩ : ∃ w2, w.alloc (.cells #[.int .i64 0, .int .i64 0, .int .i64 0, .int .i64 0, .int .i64 0, .int .i64 0, .int .i64 0, .slice none 0 0, .slice none 0 0, .string ⟨#[]⟩, .string ⟨#[]⟩] 26) = w2 := ⟨_, rfl⟩
  have hb2 : Below w.heap.size w w2 := by rw [← hw2]; exact (Below.refl _ w).alloc (Nat.le_refl _) _
  have q0 : w2.heap[w.heap.size]? = some (.cells (mC (Mg.zero 0) (.slice none 0 0) (.slice none 0 0)) 26 (0, 0)) := by rw [← hw2]; exact World.alloc_heap_new _ _
  have c2 := (hb.later hb2).cell
  have KD := Lib.hid (bdecode_own k v A len cap zs w2 hlen hll hby ((hA.below hb2).mono hb2.size))
  obtain ⟨⟨E, M⟩, hD⟩ : ∃ r, bdec k v zs = r := ⟨_, rfl⟩
  rw [hD] at KD ⊢
  have HW2 := Lib.hid hw2
  have HB2 := Lib.hid hb2
  have HQ := Lib.hid q0
  rw [← hw2] at c2
  clear hw2 hb2 q0 hb hA hlen hll hby hD
  go_enter Tryz.func19, Tryz.ntmps19
  go_wp2_with fail
  rw [HW2.out]
  refine KD.out.mono ?_
  rintro e w3 ⟨P, C, rfl, hmx, hb3⟩
  have q3 := (hb3.block _ (Array.getElem?_eq_some_iff.1 HQ.out).1).trans HQ.out
  have hst := mg_store w3 w.heap.size _ (mC M P C) q3 rfl rfl (mg_oneV hmx.at)
  have hrow := setRow_heap w3 w.heap.size _ (mC M P C) _ _ q3
  have hoff := Off.setRow (S := fun q => q = w.heap.size) (Off.refl _ w3) rfl (mC M P C)
  obtain ⟨W4, hW4⟩ : ∃ W4, w3.setRow w.heap.size (mC M P C) = W4 := ⟨_, rfl⟩
  rw [hW4] at hst hrow hoff
  have hb23 := HB2.out.trans (hb3.mono HB2.out.size)
  have hbel : Below w.heap.size w W4 := hb23.trans (hoff.below (B := w.heap.size) (fun q hq => by omega) hb23.size)
  have hq2 : w.heap.size < w2.heap.size := (Array.getElem?_eq_some_iff.1 HQ.out).1
  have hm4 := hmx.off hoff (fun g hg e => by have := (hmx.p.lt g hg).1; omega) (fun g hg e => by have := (hmx.c.lt g hg).1; omega)
  have HST := Lib.hid hst
  have HRW := Lib.hid hrow
  have HBE := Lib.hid hbel
  have HM4 := Lib.hid (hm4.less (Nat.le_of_lt hq2))
  clear hm4 hmx hst hrow hoff hW4 hbel hb3 q3 c2 KD hb23
  simp only
  unfold mV
  go_wp2_with (refine wpList_store_run rfl 26 (.tmp 6) (.tmp 19) rfl (some ⟨w.heap.size, 0, none⟩) rfl (.agg (mC M P C)) rfl HST.out ?_)
  obtain ⟨y0, y1, y2, y3, y4, y5, y6, y7, y8, y9, y10⟩ := mg_block HRW.out
  refine bodyPost_ret (v := .tuple #[.agg (mC M P C), .int .i64 E]) (by simp [results, Tryz.results19, go_sem, y0, y1, y2, y3, y4, y5, y6, y7, y8, y9, y10, mC]) rfl ?_
  exact ⟨_, _, rfl, HM4.out, HBE.out⟩
end Go.Proofs.YtlbfibnfmijahaaGreat

namespace Go.Proofs.YtlbfibnfmijahaaGreat
open Go.RowKit Go.Shelf
set_option maxRecDepth 100000
attribute [local go_sem] Oper.semAt_some

section
variable {P : Program} {l : List Oper} {fs : List Tmp} {FS : Tmp → Value → World → Prop} {I : World → Prop} {E : Act → Prop} {o : Oper} {rest : List Oper} {a : Act}
/-- an operation that its guard passes over -/
theorem wpF_skipS (hn : noB l.toArray fs o = true) (hw : Region.wanted o (yielded l.toArray a.tmps) = false) (h : wpF P l.toArray I fs FS E rest (a.put o.dst undef)) : wpF P l.toArray I fs FS E (o :: rest) a := by
  obtain ⟨h1, h2⟩ := noB_spec hn
  exact ⟨undef, .inl ⟨h1, h2, .inr ⟨hw, rfl⟩⟩, h⟩
end
theorem sfit_any (M : Mg) (P C : Value) (v : Int) (w : World) (hs : Msm M) (h1 : MAt w w.heap.size M P C) : Calls Tryz.prog 27 #[mV M P C, .int .i64 v] w fun e w' => e = .returned (.bool (decide (mproj M v = M))) ∧ Below w.heap.size w w' := by
  obtain ⟨w2, hw2⟩ : ∃ w2, w.alloc (.cells (mC M P C) 26) = w2 := ⟨_, rfl⟩
  have hb2 : Below w.heap.size w w2 := by rw [← hw2]; exact (Below.refl _ w).alloc (Nat.le_refl _) _
  have q0 : w2.heap[w.heap.size]? = some (.cells (mC M P C) 26 (0, 0)) := by rw [← hw2]; exact World.alloc_heap_new _ _
  have hlt := (Array.getElem?_eq_some_iff.1 q0).1
  have LM : ∀ W, Below w2.heap.size w2 W → (Instr.loadAt 26 (.pointer (some ⟨w.heap.size, 0, none⟩))).run Tryz.prog W = .ok (.agg (mC M P C)) W := fun W hW => mg_read ((hW.block _ hlt).trans q0)
  have FM : ∀ W, Below w2.heap.size w2 W → FMs M (.agg (mC M P C)) W := fun W hW => ⟨P, C, rfl, (h1.later hb2).later hW⟩
  have HW2 := Lib.hid hw2
  have HB2 := Lib.hid hb2
  have hsP := mproj_small hs v
  clear hw2 hb2 q0 h1
  unfold mV
  go_enter Tryz.func27, Tryz.ntmps27
  go_wp2_with fail
  rw [HW2.out]
  refine wp_region_F 10 [8] (fun _ x W => FMs (mproj M v) x W) (fun W => Below w2.heap.size w2 W) (by kernel_rfl) (by kernel_rfl) (by rfl) (by simp) (fun W W' h hb => h.trans (hb.mono h.size)) (fun s x W W' h hb => h.later hb) (Below.refl _ _).drew ?_
  refine wpF_load (ad := ⟨w.heap.size, 0, none⟩) (.agg (mC M P C)) rfl (by rfl) (by rfl) (by rfl) LM ?_
  simp only [Act.put, List.setIfInBounds_toArray, List.set_cons_succ, List.set_cons_zero]
  refine wpF_load (ad := ⟨w.heap.size, 0, none⟩) (.agg (mC M P C)) rfl (by rfl) (by rfl) (by rfl) LM ?_
  simp only [Act.put, List.setIfInBounds_toArray, List.set_cons_succ, List.set_cons_zero]
  repeat (refine wpF_pure rfl rfl ?_; go_big_quiet_step (fail); refine wpQuiet_nil ?_)
  refine wpF_callsrc 8 (f := 32) (args := #[.agg (mC M P C), .int .i64 v]) (by simp) rfl rfl rfl (fun x => by first | rfl | (simp [go_sem]; done)) (fun W hW => proj_F v hs (FM W hW)) ?_
  simp only [Act.put, List.setIfInBounds_toArray, List.set_cons_succ, List.set_cons_zero]
  refine wpF_use 8 3 (f := 46) (fun x => #[.agg (mC M P C), x]) (.bool (decide (mproj M v = M))) (by simp) rfl (by kernel_rfl) (by kernel_rfl) (by kernel_rfl) (fun x => by rfl) (fun x W => by first | rfl | (simp [go_sem]; done)) (fun x W hW hx => by
    have := same_F hs (FM W hW) hx
    rwa [show decide (M = mproj M v) = decide (mproj M v = M) from decide_eq_decide.2 eq_comm] at this) ?_
  simp only [Act.put, List.setIfInBounds_toArray, List.set_cons_succ, List.set_cons_zero]
  repeat (refine wpF_pure rfl rfl ?_; go_big_quiet_step (fail); refine wpQuiet_nil ?_)
  intro xs w3 hb3 _
  have HF := Lib.hid (HB2.out.trans (hb3.mono HB2.out.size))
  clear LM FM hb3
  simp only [fill, Act.put, List.setIfInBounds_toArray, List.set_cons_succ, List.set_cons_zero]
  go_wp2
  go_ret
  exact ⟨rfl, HF.out⟩
set_option maxHeartbeats 2000000 in
theorem sfits_any (M : Mg) (P C : Value) (b : Nat) (v : Int) (w : World) (hs : Msm M) (h1 : MAt w w.heap.size M P C) (hb : SAt w b v) : Calls Tryz.prog 14 #[.pointer (some ⟨b, 0, none⟩), mV M P C] w fun e w' => e = .returned (.bool (mfits M v)) ∧ Below w.heap.size w w' := by
  obtain ⟨w2, hw2⟩ : ∃ w2, w.alloc (.cells (mC M P C) 26) = w2 := ⟨_, rfl⟩
  have hb2 : Below w.heap.size w w2 := by rw [← hw2]; exact (Below.refl _ w).alloc (Nat.le_refl _) _
  have q0 : w2.heap[w.heap.size]? = some (.cells (mC M P C) 26 (0, 0)) := by rw [← hw2]; exact World.alloc_heap_new _ _
  have hlt := (Array.getElem?_eq_some_iff.1 q0).1
  have hsb := hb.later hb2
  have LM : ∀ W, Below w2.heap.size w2 W → (Instr.loadAt 26 (.pointer (some ⟨w.heap.size, 0, none⟩))).run Tryz.prog W = .ok (.agg (mC M P C)) W := fun W hW => mg_read ((hW.block _ hlt).trans q0)
  have LV : ∀ W, Below w2.heap.size w2 W → (Instr.loadAt 3 (.pointer (some ⟨b, 0, none⟩))).run Tryz.prog W = .ok (.int .i64 v) W := fun W hW => by
    have k := (hsb.later hW).cell
    simp [Instr.loadAt, go_sem, k]
  have KC : ∀ W, Below w2.heap.size w2 W → Calls Tryz.prog 25 #[.agg (mC M P C)] W fun e w' => e = .returned (.int .i64 (mck M)) ∧ Below W.heap.size W w' := fun W hW => chk_F hs ⟨P, C, rfl, (h1.later hb2).later hW⟩
  have KF : ∀ W, Below w2.heap.size w2 W → Calls Tryz.prog 27 #[.agg (mC M P C), .int .i64 v] W fun e w' => e = .returned (.bool (decide (mproj M v = M))) ∧ Below W.heap.size W w' := fun W hW => sfit_any M P C v W hs ((h1.later hb2).later hW)
  have HW2 := Lib.hid hw2
  have HB2 := Lib.hid hb2
  clear hw2 hb2 q0 h1 hb hsb
  unfold mV mfits
  by_cases hE : mck M = 0
  · rw [hE] at KC
    rw [decide_eq_true hE, Bool.true_and]
    obtain ⟨D, hD⟩ : ∃ D, decide (mproj M v = M) = D := ⟨_, rfl⟩
    rw [hD] at KF ⊢
    go_enter Tryz.func14, Tryz.ntmps14
    go_wp2_with fail
    rw [HW2.out]
    refine wp_region_F 21 [] (fun _ _ _ => True) (fun W => Below w2.heap.size w2 W) (by kernel_rfl) (by kernel_rfl) (by rfl) (by simp) (fun W W' h hb => h.trans (hb.mono h.size)) (fun s x W W' h hb => trivial) (Below.refl _ _).drew ?_
    repeat (refine wpF_pure rfl rfl ?_; go_big_quiet_step (fail); refine wpQuiet_nil ?_)
    refine wpF_load (ad := ⟨w.heap.size, 0, none⟩) (.agg (mC M P C)) rfl (by rfl) (by rfl) (by rfl) LM ?_
    simp only [Act.put, List.setIfInBounds_toArray, List.set_cons_succ, List.set_cons_zero]
    refine wpF_call (f := 25) (args := #[.agg (mC M P C)]) (.int .i64 0) rfl rfl (fun x => by first | rfl | (simp [go_sem]; done)) KC ?_
    simp only [Act.put, List.setIfInBounds_toArray, List.set_cons_succ, List.set_cons_zero]
    repeat (refine wpF_pure rfl rfl ?_; go_big_quiet_step (fail); refine wpQuiet_nil ?_)
    refine wpF_load (ad := ⟨w.heap.size, 0, none⟩) (.agg (mC M P C)) rfl (by rfl) (by rfl) (by rfl) LM ?_
    simp only [Act.put, List.setIfInBounds_toArray, List.set_cons_succ, List.set_cons_zero]
    refine wpF_pure rfl rfl ?_; go_big_quiet_step (fail); refine wpQuiet_nil ?_
    refine wpF_nil (ad := ⟨b, 0, none⟩) rfl (by rfl) (by rfl) (by rfl) ?_
    simp only [Act.put, List.setIfInBounds_toArray, List.set_cons_succ, List.set_cons_zero]
    repeat (refine wpF_pure rfl rfl ?_; go_big_quiet_step (fail); refine wpQuiet_nil ?_)
    refine wpF_load (ad := ⟨b, 0, none⟩) (.int .i64 v) rfl (by rfl) (by rfl) (by rfl) LV ?_
    simp only [Act.put, List.setIfInBounds_toArray, List.set_cons_succ, List.set_cons_zero]
    refine wpF_call (f := 27) (args := #[.agg (mC M P C), .int .i64 v]) (.bool D) rfl rfl (fun x => by first | rfl | (simp [go_sem]; done)) KF ?_
    simp only [Act.put, List.setIfInBounds_toArray, List.set_cons_succ, List.set_cons_zero]
    repeat (refine wpF_pure rfl rfl ?_; go_big_quiet_step (fail); refine wpQuiet_nil ?_)
    intro xs w3 hb3 _
    have HF := Lib.hid (HB2.out.trans (hb3.mono HB2.out.size))
    clear LM LV KC KF hb3
    simp only [fill]
    go_wp2
    go_ret
    exact ⟨rfl, HF.out⟩
  · rw [decide_eq_false hE, Bool.false_and]
    obtain ⟨E, hEE⟩ : ∃ E, mck M = E := ⟨_, rfl⟩
    rw [hEE] at KC hE
    have e1 : (E == 0) = false := by simpa using hE
    clear hEE KF LV
    go_enter Tryz.func14, Tryz.ntmps14
    go_wp2_with fail
    rw [HW2.out]
    refine wp_region_F 21 [] (fun _ _ _ => True) (fun W => Below w2.heap.size w2 W) (by kernel_rfl) (by kernel_rfl) (by rfl) (by simp) (fun W W' h hb => h.trans (hb.mono h.size)) (fun s x W W' h hb => trivial) (Below.refl _ _).drew ?_
    repeat (refine wpF_pure rfl rfl ?_; go_big_quiet_step (fail); refine wpQuiet_nil ?_)
    refine wpF_load (ad := ⟨w.heap.size, 0, none⟩) (.agg (mC M P C)) rfl (by rfl) (by rfl) (by rfl) LM ?_
    simp only [Act.put, List.setIfInBounds_toArray, List.set_cons_succ, List.set_cons_zero]
    refine wpF_call (f := 25) (args := #[.agg (mC M P C)]) (.int .i64 E) rfl rfl (fun x => by first | rfl | (simp [go_sem]; done)) KC ?_
    simp only [Act.put, List.setIfInBounds_toArray, List.set_cons_succ, List.set_cons_zero]
    repeat (refine wpF_pure rfl rfl ?_; go_big_quiet_step (fail); refine wpQuiet_nil ?_)
    repeat (refine wpF_skipS rfl rfl ?_; simp only [Act.put, List.setIfInBounds_toArray, List.set_cons_succ, List.set_cons_zero])
    repeat (refine wpF_pure rfl rfl ?_; go_big_quiet_step (fail); refine wpQuiet_nil ?_)
    intro xs w3 hb3 _
    have HF := Lib.hid (HB2.out.trans (hb3.mono HB2.out.size))
    clear LM KC hb3
    simp only [fill]
    go_wp2
    go_ret
    exact ⟨rfl, HF.out⟩
end Go.Proofs.YtlbfibnfmijahaaGreat

namespace Go.Proofs.YtlbfibnfmijahaaGreat
open Go.RowKit
section
variable {P : Program} {l : List Oper} {vs : List Value} {fs : List Tmp} {FS : Tmp → Value → World → Prop} {Pr : Tmp → Value → Tmp → Value → Prop} {I : World → Prop} {a0 : Act}
/-- what an operation gives in this world, and what it is beside what was given ahead of it -/
def FpO (fs : List Tmp) (FS : Tmp → Value → World → Prop) (Pr : Tmp → Value → Tmp → Value → Prop) (o : Oper) (w : World) : Tmp → Value → World → Prop := fun d u W =>
  FS d u W ∧ (o.dst = some d → ∀ d' ∈ fs, d' ≠ d → ∀ x', FS d' x' w → Pr d u d' x' ∧ Pr d' x' d u)
def PrI (l : List Oper) (fs : List Tmp) (Pr : Tmp → Value → Tmp → Value → Prop) (listed : Array Bool) (b : Act) : Prop :=
  ∀ d ∈ fs, ∀ d' ∈ fs, d ≠ d' → (∃ (j : Nat) (o : Oper), l[j]? = some o ∧ listed.getD j true = true ∧ o.dst = some d) → (∃ (j : Nat) (o : Oper), l[j]? = some o ∧ listed.getD j true = true ∧ o.dst = some d') →
    ∀ x x', b.tmps[d]? = some x → b.tmps[d']? = some x' → Pr d x d' x'
/-- the walk in the text's order -/
def wpP (P : Program) (ops : Array Oper) (I : World → Prop) (fs : List Tmp) (FS : Tmp → Value → World → Prop) (Pr : Tmp → Value → Tmp → Value → Prop) (E : Act → Prop) : List Oper → Act → Prop
  | [], a => E a
  | o :: r, a => ∃ v, (∀ w, I w → Ob P ops (fun W => W = w) fs (FpO fs FS Pr o w) o v a) ∧ wpP P ops I fs FS Pr E r (a.put o.dst v)
theorem wpP_vals {ops : Array Oper} {E : Act → Prop} : ∀ (l : List Oper) (a : Act), wpP P ops I fs FS Pr E l a → ∃ vs : List Value, vs.length = l.length ∧
    (∀ (k : Nat) o v, l[k]? = some o → vs[k]? = some v → ∀ w, I w → Ob P ops (fun W => W = w) fs (FpO fs FS Pr o w) o v (lex l vs a k)) ∧ E (lex l vs a l.length)
  | [], a, h => ⟨[], rfl, by simp, h⟩
  | o :: r, a, ⟨v, hob, hr⟩ => by
    obtain ⟨vs, h1, h2, h3⟩ := wpP_vals r _ hr
    refine ⟨v :: vs, by simp [h1], fun k o' v' ho hv => ?_, h3⟩
    cases k with
    | zero =>
      simp only [List.getElem?_cons_zero, Option.some.injEq] at ho hv
      subst ho hv
      exact hob
    | succ k =>
      simp only [List.getElem?_cons_succ] at ho hv
      exact h2 k o' v' ho hv
theorem PrI.next {N : Nat} (hR : RG .any l.toArray N) (hN : N ≤ a0.tmps.size) (hlen : vs.length = l.length) {listed : Array Bool} {b : Act} {w : World} {i : Nat} {o : Oper} {u : Value} (h : Inv l vs fs FS I a0 listed b w) (hp : PrI l fs Pr listed b) (ho : l[i]? = some o) (_hun : listed.getD i true = false)
    (hu : ∀ d, o.dst = some d → d ∈ fs → ∀ d' ∈ fs, d' ≠ d → ∀ x', FS d' x' w → Pr d u d' x' ∧ Pr d' x' d u) : PrI l fs Pr (listed.setIfInBounds i true) (b.put o.dst u) := by
  have ho' : l.toArray[i]? = some o := by simpa using ho
  have key : ∀ d, (∃ (j : Nat) (oj : Oper), l[j]? = some oj ∧ (listed.setIfInBounds i true).getD j true = true ∧ oj.dst = some d) → (o.dst = some d) ∨ ((∃ (j : Nat) (oj : Oper), l[j]? = some oj ∧ listed.getD j true = true ∧ oj.dst = some d) ∧ o.dst ≠ some d) := by
    rintro d ⟨j, oj, hj, hlj, hd⟩
    by_cases hij : i = j
    · subst hij
      obtain rfl : o = oj := Option.some.inj (ho.symm.trans hj)
      exact .inl hd
    · rw [getD_set_far _ hij] at hlj
      exact .inr ⟨⟨j, oj, hj, hlj, hd⟩, hR.once i j o oj d ho' (by simpa using hj) hd hij⟩
  have got : ∀ d ∈ fs, (∃ (j : Nat) (oj : Oper), l[j]? = some oj ∧ listed.getD j true = true ∧ oj.dst = some d) → ∀ x, b.tmps[d]? = some x → FS d x w := by
    rintro d hd ⟨j, oj, hj, hlj, hdj⟩ x hx
    obtain ⟨v, hv⟩ : ∃ v, vs[j]? = some v := ⟨_, List.getElem?_eq_getElem (by rw [hlen]; exact (List.getElem?_eq_some_iff.1 hj).1)⟩
    obtain ⟨y, hy, hf⟩ := (h.ins j oj d v hj hlj hdj hv).1 hd
    obtain rfl : x = y := Option.some.inj (hx.symm.trans hy)
    exact hf
  have same : ∀ d x, o.dst = some d → (b.put o.dst u).tmps[d]? = some x → x = u := fun d x hd hx => by
    have hlt : d < b.tmps.size := by rw [h.size]; exact Nat.lt_of_lt_of_le (hR.small i o d ho' hd) hN
    rw [hd, put_same u hlt] at hx
    exact (Option.some.inj hx).symm
  intro d hd d' hd' hne h1 h2 x x' hx hx'
  rcases key d h1 with e1 | ⟨h1, e1⟩
  · rcases key d' h2 with e2 | ⟨h2, e2⟩
    · exact absurd (Option.some.inj (e1.symm.trans e2)) hne
    · rw [put_other u e2] at hx'
      obtain rfl := same d x e1 hx
      exact (hu d e1 hd d' hd' (Ne.symm hne) x' (got d' hd' h2 x' hx')).1
  · rcases key d' h2 with e2 | ⟨h2, e2⟩
    · rw [put_other u e1] at hx
      obtain rfl := same d' x' e2 hx'
      exact (hu d' e2 hd' d hd hne x (got d hd h1 x hx)).2
    · rw [put_other u e1] at hx
      rw [put_other u e2] at hx'
      exact hp d hd d' hd' hne h1 h2 x x' hx hx'

theorem any_of_FTP {N n : Nat} {Q' : Exit → Act → World → Prop} (hR : RG .any l.toArray N) (hN : N ≤ a0.tmps.size) (hlen : vs.length = l.length) (hI : Closed I) (hF : ∀ s x w w', FS s x w → Below w.heap.size w w' → FS s x w')
    (hob : ∀ (j : Nat) o v, j < n → l[j]? = some o → vs[j]? = some v → ∀ w, I w → Ob P l.toArray (fun W => W = w) fs (FpO fs FS Pr o w) o v (lex l vs a0 j)) (hn : n < l.length) (hs : Region.sinkB .any l.toArray n = true) (hc : Region.chainB .any l.toArray n = true)
    (hQ : ∀ (listed : Array Bool) b w, (∀ j, j < n → listed.getD j true = true) → (∀ t, n ≤ t → t < l.length → listed.getD t true = false) → Inv l vs fs FS I a0 listed b w → PrI l fs Pr listed b → wpAny P .any l.toArray Q' (l.length - n) listed b w) :
    ∀ (f : Nat) (listed : Array Bool) (b : Act) (w : World), (listed.toList.take n).count false = f → HeadInv .any l.toArray n listed → Inv l vs fs FS I a0 listed b w → PrI l fs Pr listed b → wpAny P .any l.toArray Q' (f + (l.length - n)) listed b w
  | 0, listed, b, w, hcn, hh, h, hpr => by
    rw [Nat.zero_add]
    exact hQ listed b w (fun j hj => count_take_zero hcn j hj) (fun t h1 h2 => hh.tail t h1 (by simpa using h2)) h hpr
  | f + 1, listed, b, w, hcn, hh, h, hpr => by
    obtain ⟨i0, hi0, hu0⟩ := count_take_pos hcn
    rw [show f + 1 + (l.length - n) = (f + (l.length - n)) + 1 by omega]
    refine ⟨fun h0 => ?_, fun i hi => ?_⟩
    · have hall := ready_all hR h.lsize h0
      rw [hall i0] at hu0
      cases hu0
    have hin : i < n := by
      rcases Nat.lt_or_ge i n with h1 | h1
      · exact h1
      · exact absurd hi (tail_waits hs hc (by simpa using hn) hh _ i0 rfl hi0 hu0 i h1)
    obtain ⟨hun, o, ho, hall⟩ := mem_ready.1 hi
    have ho2 : l[i]? = some o := by simpa using ho
    have hp : ∀ e ∈ o.after, Region.binds .any e = true → listed.getD e.on true = true := fun e he hb => by
      have h1 := hall e he hb
      rw [Array.getD_eq_getD_getElem?] at h1 ⊢
      cases hx : listed[e.on]? with
      | none => rfl
      | some y => rw [hx] at h1; simpa using h1
    obtain ⟨v, hv⟩ : ∃ v, vs[i]? = some v := ⟨_, List.getElem?_eq_getElem (by rw [hlen]; exact (List.getElem?_eq_some_iff.1 ho2).1)⟩
    have hcnt := count_take hin hun
    have h' : Inv l vs fs (FpO fs FS Pr o w) (fun W => W = w) a0 listed b w := ⟨rfl, h.size, h.defers, h.out, fun j oj d v hj hlj hdj hv => by
      obtain ⟨g1, g2⟩ := h.ins j oj d v hj hlj hdj hv
      refine ⟨fun hd => ?_, g2⟩
      obtain ⟨x, hx, hf⟩ := g1 hd
      refine ⟨x, hx, hf, fun e => ?_⟩
      have hij : i ≠ j := fun e2 => by subst e2; rw [hun] at hlj; cases hlj
      exact absurd e (hR.once i j o oj d ho (by simpa using hj) hdj hij), h.down, h.lsize⟩
    exact op_of_F hR hN hlen h' ho2 hun hp hv (hob i o v hin ho2 hv w h.cls) fun u w' hb hu =>
      any_of_FTP hR hN hlen hI hF hob hn hs hc hQ f _ _ w' (by omega) (hh.set hi hin) (h.next hR hN hI hF ho2 hp hb fun d hd => ⟨fun hf => ((hu d hd).1 hf).1, (hu d hd).2⟩)
        (hpr.next hR hN hlen h ho2 hun fun d hd hf => ((hu d hd).1 hf).2 hd)
/-- ONE WALK IN THE TEXT's ORDER SERVES EVERY ORDER; the tail, behind place n, as it stands; what sources have given is known pair by pair -/
theorem wp_region_FTP {id : Nat} {Q : Exit → Act → World → Prop} {a : Act} {w : World} {l : List Oper} (N n : Nat) (fs : List Tmp) (FS : Tmp → Value → World → Prop) (Pr : Tmp → Value → Tmp → Value → Prop) (I : World → Prop) (hm : P.follows .mixedOrders = true) (hB : rgB .any l.toArray N = true)
    (hn : decide (n < l.length) = true) (hs : Region.sinkB .any l.toArray n = true) (hc : Region.chainB .any l.toArray n = true)
    (hq : Region.seqB .any l.toArray (l.length - n) n (List.replicate n true ++ List.replicate (l.length - n) false).toArray = true)
    (hfs : (fs.all fun s => (l.take n).any fun o => o.dst == some s) = true) (hN : N ≤ a.tmps.size) (hI : Closed I) (hF : ∀ s x w w', FS s x w → Below w.heap.size w w' → FS s x w') (hC : I w.drew)
    (h : wpP P l.toArray I fs FS Pr (fun a' => ∀ xs w', I w' → (∀ s ∈ fs, FS s (xs s) w') → (∀ s ∈ fs, ∀ s' ∈ fs, s ≠ s' → Pr s (xs s) s' (xs s')) → wpList P l.toArray Q (l.drop n) (fill fs xs a') w') (l.take n) a) : (Code.region id l.toArray true).wp P Q a w := by
  have hR := rgB_spec hB
  have hn' : n < l.length := by simpa using hn
  obtain ⟨vs0, hlen0, hob0, hE0⟩ := wpP_vals (l.take n) a h
  have htl : (l.take n).length = n := by rw [List.length_take]; omega
  rw [htl] at hlen0 hE0
  obtain ⟨vs, hvs⟩ : ∃ vs, vs0 ++ List.replicate (l.length - n) undef = vs := ⟨_, rfl⟩
  have hlen : vs.length = l.length := by rw [← hvs, List.length_append, List.length_replicate]; omega
  have hlex : ∀ j, j ≤ n → lex (l.take n) vs0 a j = lex l vs a j := fun j hj => by rw [← hvs]; exact lex_take l vs0 _ a n j hj (by rw [hlen0, htl])
  have hob : ∀ (j : Nat) o v, j < n → l[j]? = some o → vs[j]? = some v → ∀ w, I w → Ob P l.toArray (fun W => W = w) fs (FpO fs FS Pr o w) o v (lex l vs a j) := fun j o v hj ho hv => by
    rw [← hlex j (by omega)]
    refine hob0 j o v (by rw [List.getElem?_take, if_pos hj]; exact ho) ?_
    rw [← hvs, List.getElem?_append_left (by omega)] at hv
    exact hv
  rw [hlex n (Nat.le_refl _)] at hE0
  have inv0 : HeadInv .any l.toArray n (Array.replicate l.toArray.size false) :=
    ⟨by simp, fun j oj _ hl => (by rw [getD_replicate_false] at hl; cases hl), fun t _ ht => getD_in (by simpa using ht) (getD_replicate_false _ _)⟩
  refine wp_region_any hm ?_
  have key := any_of_FTP (Q' := Q) (l := l) (vs := vs) (fs := fs) (FS := FS) (Pr := Pr) (I := I) (a0 := a) (n := n) hR hN hlen hI hF hob hn' hs hc ?_ n (Array.replicate l.toArray.size false) a w.drew (by
      simp only [List.size_toArray, Array.toList_replicate, List.take_replicate, List.count_replicate_self]; omega) inv0 ?_ ?_
  · rw [show n + (l.length - n) = l.toArray.size by simp; omega] at key
    exact key
  · intro listed b W hall hno hinv hpr
    have hls : ∀ s ∈ fs, ∃ (j : Nat) (o : Oper), l[j]? = some o ∧ listed.getD j true = true ∧ o.dst = some s := fun s hs => by
      rw [List.all_eq_true] at hfs
      have h1 := hfs s hs
      rw [List.any_eq_true] at h1
      obtain ⟨o, ho, hd⟩ := h1
      obtain ⟨j, hj, rfl⟩ := List.getElem_of_mem ho
      have hj1 : j < n := by rw [List.length_take] at hj; omega
      have hj2 : j < l.length := by omega
      exact ⟨j, l[j], List.getElem?_eq_getElem hj2, hall j hj1, by simpa using hd⟩
    have hw : ∀ s ∈ fs, ∃ x, b.tmps[s]? = some x ∧ FS s x W := fun s hs => by
      rw [List.all_eq_true] at hfs
      have h1 := hfs s hs
      rw [List.any_eq_true] at h1
      obtain ⟨o, ho, hd⟩ := h1
      obtain ⟨j, hj, rfl⟩ := List.getElem_of_mem ho
      have hj1 : j < n := by rw [List.length_take] at hj; omega
      have hj2 : j < l.length := by omega
      have hd' : (l[j]).dst = some s := by simpa using hd
      obtain ⟨v, hv⟩ : ∃ v, vs[j]? = some v := ⟨_, List.getElem?_eq_getElem (by rw [hlen]; exact hj2)⟩
      exact (hinv.ins j l[j] s v (List.getElem?_eq_getElem hj2) (hall j hj1) hd' hv).1 hs
    have hb : b = fill fs (fun s => b.tmps.getD s undef) (lex l vs a n) := by
      have ht : b.tmps = (fill fs (fun s => b.tmps.getD s undef) (lex l vs a n)).tmps := by
        apply Array.ext_getElem?
        intro d
        by_cases hd : d ∈ fs
        · obtain ⟨x, hx, _⟩ := hw d hd
          have hlt : d < (lex l vs a n).tmps.size := by
            rw [(lex_size l vs a n).1, ← hinv.size]
            exact (Array.getElem?_eq_some_iff.1 hx).1
          rw [fill_in fs _ _ d hd hlt, hx]
          simp [hx]
        · rw [fill_out fs _ _ d hd]
          by_cases hwr : ∃ (j : Nat) (oj : Oper), j < n ∧ l[j]? = some oj ∧ oj.dst = some d
          · obtain ⟨j, oj, hjn, hj, hdj⟩ := hwr
            obtain ⟨v, hv⟩ : ∃ v, vs[j]? = some v := ⟨_, List.getElem?_eq_getElem (by rw [hlen]; exact (List.getElem?_eq_some_iff.1 hj).1)⟩
            have hj' : l.toArray[j]? = some oj := by simpa using hj
            rw [(hinv.ins j oj d v hj (hall j hjn) hdj hv).2 hd]
            exact (lex_in l vs a n j oj d v hj hjn hv hdj (Nat.lt_of_lt_of_le (hR.small _ _ _ hj' hdj) hN) fun i oi hi _ hne => hR.once i j oi oj d (by simpa using hi) hj' hdj hne).symm
          · rw [lex_out l vs a n d fun i oi hi hin hdi => hwr ⟨i, oi, hin, hi, hdi⟩]
            refine hinv.out d fun i oi hi hli hdi => hwr ⟨i, oi, ?_, hi, hdi⟩
            rcases Nat.lt_or_ge i n with h1 | h1
            · exact h1
            · rw [hno i h1 (List.getElem?_eq_some_iff.1 hi).1] at hli; cases hli
      have hd : b.defers = (fill fs (fun s => b.tmps.getD s undef) (lex l vs a n)).defers := by
        rw [(fill_size ..).2, (lex_size ..).2]
        exact hinv.defers
      cases b
      simp only at ht hd
      rw [Act.mk.injEq]
      exact ⟨ht, hd⟩
    have hL : listed = (List.replicate n true ++ List.replicate (l.length - n) false).toArray := by
      apply Array.ext
      · simp [hinv.lsize]; omega
      · intro j h1 h2
        have hj : j < l.length := by rw [← hinv.lsize]; exact h1
        by_cases hjn : j < n
        · have h3 := hall j hjn
          rw [Array.getD_eq_getD_getElem?, Array.getElem?_eq_getElem h1] at h3
          simp only [List.getElem_toArray]
          rw [List.getElem_append_left (by simpa using hjn)]
          simpa using h3
        · have h3 := hno j (by omega) hj
          rw [Array.getD_eq_getD_getElem?, Array.getElem?_eq_getElem h1] at h3
          simp only [List.getElem_toArray]
          rw [List.getElem_append_right (by simpa using Nat.le_of_not_lt hjn)]
          simpa using h3
    have hE := hE0 (fun s => b.tmps.getD s undef) W hinv.cls fun s hs => by
      obtain ⟨x, hx, hf⟩ := hw s hs
      simpa [hx] using hf
    have hE := hE fun s hs s' hs' hne => by
      obtain ⟨x, hx, _⟩ := hw s hs
      obtain ⟨x', hx', _⟩ := hw s' hs'
      have := hpr s hs s' hs' hne (hls s hs) (hls s' hs') x x' hx hx'
      simpa [hx, hx'] using this
    rw [← hb] at hE
    have := wpAny_of_seq (md := .any) (Q' := Q) (l.drop n) n listed b W (fun j => by simp [List.getElem?_drop]) (by rw [List.length_drop, hL]; exact hq) hE
    rwa [List.length_drop] at this
  · refine ⟨hC, rfl, rfl, fun _ _ => rfl, fun j o d v hj hlj => ?_, fun j o hj hlj => ?_, by simp⟩
    all_goals
      have hlt := (List.getElem?_eq_some_iff.1 hj).1
      rw [Array.getD_eq_getD_getElem?] at hlj
      simp [hlt] at hlj
  · rintro d _ d' _ _ ⟨j, o, hj, hlj, _⟩
    have hlt := (List.getElem?_eq_some_iff.1 hj).1
    rw [Array.getD_eq_getD_getElem?] at hlj
    simp [hlt] at hlj
end
/-! one operation of the walk -/
section
variable {P : Program} {l : List Oper} {fs : List Tmp} {FS : Tmp → Value → World → Prop} {Pr : Tmp → Value → Tmp → Value → Prop} {I : World → Prop} {E : Act → Prop} {o : Oper} {rest : List Oper} {a : Act}
def noSrcB (o : Oper) (fs : List Tmp) : Bool := match o.dst with | some d => !fs.contains d | none => true
/-- one that is no source: as in XQ6's walk -/
theorem wpP_F (hd : noSrcB o fs = true) (h : wpF P l.toArray I fs FS (fun a' => wpP P l.toArray I fs FS Pr E rest a') [o] a) : wpP P l.toArray I fs FS Pr E (o :: rest) a := by
  obtain ⟨v, hob, hr⟩ := h
  have hno : ∀ d, o.dst = some d → d ∉ fs := fun d hd' => by
    unfold noSrcB at hd
    rw [hd'] at hd
    simpa using hd
  refine ⟨v, fun w hI => ?_, hr⟩
  rcases hob with ⟨h1, h2, hcalm⟩ | ⟨s, hs, hds, h1, hwt, hsrc⟩ | ⟨s, hs, hj, h1, h2, huse⟩ | ⟨s, R, hs, hds, hRs, h1, hmix⟩
  · refine .inl ⟨h1, h2, ?_⟩
    rcases hcalm with ⟨hw, hv⟩ | hw
    · exact .inl ⟨hw, fun w' e => by subst e; exact hv _ hI⟩
    · exact .inr hw
  · exact absurd hs (hno s hds)
  · exact .inr (.inr (.inl ⟨s, hs, hj, h1, h2, fun x w' e hx => by subst e; exact huse x _ hI hx.1⟩))
  · exact absurd hs (hno s hds)
theorem wpF_end {ops : Array Oper} {E : Act → Prop} (h : E a) : wpF P ops I fs FS E [] a := h
/-- a source -/
theorem wpP_src (s : Tmp) (hs : s ∈ fs) (hd : o.dst = some s) (hn : ((o.looksAt l.toArray).all fun d => !fs.contains d) = true) (hw : Region.wanted o (yielded l.toArray a.tmps) = true)
    (hrun : ∀ w, I w → srcUpon P (fun u W => FS s u W ∧ ∀ d' ∈ fs, d' ≠ s → ∀ x', FS d' x' w → Pr s u d' x' ∧ Pr d' x' s u) w ((execOp a.eval o).run P w))
    (h : wpP P l.toArray I fs FS Pr E rest (a.put o.dst undef)) : wpP P l.toArray I fs FS Pr E (o :: rest) a := by
  refine ⟨undef, fun w hI => .inr (.inl ⟨s, hs, hd, fun d hd' hf => ?_, hw, fun w' e => ?_⟩), h⟩
  · rw [List.all_eq_true] at hn
    have := hn d hd'
    simp at this
    exact this hf
  · subst e
    have h3 := hrun w' hI
    generalize (execOp a.eval o).run P w' = r at h3
    cases r with
    | ok n w2 =>
      cases n <;> simp only [srcUpon] at h3 ⊢
      case value u => exact ⟨⟨h3.1.1, fun _ => h3.1.2⟩, h3.2⟩
      case enter f args =>
        obtain ⟨rfl, hcc⟩ := h3
        exact ⟨rfl, hcc.mono fun e w'' ⟨u, he, hf, hb⟩ => ⟨u, he, ⟨hf.1, fun _ => hf.2⟩, hb⟩⟩
    | halt x w2 => simp only [srcUpon] at h3
/-- .. that makes memory -/
theorem wpP_new (s : Tmp) (hs : s ∈ fs) (hd : o.dst = some s) (hn : ((o.looksAt l.toArray).all fun d => !fs.contains d) = true) (hw : Region.wanted o (yielded l.toArray a.tmps) = true)
    (hrun : ∀ w, I w → ∃ u w', (execOp a.eval o).run P w = .ok (.value u) w' ∧ FS s u w' ∧ Below w.heap.size w w' ∧ ∀ d' ∈ fs, d' ≠ s → ∀ x', FS d' x' w → Pr s u d' x' ∧ Pr d' x' s u)
    (h : wpP P l.toArray I fs FS Pr E rest (a.put o.dst undef)) : wpP P l.toArray I fs FS Pr E (o :: rest) a :=
  wpP_src s hs hd hn hw (fun w hI => by
    obtain ⟨u, w', hr, h1, h2, h3⟩ := hrun w hI
    rw [hr]
    exact ⟨⟨h1, h3⟩, h2⟩) h
/-- .. that is a call -/
theorem wpP_callsrc (s : Tmp) {f : FuncId} {args : Array Value} (hs : s ∈ fs) (hd : o.dst = some s) (hn : ((o.looksAt l.toArray).all fun d => !fs.contains d) = true) (hw : Region.wanted o (yielded l.toArray a.tmps) = true)
    (hrun : ∀ w, (execOp a.eval o).run P w = .ok (.enter f args) w) (hc : ∀ w, I w → Calls P f args w fun e w'' => ∃ u, e = .returned u ∧ FS s u w'' ∧ Below w.heap.size w w'')
    (hpr : ∀ u, ∀ d' ∈ fs, d' ≠ s → ∀ x', Pr s u d' x' ∧ Pr d' x' s u)
    (h : wpP P l.toArray I fs FS Pr E rest (a.put o.dst undef)) : wpP P l.toArray I fs FS Pr E (o :: rest) a :=
  wpP_src s hs hd hn hw (fun w hI => by
    rw [hrun w]
    exact ⟨rfl, (hc w hI).mono fun e w'' ⟨u, he, hf, hb⟩ => ⟨u, he, ⟨hf, fun d' h1 h2 x' _ => hpr u d' h1 h2 x'⟩, hb⟩⟩) h
end
end Go.Proofs.YtlbfibnfmijahaaGreat

namespace Go.Proofs.YtlbfibnfmijahaaGreat
open Go.RowKit Go.Shelf
set_option maxRecDepth 100000
attribute [local go_sem] Oper.semAt_some

def likeF (M N : Mg) (f : Fd) : Bool := if f.so = 6 then decide (M.tg = N.tg) else decide (M.at' f.pl.toNat = N.at' f.pl.toNat)
set_option maxHeartbeats 4000000 in
theorem alike_any (M N : Mg) (f : Fd) (P C P' C' : Value) (w : World) (hf : (f.so = 1 ∧ ∃ jj : Nat, jj < 6 ∧ f.pl = (jj : Int)) ∨ (f.so = 6 ∧ f.pl = -1)) : Calls Tryz.prog 35 #[.agg (mC M P C), .agg (mC N P' C'), f.v] w fun e w' => e = .returned (.bool (likeF M N f)) ∧ Below w.heap.size w w' := by
  obtain ⟨w2, hw2⟩ : ∃ w2, ((w.alloc (.cells (mC M P C) 26)).alloc (.cells (mC N P' C') 26)).alloc (.cells f.cs 87) = w2 := ⟨_, rfl⟩
  have hb2 : Below w.heap.size w w2 := by rw [← hw2]; exact (((Below.refl _ w).alloc (Nat.le_refl _) _).alloc (by simp) _).alloc (by simp; omega) _
  have q0 : w2.heap[w.heap.size]? = some (.cells (mC M P C) 26 (0, 0)) := by
    rw [← hw2, Below.heap_alloc _ _ _ (by simp; omega), Below.heap_alloc _ _ _ (by simp)]; exact World.alloc_heap_new _ _
  have q1 : w2.heap[w.heap.size + 1]? = some (.cells (mC N P' C') 26 (0, 0)) := by
    rw [← hw2, Below.heap_alloc _ _ _ (by simp)]
    have := World.alloc_heap_new (w.alloc (.cells (mC M P C) 26)) (.cells (mC N P' C') 26)
    rwa [World.size_alloc] at this
  have q2 : w2.heap[w.heap.size + 1 + 1]? = some (.cells f.cs 87 (0, 0)) := by
    rw [← hw2]
    have := World.alloc_heap_new ((w.alloc (.cells (mC M P C) 26)).alloc (.cells (mC N P' C') 26)) (.cells f.cs 87)
    rwa [World.size_alloc, World.size_alloc] at this
  obtain ⟨_, d1, d2, _, _, _, _⟩ := fd_block q2
  have HW2 := Lib.hid hw2
  have HB2 := Lib.hid hb2
  unfold likeF
  rcases hf with ⟨hso, jj, hj6, hpl⟩ | ⟨hso, hpl⟩
  · have k0 := mg_at q0 hj6
    have k1 := mg_at q1 hj6
    rw [hso] at d1
    rw [hpl] at d2
    rw [if_neg (by omega), hpl, Int.toNat_natCast]
    obtain ⟨x, hx⟩ : ∃ x, M.at' jj = x := ⟨_, rfl⟩
    obtain ⟨y, hy⟩ : ∃ y, N.at' jj = y := ⟨_, rfl⟩
    rw [hx] at k0 ⊢
    rw [hy] at k1 ⊢
    have hz6 : (jj : Int) < 6 := by omega
    have hz0 : (0 : Int) ≤ (jj : Int) := by omega
    rw [← hw2] at d1 d2 k0 k1
    clear hx hy hw2 hb2 q0 q1 q2 hso hpl
    unfold Fd.v
    go_enter Tryz.func35, Tryz.ntmps35
    go_wp2_with fail
    go_quiet (fail)
    rw [HW2.out]
    go_wp2
    go_ret
    refine ⟨?_, below_drewN HB2.out _⟩
    rw [show decide (x = y) = (x == y) by by_cases h : x = y <;> simp [h]]
    rfl
  · have k0 := row_cell q0 10 (.string M.tg) rfl
    have k1 := row_cell q1 10 (.string N.tg) rfl
    rw [hso] at d1
    rw [if_pos hso]
    obtain ⟨x, hx⟩ : ∃ x, M.tg = x := ⟨_, rfl⟩
    obtain ⟨y, hy⟩ : ∃ y, N.tg = y := ⟨_, rfl⟩
    rw [hx] at k0 ⊢
    rw [hy] at k1 ⊢
    rw [← hw2] at d1 k0 k1
    clear hx hy hw2 hb2 q0 q1 q2 d2 hso hpl
    unfold Fd.v
    by_cases hxy : x = y
    · subst hxy
      rw [decide_eq_true rfl]
      go_enter Tryz.func35, Tryz.ntmps35
      go_wp2
      go_ret
      refine ⟨rfl, ?_⟩
      rw [HW2.out]
      exact HB2.out
    · rw [decide_eq_false hxy]
      have hne := str_ne hxy
      go_enter Tryz.func35, Tryz.ntmps35
      go_wp2
      go_ret
      refine ⟨rfl, ?_⟩
      rw [HW2.out]
      exact HB2.out

theorem lost_func (p q : Nat) (w : World) : (Instr.makeFunc (.func 33) #[] #[.pointer (some ⟨p, 0, none⟩), .pointer (some ⟨q, 0, none⟩)]).run Tryz.prog w = .ok (.func (.func 33) #[] #[.pointer (some ⟨p, 0, none⟩), .pointer (some ⟨q, 0, none⟩)]) w := by
  kernel_rfl
/-- a message box of the call's own -/
def LBx (B : Nat) (x : Value) (W : World) : Prop := ∃ g, x = .pointer (some ⟨g, 0, none⟩) ∧ B ≤ g ∧ W.heap[g]? = some (.cells #[.int .i64 0, .int .i64 0, .int .i64 0, .int .i64 0, .int .i64 0, .int .i64 0, .int .i64 0, .slice none 0 0, .slice none 0 0, .string ⟨#[]⟩, .string ⟨#[]⟩] 26 (0, 0))
def LMs (M : Mg) (x : Value) : Prop := ∃ a n c a' n' c', x = mV M (.slice a n c) (.slice a' n' c')
def FLo (B : Nat) (M N : Mg) (s : Tmp) (x : Value) (W : World) : Prop := (s = 11 → LMs M x) ∧ (s = 14 → LMs N x) ∧ (s = 5 ∨ s = 6 → LBx B x W)
def PLo (s : Tmp) (x : Value) (s' : Tmp) (x' : Value) : Prop := s = 5 ∨ s = 6 → s' = 5 ∨ s' = 6 → x ≠ x'
theorem FLo.later {B : Nat} {M N : Mg} {s : Tmp} {x : Value} {W W' : World} (h : FLo B M N s x W) (hb : Below W.heap.size W W') : FLo B M N s x W' := ⟨h.1, h.2.1, fun e => by
  obtain ⟨g, h1, h2, h3⟩ := h.2.2 e
  exact ⟨g, h1, h2, (hb.block _ (Array.getElem?_eq_some_iff.1 h3).1).trans h3⟩⟩
theorem FMs.two {M : Mg} {x : Value} {W : World} (h : FMs M x W) : LMs M x := by
  obtain ⟨P, C, rfl, ⟨⟨a, c, rfl, _, _⟩, ⟨a', c', rfl, _, _⟩⟩⟩ := h
  exact ⟨_, _, _, _, _, _, rfl⟩
theorem lbx_new (B : Nat) (M N : Mg) (s : Tmp) (hs : s = 5 ∨ s = 6) (fs : List Tmp) {w : World} (hB : B ≤ w.heap.size) : FLo B M N s (.pointer (some ⟨w.heap.size, 0, none⟩)) (w.alloc (.cells #[.int .i64 0, .int .i64 0, .int .i64 0, .int .i64 0, .int .i64 0, .int .i64 0, .int .i64 0, .slice none 0 0, .slice none 0 0, .string ⟨#[]⟩, .string ⟨#[]⟩] 26)) ∧ Below w.heap.size w (w.alloc (.cells #[.int .i64 0, .int .i64 0, .int .i64 0, .int .i64 0, .int .i64 0, .int .i64 0, .int .i64 0, .slice none 0 0, .slice none 0 0, .string ⟨#[]⟩, .string ⟨#[]⟩] 26)) ∧
    ∀ d' ∈ fs, d' ≠ s → ∀ x', FLo B M N d' x' w → PLo s (.pointer (some ⟨w.heap.size, 0, none⟩)) d' x' ∧ PLo d' x' s (.pointer (some ⟨w.heap.size, 0, none⟩)) := by
  refine ⟨⟨fun e => by rcases hs with rfl | rfl <;> exact absurd e (by decide), fun e => by rcases hs with rfl | rfl <;> exact absurd e (by decide), fun _ => ⟨_, rfl, hB, World.alloc_heap_new _ _⟩⟩, (Below.refl _ _).alloc (Nat.le_refl _) _, fun d' _ _ x' hx => ?_⟩
  have key : d' = 5 ∨ d' = 6 → x' ≠ .pointer (some ⟨w.heap.size, 0, none⟩) := fun h e => by
    obtain ⟨g, h1, _, h3⟩ := hx.2.2 h
    rw [h1] at e
    injection e with e
    injection e with e
    injection e with e
    subst e
    have := (Array.getElem?_eq_some_iff.1 h3).1
    omega
  exact ⟨fun _ h e => key h e.symm, fun h _ e => key h e⟩
set_option maxHeartbeats 8000000 in
theorem slost_yes (M : Mg) (P C : Value) (v : Int) (w : World) (hs : Msm M) (h1 : MAt w w.heap.size M P C) (hE : mck M = 0) : Calls Tryz.prog 11 #[mV M P C, .int .i64 v] w fun e w' => ∃ b d P1 C1 P2 C2, e = .returned (.func (.func 33) #[] #[.pointer (some ⟨b, 0, none⟩), .pointer (some ⟨d, 0, none⟩)]) ∧ w.heap.size ≤ b ∧ w.heap.size ≤ d ∧ w'.heap[b]? = some (.cells (mC M P1 C1) 26 (0, 0)) ∧ w'.heap[d]? = some (.cells (mC (mproj M v) P2 C2) 26 (0, 0)) ∧ Below w.heap.size w w' := by
  obtain ⟨w2, hw2⟩ : ∃ w2, w.alloc (.cells (mC M P C) 26) = w2 := ⟨_, rfl⟩
  have hb2 : Below w.heap.size w w2 := by rw [← hw2]; exact (Below.refl _ w).alloc (Nat.le_refl _) _
  have q0 : w2.heap[w.heap.size]? = some (.cells (mC M P C) 26 (0, 0)) := by rw [← hw2]; exact World.alloc_heap_new _ _
  have hlt := (Array.getElem?_eq_some_iff.1 q0).1
  have KC : Calls Tryz.prog 25 #[.agg (mC M P C)] w2 fun e w' => e = .returned (.int .i64 (mck M)) ∧ Below w2.heap.size w2 w' := chk_F hs ⟨P, C, rfl, h1.later hb2⟩
  rw [hE] at KC
  have KC := Lib.hid KC
  have LM := Lib.hid (mg_read q0)
  have HW2 := Lib.hid hw2
  have HB2 := Lib.hid hb2
  have HQ := Lib.hid q0
  have HFM : Hid (∀ W, Below w2.heap.size w2 W → FMs M (.agg (mC M P C)) W) := Lib.hid fun W hW => ⟨P, C, rfl, (h1.later hb2).later hW⟩
  obtain ⟨N, hN⟩ : ∃ N, mproj M v = N := ⟨_, rfl⟩
  rw [hN]
  clear hw2 hb2 q0 h1 hE
  unfold mV at *
  go_enter Tryz.func11, Tryz.ntmps11
  go_wp2_with (rw [HW2.out]; refine wpList_load_run rfl 26 (.tmp 2) rfl (some ⟨w.heap.size, 0, none⟩) rfl (.agg (mC M P C)) LM.out ?_)
  refine KC.out.mono ?_
  rintro e w3 ⟨rfl, hb3⟩
  have HB3 := Lib.hid hb3
  have LM3 : ∀ W, Below w3.heap.size w3 W → (Instr.loadAt 26 (.pointer (some ⟨w.heap.size, 0, none⟩))).run Tryz.prog W = .ok (.agg (mC M P C)) W := fun W hW => mg_read (((hb3.trans (hW.mono hb3.size)).block _ hlt).trans HQ.out)
  have FM3 : ∀ W, Below w3.heap.size w3 W → FMs M (.agg (mC M P C)) W := fun W hW => HFM.out W (hb3.trans (hW.mono hb3.size))
  clear hb3 KC LM
  go_wp2_with fail
  refine wp_region_FTP 16 7 [11, 14, 5, 6] (FLo w3.heap.size M N) PLo (fun W => Below w3.heap.size w3 W) (by kernel_rfl) (by kernel_rfl) (by rfl) (by kernel_rfl) (by kernel_rfl) (by kernel_rfl) (by rfl) (by simp) (fun W W' h hb => h.trans (hb.mono h.size)) (fun s x W W' h hb => h.later hb) (Below.refl _ _).drew ?_
  simp only [List.take_succ_cons, List.take_zero, List.drop_succ_cons, List.drop_zero]
  refine wpP_F rfl ?_
  refine wpF_load (ad := ⟨w.heap.size, 0, none⟩) (.agg (mC M P C)) rfl (by rfl) (by rfl) (by rfl) LM3 ?_
  refine wpF_end ?_
  simp only [Act.put, List.setIfInBounds_toArray, List.set_cons_succ, List.set_cons_zero]
  refine wpP_callsrc 11 (f := 31) (args := #[.agg (mC M P C)]) (by simp) rfl rfl rfl (fun x => by first | rfl | (simp [go_sem]; done)) (fun W hW => (copy_F hs (FM3 W hW)).mono fun e w' h => by
    obtain ⟨u, e1, h2, h3⟩ := h
    exact ⟨u, e1, ⟨fun _ => h2.two, fun e => absurd e (by decide), fun e => absurd e (by decide)⟩, h3⟩) (fun u d' _ _ x' => ⟨fun e => absurd e (by decide), fun _ e => absurd e (by decide)⟩) ?_
  simp only [Act.put, List.setIfInBounds_toArray, List.set_cons_succ, List.set_cons_zero]
  refine wpP_F rfl ?_
  refine wpF_load (ad := ⟨w.heap.size, 0, none⟩) (.agg (mC M P C)) rfl (by rfl) (by rfl) (by rfl) LM3 ?_
  refine wpF_end ?_
  simp only [Act.put, List.setIfInBounds_toArray, List.set_cons_succ, List.set_cons_zero]
  refine wpP_F rfl ?_
  refine wpF_pure rfl rfl ?_; go_big_quiet_step (fail); refine wpQuiet_nil ?_
  refine wpF_end ?_
  refine wpP_callsrc 14 (f := 32) (args := #[.agg (mC M P C), .int .i64 v]) (by simp) rfl rfl rfl (fun x => by first | rfl | (simp [go_sem]; done)) (fun W hW => (proj_F v hs (FM3 W hW)).mono fun e w' h => by
    obtain ⟨u, e1, h2, h3⟩ := h
    rw [hN] at h2
    exact ⟨u, e1, ⟨fun e => absurd e (by decide), fun _ => h2.two, fun e => absurd e (by decide)⟩, h3⟩) (fun u d' _ _ x' => ⟨fun e => absurd e (by decide), fun _ e => absurd e (by decide)⟩) ?_
  simp only [Act.put, List.setIfInBounds_toArray, List.set_cons_succ, List.set_cons_zero]
  have hzz : ∀ W : World, (zeroValue 26).run Tryz.prog W = .ok (.agg #[.int .i64 0, .int .i64 0, .int .i64 0, .int .i64 0, .int .i64 0, .int .i64 0, .int .i64 0, .slice none 0 0, .slice none 0 0, .string ⟨#[]⟩, .string ⟨#[]⟩]) W := fun W => by kernel_rfl
  refine wpP_new 5 (by simp) rfl (by kernel_rfl) (by kernel_rfl) (fun W hW => ?_) ?_
  · obtain ⟨k1, k2, k3⟩ := lbx_new w3.heap.size M N 5 (.inl rfl) [11, 14, 5, 6] hW.size
    exact ⟨.pointer (some ⟨W.heap.size, 0, none⟩), _, by simp [execOp, go_sem, hzz W]; try rfl, k1, k2, k3⟩
  simp only [Act.put, List.setIfInBounds_toArray, List.set_cons_succ, List.set_cons_zero]
  refine wpP_new 6 (by simp) rfl (by kernel_rfl) (by kernel_rfl) (fun W hW => ?_) ?_
  · obtain ⟨k1, k2, k3⟩ := lbx_new w3.heap.size M N 6 (.inr rfl) [11, 14, 5, 6] hW.size
    exact ⟨.pointer (some ⟨W.heap.size, 0, none⟩), _, by simp [execOp, go_sem, hzz W]; try rfl, k1, k2, k3⟩
  simp only [Act.put, List.setIfInBounds_toArray, List.set_cons_succ, List.set_cons_zero]
  intro xs w4 hb4 hx hpr
  obtain ⟨a1, n1, c1, a2, n2, c2, e11⟩ := (hx 11 (by simp)).1 rfl
  obtain ⟨a3, n3, c3, a4, n4, c4, e14⟩ := (hx 14 (by simp)).2.1 rfl
  obtain ⟨g5, e5, hg5, h5⟩ := (hx 5 (by simp)).2.2 (.inl rfl)
  obtain ⟨g6, e6, hg6, h6⟩ := (hx 6 (by simp)).2.2 (.inr rfl)
  have hne : g5 ≠ g6 := fun e => hpr 5 (by simp) 6 (by simp) (by decide) (.inl rfl) (.inr rfl) (by rw [e5, e6, e])
  simp only [fill, Act.put, List.setIfInBounds_toArray, List.set_cons_succ, List.set_cons_zero]
  rw [e5, e6, e11, e14]
  clear hx hpr e5 e6 e11 e14 hzz LM3 FM3
  have st5 := mg_store w4 g5 _ (mC M (.slice a1 n1 c1) (.slice a2 n2 c2)) h5 rfl rfl (mg_one _ _ _ _ _ _ _)
  have row5 := setRow_heap w4 g5 _ (mC M (.slice a1 n1 c1) (.slice a2 n2 c2)) _ _ h5
  have of5 := Off.setRow (S := fun q => q = g5) (Off.refl _ w4) rfl (mC M (.slice a1 n1 c1) (.slice a2 n2 c2))
  obtain ⟨w5, hw5⟩ : ∃ w5, w4.setRow g5 (mC M (.slice a1 n1 c1) (.slice a2 n2 c2)) = w5 := ⟨_, rfl⟩
  rw [hw5] at st5 row5 of5
  have q6 := (of5.block g6 (Array.getElem?_eq_some_iff.1 h6).1 (fun e => hne e.symm)).trans h6
  have st6 := mg_store w5 g6 _ (mC N (.slice a3 n3 c3) (.slice a4 n4 c4)) q6 rfl rfl (mg_one _ _ _ _ _ _ _)
  have row6 := setRow_heap w5 g6 _ (mC N (.slice a3 n3 c3) (.slice a4 n4 c4)) _ _ q6
  have of6 := Off.setRow (S := fun q => q = g6) (Off.refl _ w5) rfl (mC N (.slice a3 n3 c3) (.slice a4 n4 c4))
  obtain ⟨w6, hw6⟩ : ∃ w6, w5.setRow g6 (mC N (.slice a3 n3 c3) (.slice a4 n4 c4)) = w6 := ⟨_, rfl⟩
  rw [hw6] at st6 row6 of6
  have q5 := (of6.block g5 (Array.getElem?_eq_some_iff.1 row5).1 hne).trans row5
  have h23 := HB3.out.size
  have h02 := HB2.out.size
  have hb24 := HB3.out.trans (hb4.mono h23)
  have hb45 : Below w2.heap.size w4 w5 := of5.below (fun q hq => by omega) (by have := hb4.size; omega)
  have hb56 : Below w2.heap.size w5 w6 := of6.below (fun q hq => by omega) (by have := hb45.size; have := hb4.size; omega)
  have HF := Lib.hid (HB2.out.trans ((hb24.trans (hb45.trans hb56)).mono h02))
  have HST5 := Lib.hid st5
  have HST6 := Lib.hid st6
  have HQ56 := Lib.hid (And.intro q5 row6)
  have hfn := lost_func g5 g6 w6
  have h05 : w.heap.size ≤ g5 := by omega
  have h06 : w.heap.size ≤ g6 := by omega
  clear st5 row5 of5 hw5 q6 st6 row6 of6 hw6 q5 hb24 hb45 hb56 h5 h6 hb4
  refine wpList_store_run rfl 26 (.tmp 5) (.tmp 11) rfl (some ⟨g5, 0, none⟩) rfl (.agg (mC M (.slice a1 n1 c1) (.slice a2 n2 c2))) rfl HST5.out ?_
  refine wpList_store_run rfl 26 (.tmp 6) (.tmp 14) rfl (some ⟨g6, 0, none⟩) rfl (.agg (mC N (.slice a3 n3 c3) (.slice a4 n4 c4))) rfl HST6.out ?_
  go_wp2
  go_ret
  exact ⟨g5, g6, _, _, _, _, rfl, h05, h06, HQ56.out.1, HQ56.out.2, HF.out⟩
end Go.Proofs.YtlbfibnfmijahaaGreat

namespace Go.Proofs.YtlbfibnfmijahaaGreat
open Go.RowKit Go.Shelf
set_option maxRecDepth 100000
attribute [local go_sem] Oper.semAt_some

end Go.Proofs.YtlbfibnfmijahaaGreat

namespace Go.Proofs.YtlbfibnfmijahaaGreat
open Go.RowKit Go.Shelf
set_option maxRecDepth 100000
attribute [local go_sem] Oper.semAt_some

end Go.Proofs.YtlbfibnfmijahaaGreat

namespace Go.Proofs.YtlbfibnfmijahaaGreat
open Go.RowKit Go.Shelf
set_option maxRecDepth 100000
attribute [local go_sem] Oper.semAt_some

end Go.Proofs.YtlbfibnfmijahaaGreat

namespace Go.Proofs.YtlbfibnfmijahaaGreat
open Go.RowKit Go.Shelf
set_option maxRecDepth 100000
attribute [local go_sem] Oper.semAt_some

/-- is a field to be handed out? -/
def lostP (M : Mg) (v : Int) (f : Fd) : Bool := decide (f.si = 2) && !(likeF M (mproj M v) f)
theorem lostP_all {M : Mg} (h : mck M = 0) (v : Int) : (FD M.k).filter (lostP M v) = mlost M v := by
  unfold mlost
  by_cases hv : v = 1
  · subst hv
    rw [if_neg (by simp [h])]
    refine List.filter_congr fun f hf => ?_
    rw [lost_alt M f hf]
    unfold lostP likeF
    rcases (Int.lt_or_le f.si 2) with h2 | h2
    · simp [show ¬ f.si = 2 by omega]
    · have hs2 : f.si = 2 := by
        have := (FD_all M.k f hf).1
        omega
      rcases FD_two M.k f hf hs2 with ⟨hso, jj, _, hpl⟩ | ⟨hso, _⟩
      · simp [hs2, hso, hpl]
      · simp [hs2, hso]
  · rw [if_pos (.inr hv), List.filter_eq_nil_iff]
    intro f _
    unfold lostP likeF mproj
    rw [if_neg hv]
    simp
set_option maxHeartbeats 16000000 in
/-- the iterator of a right one: the names of what is lost -/
theorem slost_in (n : Nat) (hn5 : 5 ≤ n) (m' l b d s0 : Nat) (M : Mg) (P C P2 C2 : Value) (v : Int) (LL : List Fd) (hLL : (FD M.k).filter (lostP M v) = LL) (Dn : Nat → World → Prop) (Bk Xp : World → Prop) (Kp : World → World → Prop) (hls : l < s0 + 2)
    (hDb : ∀ j A B, Dn j A → Below s0 A B → Dn j B)
    (hDm : ∀ j V, Dn j V → V.heap[b]? = some (.cells (mC M P C) 26 (0, 0)) ∧ V.heap[d]? = some (.cells (mC (mproj M v) P2 C2) 26 (0, 0)))
    (hBk : ∀ A B, Bk A → A.heap.size ≤ B.heap.size → (∀ k, s0 ≤ k → k < s0 + 2 → B.heap[k]? = A.heap[k]?) → Bk B) (hBlt : ∀ A, Bk A → s0 + 2 ≤ A.heap.size)
    (hX : ∀ A l' o o', Xp A → s0 + 2 ≤ l' → A.heap[l']? = some o → o.isCells = false → Xp (A.putObj l' o'))
    (hKp : ∀ V V' k cs t, Kp V V' → s0 + 2 ≤ k → V.heap[k]? = some (.cells cs t (0, 0)) → V'.heap[k]? = some (.cells cs t (0, 0)))
    (hY : ∀ (j : Nat) (f : Fd) (V : World), Dn j V → LL[j]? = some f → Bk V → YieldAt Fence.wide m' Tryz.prog l #[.string f.nm] V (YPost s0 l Kp (fun W2 => Dn (j + 1) W2 ∧ Bk W2) Xp V))
    (W : World) (hD0 : Dn 0 W) (hB0 : Bk W) :
    CallsIn Fence.wide n Tryz.prog 33 #[.func (.yield l) #[] #[], .pointer (some ⟨b, 0, none⟩), .pointer (some ⟨d, 0, none⟩)] W fun e W' => (∃ v, e = .returned v) ∧ ((Dn LL.length W' ∧ Bk W') ∨ Xp W') := by
  have hn1 : 1 ≤ n := by omega
  have hsW := hBlt W hB0
  obtain ⟨m0, _⟩ := hDm 0 W hD0
  have hbl := (Array.getElem?_eq_some_iff.1 m0).1
  obtain ⟨yb, hyb⟩ : ∃ yb, W.heap.size = yb := ⟨_, rfl⟩
  obtain ⟨w1, hw1⟩ : ∃ w1, W.alloc (.cells #[.func (.yield l) #[] #[]] 82) = w1 := ⟨_, rfl⟩
  have hb1 : Below yb W w1 := by rw [← hw1, ← hyb]; exact (Below.refl _ W).alloc (Nat.le_refl _) _
  have y1 : w1.heap[yb]? = some (.cells #[.func (.yield l) #[] #[]] 82 (0, 0)) := by rw [← hw1, ← hyb]; exact World.alloc_heap_new _ _
  have hs1 : w1.heap.size = yb + 1 := by rw [← hw1, ← hyb]; simp
  have m1 := (hb1.block _ (by omega)).trans m0
  have k1 := row_cell m1 0 (.int .i64 M.k) rfl
  have HTW := Lib.hid (FD_two M.k)
  have HAL := Lib.hid (FD_all M.k)
  have HY := Lib.hid hY
  have HW1 := Lib.hid hw1
  have HDM := Lib.hid hDm
  have KA := Lib.hid (fall_any M.k 2 w1)
  rw [hs1] at KA
  obtain ⟨N, hN⟩ : ∃ N, mproj M v = N := ⟨_, rfl⟩
  obtain ⟨FL, hFL⟩ : ∃ FL, FD M.k = FL := ⟨_, rfl⟩
  have hF2 := FDv_two M.k
  have hpf : ∀ f, lostP M v f = (decide (f.si = 2) && !(likeF M N f)) := fun f => by unfold lostP; rw [hN]
  obtain ⟨lp, hlp⟩ : ∃ lp, lostP M v = lp := ⟨_, rfl⟩
  rw [hlp] at hpf hLL
  rw [hFL] at hLL HTW HAL hF2
  rw [hN] at HDM
  have HF2 := Lib.hid hF2
  have HPF := Lib.hid hpf
  have HLL := Lib.hid hLL
  clear hY hw1 m1 hN hFL hF2 hpf hlp hLL hDm
  refine callsIn_of_wp_marks Tryz.func33 rfl trivial ?_ rfl
  simp only [Tryz.ntmps33, List.size_toArray, List.length_cons, List.length_nil, Nat.reduceAdd, Nat.reduceSub, Array.replicate_succ, Array.replicate_zero, List.push_toArray, List.append_toArray, List.nil_append, List.cons_append]
  gi_wp2_with fail
  refine wpIn_wide.2 (wp_scope_straight ((wpIn_wide (n := n)).1 ?_))
  gi_wp2_with fail
  apply wpIn_label
  rw [HW1.out]
  gi_wp2_with fail
  refine ⟨trivial, (callsIn_wide.2 KA.out).mono ?_⟩
  rintro e w6 ⟨rfl, hg0, hg1, hb6⟩
  have hs6 := (Array.getElem?_eq_some_iff.1 hg1).1
  have hbW6 : Below yb W w6 := hb1.trans (hb6.mono (by omega))
  have y6 := (hb6.block _ (by omega)).trans y1
  have hsy : s0 ≤ yb := by omega
  have hD6 := hDb 0 _ _ hD0 (hbW6.mono hsy)
  have hB6 : Bk w6 := hBk _ _ hB0 hbW6.size (fun k _ h2 => hbW6.block k (by omega))
  obtain ⟨BX, hBX⟩ : ∃ BX : World → Prop, BX = fun V => w6.heap.size ≤ V.heap.size ∧ V.heap[yb]? = some (.cells #[.func (.yield l) #[] #[]] 82 (0, 0)) ∧ V.heap[yb + 1]? = some (.cells #[.int .i64 M.k] 3 (0, 0)) ∧ V.heap[yb + 1 + 1]? = some (.cells #[.int .i64 2] 3 (0, 0)) := ⟨_, rfl⟩
  have hBX0 : ∀ V, BX V → w6.heap.size ≤ V.heap.size ∧ V.heap[yb]? = some (.cells #[.func (.yield l) #[] #[]] 82 (0, 0)) ∧ V.heap[yb + 1]? = some (.cells #[.int .i64 M.k] 3 (0, 0)) ∧ V.heap[yb + 1 + 1]? = some (.cells #[.int .i64 2] 3 (0, 0)) := fun V hV => by rwa [hBX] at hV
  have hBXb : ∀ V V', BX V → Below w6.heap.size V V' → BX V' := fun V V' h hb => by
    rw [hBX] at h ⊢
    exact ⟨Nat.le_trans h.1 hb.size, (hb.block _ (by omega)).trans h.2.1, (hb.block _ (by omega)).trans h.2.2.1, (hb.block _ (by omega)).trans h.2.2.2⟩
  have hBXk : ∀ V V', BX V → Kp V V' → V.heap.size ≤ V'.heap.size → BX V' := fun V V' h hk hsz => by
    rw [hBX] at h ⊢
    exact ⟨Nat.le_trans h.1 hsz, hKp _ _ _ _ _ hk (by omega) h.2.1, hKp _ _ _ _ _ hk (by omega) h.2.2.1, hKp _ _ _ _ _ hk (by omega) h.2.2.2⟩
  have hBX6 : BX w6 := by rw [hBX]; exact ⟨Nat.le_refl _, y6, hg0, hg1⟩
  have hJb : ∀ j V, Dn j V ∧ Bk V ∧ BX V → ∀ V', Below w6.heap.size V V' → Dn j V' ∧ Bk V' ∧ BX V' := fun j V h V' hb =>
    ⟨hDb _ _ _ h.1 (hb.mono (by omega)), hBk _ _ h.2.1 hb.size (fun k _ h2 => hb.block k (by omega)), hBXb _ _ h.2.2 hb⟩
  obtain ⟨cnt, hcnt⟩ : ∃ cnt : Nat → Nat, cnt = fun p => ((FL.take p).filter lp).length := ⟨_, rfl⟩
  have hc0 : cnt 0 = 0 := by rw [hcnt]; simp
  have hcS : ∀ p f, FL[p]? = some f → cnt (p + 1) = cnt p + (if lp f then 1 else 0) := fun p f hf => by rw [hcnt]; exact filter_take hf
  have hcG : ∀ p f, FL[p]? = some f → lp f = true → LL[cnt p]? = some f := fun p f hf h => by rw [hcnt, ← HLL.out]; exact filter_get hf h
  have hcE : cnt FL.length = LL.length := by rw [hcnt, ← HLL.out]; simp
  have HCS := Lib.hid hcS
  have HCG := Lib.hid hcG
  have HCE := Lib.hid hcE
  clear hBX hbW6 y6 y1 hg0 hg1 hb1 hb6 k1 m0 KA HW1 hcnt hcS hcG hcE
  rw [← hc0] at hD0 hD6
  clear hD0
  gi_wp2_with fail
  refine range_stopb rfl hn1 (gf := 51) (lb := #[.pointer (some ⟨yb + 1, 0, none⟩), .pointer (some ⟨yb + 1 + 1, 0, none⟩)]) rfl trivial (enters_of Tryz.func51 (by kernel_rfl) rfl)
    (fun f : Fd => #[f.v]) (fun _ => rfl)
    (fun j f V => FL[j]? = some f ∧ Dn (cnt j) V ∧ Bk V ∧ BX V)
    (fun j f q V => (FL[j]? = some f ∧ Dn (cnt j) V ∧ Bk V ∧ BX V) ∧ w6.heap.size ≤ q ∧ V.heap[q]? = some (.cells f.cs 87 (0, 0)))
    (fun j V => Dn (cnt j) V ∧ Bk V ∧ BX V)
    (fun cd V => cd = .exit 0 ∧ Xp V)
    (KeT 87 3 (yb + 1)) FL.length
    (fun j f q V l' o o' h hl ho hc' => ⟨⟨h.1.1, hJb _ V h.1.2 _ (below_put V o' hl)⟩, h.2.1, (World.putObj_heap_other (fun e => by subst e; rw [h.2.2] at ho; injection ho with ho; subst ho; cases hc')).trans h.2.2⟩)
    (fun j V l' o o' h hl ho hc' => hJb _ V h _ (below_put V o' hl))
    (fun cd V l' o o' h hl ho hc' => ⟨h.1, hX V l' o o' h.2 (by omega) ho hc'⟩)
    (fun _ _ _ h k => h.trans k) (fun V l' o o' hl ho hc' => KeT.putObj ho hc')
    (fun o => hJb _ w6 ⟨hD6, hB6, hBX6⟩ _ (((Below.refl w6.heap.size w6).alloc (Nat.le_refl _) _).alloc (by simp) _)) ?round ?iter ?done ?stop
  case round =>
    rintro l2 j f V K ⟨hf, hJ⟩ hj hK
    have HK := Lib.hid hK
    have hsz := (hBX0 V hJ.2.2).1
    clear hK hD6 hB6 hBX6
    unfold Fd.v Fd.cs
    gi_wp2_with fail
    refine HK.out _ V.heap.size _ ⟨⟨hf, hJb _ V hJ _ ((Below.refl _ V).alloc hsz _)⟩, hsz, World.alloc_heap_new _ _⟩ ⟨by simp, fun q o _ ho _ => (Below.heap_alloc _ _ _ (Array.getElem?_eq_some_iff.1 ho).1).trans ho⟩ (KeT.of_below ((Below.refl _ V).alloc (Nat.le_refl _) _)) ?_
    clear HK hJ
    rintro l2 V2 hl2 ⟨⟨_, hJ⟩, hq, hc⟩
    obtain ⟨qb, hqb⟩ : ∃ qb, V.heap.size = qb := ⟨_, rfl⟩
    rw [hqb] at hq hc ⊢
    clear hqb
    obtain ⟨m2, n2⟩ := HDM.out _ V2 hJ.1
    obtain ⟨hs2, y2, _⟩ := hBX0 V2 hJ.2.2
    have hqlt := (Array.getElem?_eq_some_iff.1 hc).1
    obtain ⟨d0, _, _, _, _, d5, _⟩ := fd_block hc
    have hal := (HAL.out f (List.mem_of_getElem? hf)).1
    have htw := HTW.out f (List.mem_of_getElem? hf)
    have hcs := HCS.out j f hf
    have hcg := HCG.out j f hf
    have hpf := HPF.out f
    have HJ := Lib.hid hJ
    have HF := Lib.hid hf
    have HM2 := Lib.hid m2
    have HN2 := Lib.hid n2
    have HC2 := Lib.hid hc
    have HY2 := Lib.hid y2
    clear hJ hf m2 n2 hc y2
    by_cases h2 : f.si < 2
    · have hlf : lp f = false := by rw [hpf]; simp; omega
      rw [hlf] at hcs
      have hfin := Lib.hid (show KeepsFrom w6.heap.size V2 V2 ∧ (Dn (cnt (j + 1)) V2 ∧ Bk V2 ∧ BX V2) ∧ KeT 87 3 (yb + 1) V2 V2 from ⟨⟨Nat.le_refl _, fun _ _ _ ho _ => ho⟩, (by rw [hcs]; exact HJ.out), KeT.refl _⟩)
      clear hcs hcg hpf htw hal hlf
      gi_wp2
      exact hfin.out
    · obtain hsi : f.si = 2 := by omega
      have htw := htw hsi
      rw [hsi] at d5
      have KL := Lib.hid (alike_any M N f P C P2 C2 V2 htw)
      have LM := Lib.hid (mg_read HM2.out)
      have LN := Lib.hid (mg_read HN2.out)
      have LF : Hid ((Instr.loadAt 87 (.pointer (some ⟨qb, 0, none⟩))).run Tryz.prog V2 = .ok f.v V2) := by
        obtain ⟨t0, t1, t2, t3, t4, t5, t6⟩ := fd_block HC2.out
        exact Lib.hid (by simp [Instr.loadAt, go_sem, t0, t1, t2, t3, t4, t5, t6, Fd.v, Fd.cs])
      unfold mV at LM LN
      have hlf : lp f = !(likeF M N f) := by rw [hpf, hsi]; simp
      obtain ⟨Lk, hLk⟩ : ∃ Lk, likeF M N f = Lk := ⟨_, rfl⟩
      rw [hLk] at KL hlf
      clear hLk hpf htw hal h2 hsi
      gi_wp2_with (first | refine wpListIn_load_run rfl 26 (.tmp 1) rfl (some ⟨b, 0, none⟩) rfl (.agg (mC M P C)) LM.out ?_ | refine wpListIn_load_run rfl 26 (.tmp 2) rfl (some ⟨d, 0, none⟩) rfl (.agg (mC N P2 C2)) LN.out ?_ | refine wpListIn_load_run rfl 87 (.tmp 4) rfl (some ⟨qb, 0, none⟩) rfl f.v LF.out ?_)
      refine ⟨trivial, fun _ => by omega, ?_⟩
      refine (CallsIn.inRound l2 (callsIn_wide.2 KL.out)).mono ?_
      rintro e V3 ⟨rfl, hb3⟩
      have hJ3 := hJb _ V2 HJ.out V3 (hb3.mono hs2)
      have hkf : KeepsFrom w6.heap.size V2 V3 := ⟨hb3.size, fun q o _ ho _ => (hb3.block q (Array.getElem?_eq_some_iff.1 ho).1).trans ho⟩
      have hke : KeT 87 3 (yb + 1) V2 V3 := KeT.of_below hb3
      clear KL LM LN LF d5
      cases Lk
      · have hlt : lp f = true := by rw [hlf]; rfl
        rw [hlt, if_pos rfl] at hcs
        have hyld := HY.out _ f V3 hJ3.1 (hcg hlt) hJ3.2.1
        obtain ⟨fn, tmps, assign, body, hyr, hR⟩ := yield_any (n - 1 - 1 - 1) hyld
        have HR := Lib.hid hR
        have HX3 := Lib.hid hJ3.2.2
        have HKF := Lib.hid hkf
        have HKE := Lib.hid hke
        have e0 := row_cell ((hb3.block _ hqlt).trans HC2.out) 0 (.string f.nm) rfl
        have e1 := row_cell ((hb3.block _ (by have := (Array.getElem?_eq_some_iff.1 HY2.out).1; omega)).trans HY2.out) 0 (.func (.yield l) #[] #[]) rfl
        clear hR hyld hJ3 hkf hke hcg hlf hlt d0 hb3
        gi_wp2_with fail
        refine ⟨fun _ => by omega, ?_⟩
        refine RoundIn.mono (F := Fence.wide.inRound l2) HR.out ?_
        rintro e V6 (⟨rfl, ⟨hd, hb⟩, hk, hkb⟩ | ⟨rfl, hx, hkb⟩)
        · have hX6 := hBXk _ _ HX3.out hk hkb.size
          rw [← hcs] at hd
          have hfin := Lib.hid (show KeepsFrom w6.heap.size V2 V6 ∧ (Dn (cnt (j + 1)) V6 ∧ Bk V6 ∧ BX V6) ∧ KeT 87 3 (yb + 1) V2 V6 from
            ⟨⟨Nat.le_trans HKF.out.size hkb.size, fun q o h1 h2 h3 => hkb.same q o (by omega) (by omega) (HKF.out.same q o h1 h2 h3) h3⟩, ⟨hd, hb, hX6⟩,
              ⟨Nat.le_trans HKF.out.size hkb.size, fun q cs t hq ht hA => (hKp V3 V6 q cs t hk (by omega) ((HKE.out.same q cs t hq ht hA).trans hA)).trans hA.symm⟩⟩)
          clear hd hb hk hkb hX6 HR
          gi_wp2
          exact hfin.out
        · have hfin := Lib.hid (show KeepsFrom w6.heap.size V2 V6 ∧ Xp V6 from
            ⟨⟨Nat.le_trans HKF.out.size hkb.size, fun q o h1 h2 h3 => hkb.same q o (by omega) (by omega) (HKF.out.same q o h1 h2 h3) h3⟩, hx⟩)
          clear hx hkb HR
          gi_wp2
          exact ⟨hfin.out.1, rfl, hfin.out.2⟩
      · have hlt : lp f = false := by rw [hlf]; rfl
        rw [hlt] at hcs
        have hfin := Lib.hid (show KeepsFrom w6.heap.size V2 V3 ∧ (Dn (cnt (j + 1)) V3 ∧ Bk V3 ∧ BX V3) ∧ KeT 87 3 (yb + 1) V2 V3 from ⟨hkf, (by rw [hcs]; exact hJ3), hke⟩)
        clear hcs hcg hlf hlt hJ3 hkf hke d0 hb3
        gi_wp2
        exact hfin.out
  case iter =>
    intro Bk2 X2 l2 V hBk2 hBlt2 hX2 hl2 hDV hBV hYV
    obtain ⟨_, _, g0V, g1V⟩ := hBX0 V hDV.2.2
    have h := fall_in (n - 1) (by omega) (n - 1 - 1) l2 (yb + 1) M.k 2 (fun j V => (Dn (cnt j) V ∧ Bk V ∧ BX V) ∧ Bk2 V) X2
      (fun j A B h hb => ⟨hJb _ A h.1 B (hb.mono (hBX0 A h.1.2.2).1), hBk2 A _ h.2 hb.size (fun q h1 h2 => by have := hBlt2 A h.2; exact hb.block q (by omega))⟩)
      (fun j f W h hf => by
        rw [HF2.out] at hf
        exact (hYV j f W ⟨hf, h.1⟩ h.2 (List.getElem?_eq_some_iff.1 hf).1).mono (fun e W2 h => h.elim (fun h => .inl ⟨h.1, h.2.1, h.2.2.1⟩) (fun h => .inr ⟨h.1, h.2.1⟩)))
      V g0V g1V ⟨hDV, hBV⟩
    rw [HF2.out] at h
    exact h
  case done =>
    rintro D V hD ⟨hDV, hBV, _⟩ hK
    rw [HCE.out] at hDV
    have hfin := Lib.hid (And.intro (hDb _ _ _ hDV (below_put V (.deferred none) (by omega : s0 ≤ D))) (hBk _ _ hBV (by simp [World.putObj]) (fun k _ h2 => World.putObj_heap_other (by omega)) : Bk (V.putObj D (.deferred none))))
    clear hDV hBV hD6 hB6 hBX6
    gi_wp2
    refine ⟨by simp, .inl ⟨_, _, rfl, run_takeDeferred hK, ?_⟩⟩
    refine ⟨_, results_none rfl _ _ _, ?_⟩
    exact ⟨⟨_, rfl⟩, .inl hfin.out⟩
  case stop =>
    rintro D cd V hD ⟨rfl, hx⟩ hK
    have hfin := Lib.hid (hX V D _ (.deferred none) hx (by omega) hK rfl)
    clear hx
    gi_wp2
    refine ⟨by simp, .inl ⟨_, _, rfl, run_takeDeferred hK, ?_⟩⟩
    refine ⟨_, results_none rfl _ _ _, ?_⟩
    exact ⟨⟨_, rfl⟩, .inr hfin.out⟩
end Go.Proofs.YtlbfibnfmijahaaGreat

namespace Go.Proofs.YtlbfibnfmijahaaGreat
open Go.RowKit Go.Shelf
set_option maxRecDepth 100000
attribute [local go_sem] Oper.semAt_some

set_option maxHeartbeats 4000000 in
theorem sbest_any (M : Mg) (P C : Value) (w : World) (hs : Msm M) (h1 : MAt w w.heap.size M P C) : Calls Tryz.prog 7 #[mV M P C] w fun e w' => e = .returned (.tuple #[.int .i64 (mbest M).1, .int .i64 (mbest M).2]) ∧ Below w.heap.size w w' := by
  obtain ⟨w2, hw2⟩ : ∃ w2, w.alloc (.cells (mC M P C) 26) = w2 := ⟨_, rfl⟩
  have hb2 : Below w.heap.size w w2 := by rw [← hw2]; exact (Below.refl _ w).alloc (Nat.le_refl _) _
  have q0 : w2.heap[w.heap.size]? = some (.cells (mC M P C) 26 (0, 0)) := by rw [← hw2]; exact World.alloc_heap_new _ _
  have hlt := (Array.getElem?_eq_some_iff.1 q0).1
  have LM0 : (Instr.loadAt 26 (.pointer (some ⟨w.heap.size, 0, none⟩))).run Tryz.prog w2 = .ok (.agg (mC M P C)) w2 := mg_read q0
  have KC : Calls Tryz.prog 25 #[.agg (mC M P C)] w2 fun e w' => e = .returned (.int .i64 (mck M)) ∧ Below w2.heap.size w2 w' := chk_F hs ⟨P, C, rfl, h1.later hb2⟩
  have LM : Hid (∀ W, Below w2.heap.size w2 W → (Instr.loadAt 26 (.pointer (some ⟨w.heap.size, 0, none⟩))).run Tryz.prog W = .ok (.agg (mC M P C)) W) := Lib.hid fun W hW => mg_read ((hW.block _ hlt).trans q0)
  have KF : Hid (∀ (v : Int) W, Below w2.heap.size w2 W → Calls Tryz.prog 27 #[.agg (mC M P C), .int .i64 v] W fun e w' => e = .returned (.bool (decide (mproj M v = M))) ∧ Below W.heap.size W w') := Lib.hid fun v W hW => sfit_any M P C v W hs ((h1.later hb2).later hW)
  have HW2 := Lib.hid hw2
  have HB2 := Lib.hid hb2
  have HL0 := Lib.hid LM0
  clear hw2 hb2 q0 h1 LM0
  have hP2 := sproj_two M
  unfold mV mbest
  obtain ⟨E, hEE⟩ : ∃ E, mck M = E := ⟨_, rfl⟩
  rw [hEE] at KC ⊢
  have KC := Lib.hid KC
  clear hEE
  by_cases hE : E = 0
  · subst hE
    rw [if_neg (by simp)]
    obtain ⟨R, hR⟩ : ∃ R, (if mproj M 1 = M then ((1, 0) : Int × Int) else (2, 0)) = R := ⟨_, rfl⟩
    rw [hR]
    have HR := Lib.hid hR
    clear hR
    refine (callsIn_wide (n := 9)).1 ?_
    refine callsIn_of_wp_marks Tryz.func7 rfl trivial ?_ rfl
    simp only [Tryz.ntmps7, List.size_toArray, List.length_cons, List.length_nil, Nat.reduceAdd, Nat.reduceSub, Array.replicate_succ, Array.replicate_zero, List.push_toArray, List.append_toArray, List.nil_append, List.cons_append]
    gi_wp2_with fail
    rw [HW2.out]
    refine wpIn_wide.2 (wp_scope_straight ((wpIn_wide (n := 9)).1 ?_))
    gi_wp2_with (refine wpListIn_load_run rfl 26 (.tmp 1) rfl (some ⟨w.heap.size, 0, none⟩) rfl (.agg (mC M P C)) HL0.out ?_)
    refine ⟨trivial, (callsIn_wide.2 KC.out).mono ?_⟩
    rintro e w3 ⟨rfl, hb3⟩
    obtain ⟨Bq, hBq⟩ : ∃ Bq, w3.heap.size = Bq := ⟨_, rfl⟩
    obtain ⟨w4, hw4⟩ : ∃ w4, w3.alloc (.cells #[.int .i64 0] 3) = w4 := ⟨_, rfl⟩
    have hb34 : Below w3.heap.size w3 w4 := by rw [← hw4]; exact (Below.refl _ w3).alloc (Nat.le_refl _) _
    have bF : Boxed w4 Bq 3 (.int .i64 0) := by rw [← hw4, ← hBq]; exact Boxed.new w3 3 (.int .i64 0)
    have hs4 : w4.heap.size = Bq + 1 := by rw [← hw4, ← hBq]; simp
    have hb24 : Below w2.heap.size w2 w4 := hb3.trans (hb34.mono hb3.size)
    have hq2 : w2.heap.size ≤ Bq := by have := hb3.size; omega
    have HW4 := Lib.hid hw4
    have HB24 := Lib.hid hb24
    have HBQ := Lib.hid hBq
    clear KC hw4 hb34 hb3 hb24 HL0 HW2 hBq
    gi_wp2_with fail
    rw [HBQ.out, HW4.out]
    apply wpIn_label
    gi_wp2_with fail
    refine ⟨trivial, ?_⟩
    refine (callsIn_wide.2 (svers_any w4)).mono ?_
    rintro e w1 ⟨rfl, rfl⟩
    gi_wp2_with fail
    refine range_stops rfl (by omega) (gf := 47) (lb := #[]) rfl trivial (enters_of Tryz.func47 (by kernel_rfl) rfl)
      (fun j : Nat => #[.int .i64 ((j : Int) + 1)]) (fun _ => rfl)
      (fun j x' V => x' = j ∧ (∀ i : Nat, i < j → mproj M ((i : Int) + 1) ≠ M) ∧ Below w4.heap.size w4 V)
      (fun j V => (∀ i : Nat, i < j → mproj M ((i : Int) + 1) ≠ M) ∧ Below w4.heap.size w4 V)
      (fun cd V => cd = .exit 0 ∧ ∃ j : Nat, j < 2 ∧ (∀ i : Nat, i < j → mproj M ((i : Int) + 1) ≠ M) ∧ mproj M ((j : Int) + 1) = M ∧ Boxed V Bq 3 (.int .i64 ((j : Int) + 1)) ∧ Off (fun q => q = Bq) w4 V) (fun _ _ => True) 2
      (fun j x' V l o o' h hl ho hc' => ⟨h.1, h.2.1, h.2.2.trans (below_put V o' hl)⟩)
      (fun j V l o o' h hl ho hc' => ⟨h.1, h.2.trans (below_put V o' hl)⟩)
      (fun cd V l o o' h hl ho hc' => by
        obtain ⟨h1, j, h2, h3, h4, h5, h6⟩ := h
        exact ⟨h1, j, h2, h3, h4, (World.putObj_heap_other (by omega)).trans h5, off_below h6 (below_put V o' hl)⟩)
      (fun _ _ _ _ _ => trivial) (fun _ _ _ _ _ _ _ => trivial)
      (fun o => ⟨fun i hi => by omega, ((Below.refl w4.heap.size w4).alloc (Nat.le_refl _) _).alloc (by simp) _⟩) ?a1 ?assign ?body ?iter ?done ?stop
    case assign =>
      intro l x' V K' hK'
      gi_wp2
      exact hK'
    case body =>
      rintro l j x' V hl ⟨rfl, hn, hbV⟩ hj
      have hb2V := HB24.out.trans (hbV.mono HB24.out.size)
      have LV := Lib.hid (LM.out V hb2V)
      have KV := Lib.hid (KF.out ((x' : Int) + 1) V hb2V)
      have HBV := Lib.hid hbV
      have HN := Lib.hid hn
      clear hn hbV hb2V
      gi_wp2_with (refine wpListIn_load_run rfl 26 (.tmp 1) rfl (some ⟨w.heap.size, 0, none⟩) rfl (.agg (mC M P C)) LV.out ?_)
      refine ⟨trivial, ((callsIn_wide.2 KV.out).inRound l).mono ?_⟩
      rintro e V2 ⟨rfl, hb2'⟩
      have hbV2 : Below w4.heap.size w4 V2 := HBV.out.trans (hb2'.mono HBV.out.size)
      have hkf : KeepsFrom w4.heap.size V V2 := ⟨hb2'.size, fun q o _ h2 _ => (hb2'.block q (Array.getElem?_eq_some_iff.1 h2).1).trans h2⟩
      by_cases h : mproj M ((x' : Int) + 1) = M
      · rw [decide_eq_true h]
        have bFV : Boxed V2 Bq 3 (.int .i64 0) := (hbV2.block _ (by omega)).trans bF
        have e0 := bFV.cell
        have e1 := bFV.frozen
        have hfin := Lib.hid (show _ ∧ _ ∧ _ from ⟨hkf.trans ((KeepsOthers.setCell V2 ⟨Bq, 0, none⟩ (.int .i64 ((x' : Int) + 1))).from w4.heap.size), bFV.set (.int .i64 ((x' : Int) + 1)), (off_below (Off.refl (fun q => q = Bq) w4) hbV2).setCell (p := ⟨Bq, 0, none⟩) rfl (.int .i64 ((x' : Int) + 1))⟩)
        have HH := Lib.hid h
        clear hbV2 hkf bFV h hb2' KV LV HBV
        gi_wp2
        exact ⟨hfin.out.1, rfl, x', hj, HN.out, HH.out, hfin.out.2⟩
      · rw [decide_eq_false h]
        have hfin := Lib.hid (show _ ∧ _ ∧ _ from ⟨hkf, (fun i hi => by
          rcases Nat.lt_or_ge i x' with h1 | h1
          · exact HN.out i h1
          · obtain rfl : i = x' := by omega
            exact h : ∀ i : Nat, i < x' + 1 → mproj M ((i : Int) + 1) ≠ M), hbV2⟩)
        clear hbV2 hkf h hb2' KV LV HBV HN
        gi_wp2
        exact ⟨hfin.out.1, hfin.out.2, trivial⟩
    case iter =>
      intro Bk X l V hBk hBlt hX hl hD hB hY
      exact svers_in 8 (by omega) 7 l (fun j V => ((∀ i : Nat, i < j → mproj M ((i : Int) + 1) ≠ M) ∧ Below w4.heap.size w4 V) ∧ Bk V) X
        (fun j W h hj => (hY j j W ⟨rfl, h.1⟩ h.2 hj).mono (fun e W2 h => h.elim (fun h => .inl ⟨h.1, h.2.1⟩) (fun h => .inr ⟨h.1, h.2.1⟩)))
        V ⟨hD, hB⟩
    case done =>
      rintro D V hD ⟨hn, hbV⟩ hK
      exact absurd hP2 (hn 1 (by omega))
    case stop =>
      rintro D cd V hD ⟨rfl, j, hj, hn, hx, bV, hO⟩ hK
      have h0 : R = ((j : Int) + 1, 0) := by
        rw [← HR.out]
        have hj2 : j = 0 ∨ j = 1 := by omega
        rcases hj2 with rfl | rfl
        · rw [if_pos (show mproj M 1 = M from hx)]; rfl
        · rw [if_neg (show ¬ mproj M 1 = M from hn 0 (by omega))]; rfl
      subst h0
      have e0 := bV.cell
      have HB := Lib.hid (HB2.out.trans ((HB24.out.trans (hO.below (B := w2.heap.size) (fun k hk => by omega) HB24.out.size)).mono HB2.out.size))
      clear hx hn bV hO
      gi_wp2
      simp only [Exit.noGoto]
      refine ⟨by simp, .inl ⟨_, _, rfl, run_takeDeferred hK, ?_⟩⟩
      refine ⟨.tuple #[.int .i64 ((j : Int) + 1), .int .i64 0], ?_, rfl, HB.out.trans (below_put _ _ (by have := HB24.out.size; have := HB2.out.size; omega))⟩
      simp [results, Tryz.f7, go_sem]
  · have e1 : (E != 0) = true := by simpa using hE
    rw [if_pos hE]
    go_enter Tryz.func7, Tryz.ntmps7
    go_wp2_with fail
    rw [HW2.out]
    refine wp_scope_straight ?_
    go_wp2_with (refine wpList_load_run rfl 26 (.tmp 1) rfl (some ⟨w.heap.size, 0, none⟩) rfl (.agg (mC M P C)) HL0.out ?_)
    refine KC.out.mono ?_
    rintro e w3 ⟨rfl, hb3⟩
    have HB3 := Lib.hid (HB2.out.trans (hb3.mono HB2.out.size))
    clear hb3 KC HL0
    go_wp2
    try simp only [Exit.noGoto]
    go_ret2
    exact ⟨rfl, HB3.out⟩
end Go.Proofs.YtlbfibnfmijahaaGreat

namespace Go.Proofs.YtlbfibnfmijahaaGreat
open Go.RowKit Go.Shelf
set_option maxRecDepth 100000
attribute [local go_sem] Oper.semAt_some

/-- cells from lo on are as they were -/
structure KeV (lo : Nat) (A B : World) : Prop where
  size : A.heap.size ≤ B.heap.size
  same : ∀ (q : Nat) (cs : Array Value) (t : TypeId), lo ≤ q → A.heap[q]? = some (.cells cs t (0, 0)) → B.heap[q]? = some (.cells cs t (0, 0))
theorem KeV.trans {lo : Nat} {A B C : World} (h : KeV lo A B) (k : KeV lo B C) : KeV lo A C := ⟨Nat.le_trans h.size k.size, fun q cs t hq hA => k.same q cs t hq (h.same q cs t hq hA)⟩
theorem KeV.putObj {lo l : Nat} {A : World} {o o' : Obj} (ho : A.heap[l]? = some o) (hc : o.isCells = false) : KeV lo A (A.putObj l o') := ⟨by simp [World.putObj], fun q cs t _ hA => (World.putObj_heap_other (fun e => by
  subst e
  rw [ho] at hA
  injection hA with hA
  subst hA
  cases hc)).trans hA⟩
theorem KeV.off {S : Nat → Prop} {lo : Nat} {A B : World} (ho : Off S A B) (hS : ∀ k, lo ≤ k → ¬ S k) : KeV lo A B := ⟨ho.size, fun q _ _ hq hA => (ho.block q (Array.getElem?_eq_some_iff.1 hA).1 (hS q hq)).trans hA⟩
theorem KeepsFrom.of_offV {S : Nat → Prop} {lo : Nat} {A B : World} (ho : Off S A B) (hS : ∀ k, lo ≤ k → ¬ S k) : KeepsFrom lo A B := ⟨ho.size, fun q _ hq hA _ => (ho.block q (Array.getElem?_eq_some_iff.1 hA).1 (hS q hq)).trans hA⟩
theorem lost_not_nil2 (p q : Nat) (w : World) : (binOp .eql 43 (.func (.func 33) #[] #[.pointer (some ⟨p, 0, none⟩), .pointer (some ⟨q, 0, none⟩)]) .nilFunc).run Tryz.prog w = .ok (.bool false) w := by kernel_rfl

def ex0 : Mg := ⟨2, 0, 0, 0, 0, 0, 0, [], [], ⟨#[]⟩, ⟨#[]⟩⟩
def ex9 : Mg := ⟨2, 0, 0, 9, 0, 0, 0, [], [], ⟨#[]⟩, ⟨#[]⟩⟩
theorem ex_small (k a b c d e f : Int) : Msm ⟨k, a, b, c, d, e, f, [], [], ⟨#[]⟩, ⟨#[]⟩⟩ := ⟨by simp, by simp, by show (ByteArray.mk #[]).size ≤ 80; decide, by show (ByteArray.mk #[]).size ≤ 80; decide⟩
theorem ex_at (k a b c d e f : Int) (w : World) (B : Nat) : MAt w B ⟨k, a, b, c, d, e, f, [], [], ⟨#[]⟩, ⟨#[]⟩⟩ (.slice none 0 0) (.slice none 0 0) := ⟨⟨none, 0, rfl, Nat.le_refl _, Nums.nil⟩, ⟨none, 0, rfl, Nat.le_refl _, Nums.nil⟩⟩
theorem ex0_best : mbest ex0 = (1, 0) := by decide
theorem ex9_best : mbest ex9 = (2, 0) := by decide
theorem ex9_check : mck ex9 = 0 := by decide
theorem ex9_lost : (mlost ex9 1).map (·.nm) = [⟨#[122, 111, 110, 101]⟩] := by decide
set_option maxHeartbeats 8000000 in
theorem lknown_any (w : World) : Calls Tryz.prog 12 #[] w fun e w' => e = .returned (.bool true) ∧ Below w.heap.size w w' := by
  have K0 := fun W => sbest_any ex0 (.slice none 0 0) (.slice none 0 0) W (ex_small ..) (ex_at ..)
  have K9 := fun W => sbest_any ex9 (.slice none 0 0) (.slice none 0 0) W (ex_small ..) (ex_at ..)
  have KL := fun W => slost_yes ex9 (.slice none 0 0) (.slice none 0 0) 1 W (ex_small ..) (ex_at ..) ex9_check
  simp only [ex0_best] at K0
  simp only [ex9_best] at K9
  unfold ex0 mV mC at K0
  have hst : ∀ W b, W.heap[b]? = some (.cells #[.int .i64 2, .int .i64 0, .int .i64 0, .int .i64 9, .int .i64 0, .int .i64 0, .int .i64 0, .slice none 0 0, .slice none 0 0, .string ⟨#[]⟩, .string ⟨#[]⟩] 26 (0, 0)) → (Instr.loadAt 26 (.pointer (some ⟨b, 0, none⟩))).run Tryz.prog W = .ok (.agg #[.int .i64 2, .int .i64 0, .int .i64 0, .int .i64 9, .int .i64 0, .int .i64 0, .int .i64 0, .slice none 0 0, .slice none 0 0, .string ⟨#[]⟩, .string ⟨#[]⟩]) W := fun W b h => mg_read (M := ex9) (P := .slice none 0 0) (C := .slice none 0 0) h
  obtain ⟨LL, hLL⟩ : ∃ LL, (FD ex9.k).filter (lostP ex9 1) = LL := ⟨_, rfl⟩
  have hnm : LL.map (·.nm) = [⟨#[122, 111, 110, 101]⟩] := by rw [← hLL, lostP_all ex9_check]; exact ex9_lost
  have hl1 : LL.length = 1 := by have := congrArg List.length hnm; simpa using this
  have hl0 : ∀ (j : Nat) f, LL[j]? = some f → j = 0 ∧ f.nm = ⟨#[122, 111, 110, 101]⟩ := fun j f h => by
    have h2 : (LL.map (·.nm))[j]? = some f.nm := by rw [List.getElem?_map, h]; rfl
    rw [hnm] at h2
    rcases j with _ | j
    · simp at h2; exact ⟨rfl, h2.symm⟩
    · simp at h2
  have HLL := Lib.hid hLL
  have HL0 := Lib.hid hl0
  clear hLL hnm hl0
  unfold ex9 mV mC at K9 KL
  have K0 := Lib.hid K0
  have K9 := Lib.hid K9
  have KL := Lib.hid KL
  have HST := Lib.hid hst
  clear hst
  refine (callsIn_wide (n := 9)).1 ?_
  refine callsIn_of_wp_marks Tryz.func12 rfl trivial ?_ rfl
  simp only [Tryz.ntmps12, List.size_toArray, List.length_nil, Nat.reduceSub, Array.replicate_succ, Array.replicate_zero, List.push_toArray, List.append_toArray, List.nil_append, List.cons_append]
  gi_wp2_with fail
  refine ⟨trivial, (callsIn_wide.2 (K0.out w)).mono ?_⟩
  rintro e w1 ⟨rfl, hb1⟩
  have HB1 := Lib.hid hb1
  clear hb1 K0
  gi_wp2_with fail
  obtain ⟨w2, hw2⟩ : ∃ w2, w1.alloc (.cells #[.int .i64 2, .int .i64 0, .int .i64 0, .int .i64 9, .int .i64 0, .int .i64 0, .int .i64 0, .slice none 0 0, .slice none 0 0, .string ⟨#[]⟩, .string ⟨#[]⟩] 26) = w2 := ⟨_, rfl⟩
  have hb12 : Below w1.heap.size w1 w2 := by rw [← hw2]; exact (Below.refl _ w1).alloc (Nat.le_refl _) _
  have q2 : w2.heap[w1.heap.size]? = some (.cells #[.int .i64 2, .int .i64 0, .int .i64 0, .int .i64 9, .int .i64 0, .int .i64 0, .int .i64 0, .slice none 0 0, .slice none 0 0, .string ⟨#[]⟩, .string ⟨#[]⟩] 26 (0, 0)) := by rw [← hw2]; exact World.alloc_heap_new _ _
  obtain ⟨mb, hmb⟩ : ∃ mb, w1.heap.size = mb := ⟨_, rfl⟩
  rw [hw2]
  refine ⟨trivial, (callsIn_wide.2 (K9.out w2)).mono ?_⟩
  rintro e w3 ⟨rfl, hb3⟩
  have q3 := (hb3.block _ (Array.getElem?_eq_some_iff.1 q2).1).trans q2
  rw [hmb] at q3 ⊢
  obtain ⟨nb, hnb⟩ : ∃ nb, w3.heap.size = nb := ⟨_, rfl⟩
  obtain ⟨w4, hw4⟩ : ∃ w4, w3.alloc (.cells #[.string ⟨#[]⟩] 9) = w4 := ⟨_, rfl⟩
  have hb34 : Below w3.heap.size w3 w4 := by rw [← hw4]; exact (Below.refl _ w3).alloc (Nat.le_refl _) _
  have bN4 : Boxed w4 nb 9 (.string ⟨#[]⟩) := by rw [← hw4, ← hnb]; exact Boxed.new w3 9 _
  have hs4 : w4.heap.size = nb + 1 := by rw [← hw4, ← hnb]; simp
  have q4 := (hb34.block _ (Array.getElem?_eq_some_iff.1 q3).1).trans q3
  have L3 := Lib.hid (HST.out _ _ q3)
  have L4 := Lib.hid (HST.out _ _ q4)
  have hb13 := hb12.trans (hb3.mono hb12.size)
  have HB4 := Lib.hid (HB1.out.trans ((hb13.trans (hb34.mono hb13.size)).mono HB1.out.size))
  have hnb0 : w.heap.size ≤ nb := by have := HB1.out.size; have := hb13.size; omega
  have HW4 := Lib.hid hw4
  have HNB := Lib.hid hnb
  clear hb12 q2 hb3 q3 hw4 hb34 q4 hb13 HST K9 HB1 hw2 hmb hnb
  gi_wp2_with (rw [HNB.out, HW4.out]; refine wpListIn_load_run rfl 26 (.tmp 3) rfl (some ⟨mb, 0, none⟩) rfl (.agg #[.int .i64 2, .int .i64 0, .int .i64 0, .int .i64 9, .int .i64 0, .int .i64 0, .int .i64 0, .slice none 0 0, .slice none 0 0, .string ⟨#[]⟩, .string ⟨#[]⟩]) L4.out ?_)
  refine ⟨trivial, (callsIn_wide.2 (KL.out w4)).mono ?_⟩
  rintro e w5 ⟨b, d, P1, C1, P2, C2, rfl, hb, hd, mfb, mfd, hb5⟩
  have bN5 : Boxed w5 nb 9 (.string ⟨#[]⟩) := (hb5.block _ (by omega)).trans bN4
  have hs5 := hb5.size
  have HB5 := Lib.hid (HB4.out.trans (hb5.mono HB4.out.size))
  have HMB := Lib.hid mfb
  have HMD := Lib.hid mfd
  have hbl := (Array.getElem?_eq_some_iff.1 mfb).1
  have hdl := (Array.getElem?_eq_some_iff.1 mfd).1
  have kn := lost_not_nil2
  clear hb5 mfb mfd KL bN4 L3 L4 HW4 HNB
  gi_wp2_with fail
  refine range_stops rfl (by omega) (gf := 33) (lb := #[.pointer (some ⟨b, 0, none⟩), .pointer (some ⟨d, 0, none⟩)]) rfl trivial (enters_of Tryz.func33 (by kernel_rfl) rfl)
    (fun f : Fd => #[.string f.nm]) (fun _ => rfl)
    (fun j f V => LL[j]? = some f ∧ Boxed V nb 9 (.string (if j = 0 then ⟨#[]⟩ else ⟨#[122, 111, 110, 101]⟩)) ∧ Off (fun q => q = nb) w5 V)
    (fun j V => Boxed V nb 9 (.string (if j = 0 then ⟨#[]⟩ else ⟨#[122, 111, 110, 101]⟩)) ∧ Off (fun q => q = nb) w5 V)
    (fun _ _ => False) (KeV w5.heap.size) LL.length
    (fun j f V l o o' h hl ho hc' => ⟨h.1, (World.putObj_heap_other (by omega)).trans h.2.1, off_below h.2.2 (below_put V o' hl)⟩)
    (fun j V l o o' h hl ho hc' => ⟨(World.putObj_heap_other (by omega)).trans h.1, off_below h.2 (below_put V o' hl)⟩)
    (fun _ _ _ _ _ h => h.elim)
    (fun _ _ _ h k => h.trans k) (fun V l o o' hl ho hc' => KeV.putObj ho hc')
    (fun o => ⟨(Below.heap_alloc _ _ _ (by simp; omega)).trans ((Below.heap_alloc _ _ _ (by omega)).trans bN5), Off.of_below (((Below.refl w5.heap.size w5).alloc (Nat.le_refl _) _).alloc (by simp) _)⟩) ?a1 ?assign ?body ?iter ?done ?stop
  case assign =>
    intro l x' V K' hK'
    gi_wp2
    exact hK'
  case body =>
    rintro l j f V hl ⟨hf, hI, hO⟩ hj
    obtain ⟨rfl, hfn⟩ := HL0.out j f hf
    rw [if_pos rfl] at hI
    have e0 := hI.cell
    have e1 := hI.frozen
    have hI2 := hI.set (.string ⟨#[122, 111, 110, 101]⟩)
    have hO2 : Off (fun q => q = nb) w5 (V.setCell ⟨nb, 0, none⟩ (.string ⟨#[122, 111, 110, 101]⟩)) := hO.setCell (p := ⟨nb, 0, none⟩) rfl _
    have hOV : Off (fun q => q = nb) V (V.setCell ⟨nb, 0, none⟩ (.string ⟨#[122, 111, 110, 101]⟩)) := Off.setCell (S := fun q => q = nb) (p := ⟨nb, 0, none⟩) (Off.refl _ _) rfl _
    have HF := Lib.hid (show KeepsFrom w5.heap.size V _ ∧ (Boxed _ nb 9 (.string ⟨#[122, 111, 110, 101]⟩) ∧ Off (fun q => q = nb) w5 _) ∧ KeV w5.heap.size V _ from ⟨KeepsFrom.of_offV hOV (fun k hk => by omega), ⟨hI2, hO2⟩, KeV.off hOV (fun k hk => by omega)⟩)
    clear hI hO hI2 hO2 hOV
    rw [hfn]
    gi_wp2
    all_goals exact HF.out
  case iter =>
    intro Bk X l V hBk hBlt hX hl hD hB hY
    exact slost_in 8 (by omega) 7 l b d w5.heap.size ex9 P1 C1 P2 C2 1 LL HLL.out (fun j V => Boxed V nb 9 (.string (if j = 0 then ⟨#[]⟩ else ⟨#[122, 111, 110, 101]⟩)) ∧ Off (fun q => q = nb) w5 V) Bk X (KeV w5.heap.size) hl
      (fun j A B h hb => ⟨(hb.block _ (by omega)).trans h.1, off_below h.2 hb⟩)
      (fun j V h => ⟨(h.2.block _ hbl (by omega)).trans HMB.out, (h.2.block _ hdl (by omega)).trans HMD.out⟩)
      hBk hBlt hX (fun V V' k cs t h hk hc => h.same k cs t (by omega) hc)
      (fun j f V h hf hb => hY j f V ⟨hf, h⟩ hb (List.getElem?_eq_some_iff.1 hf).1)
      V hD hB
  case done =>
    rintro D V hD ⟨hI, hO⟩ hK
    rw [hl1, if_neg (by decide)] at hI
    have e0 := hI.cell
    have HB := Lib.hid (HB5.out.trans (hO.below (B := w.heap.size) (fun k hk => by omega) HB5.out.size))
    clear hI hO
    gi_wp2
    try simp only [Exit.noGoto]
    refine ⟨by simp, .inl ⟨_, _, rfl, run_takeDeferred hK, ?_⟩⟩
    refine ⟨.bool true, ?_, rfl, HB.out.trans (below_put _ _ (by omega))⟩
    simp [results, Tryz.f12, go_sem]
  case stop =>
    rintro D cd V hD h hK
    exact h.elim
end Go.Proofs.YtlbfibnfmijahaaGreat

namespace Go.Proofs.YtlbfibnfmijahaaGreat
open Go.RowKit Go.Shelf
set_option maxRecDepth 100000
attribute [local go_sem] Oper.semAt_some

/-- what a turning leaves -/
def TurnR (w : World) (r : List Int × Bool × Int) (e : Ending) (w' : World) : Prop := ∃ x, e = .returned (.tuple #[x, .bool r.2.1, .int .i64 r.2.2]) ∧ Made w w' r.1 x
theorem TurnR.no {w w' : World} (E : Int) (hb : Below w.heap.size w w') : TurnR w ([], false, E) (.returned (.tuple #[.slice none 0 0, .bool false, .int .i64 E])) w' := ⟨_, rfl, World.ownsRow_nil _ _ _ _, hb⟩
theorem rturn_bad (k f t : Int) (A : Option Addr) (len cap : Nat) (w : World) (h : (f ≠ 1 ∧ f ≠ 2) ∨ (t ≠ 1 ∧ t ≠ 2)) : Calls Tryz.prog 23 #[.int .i64 k, .int .i64 f, .int .i64 t, .slice A len cap] w fun e w' => TurnR w ([], false, 10) e w' := by
  have HT := Lib.hid (TurnR.no (w := w) 10 (Below.refl _ w))
  by_cases h1 : f < 1
  · clear h
    go_enter Tryz.func23, Tryz.ntmps23
    go_wp2
    go_ret3
    exact HT.out
  · have e1 : (decide (f < 1)) = false := decide_eq_false h1
    by_cases h2 : 2 < f
    · clear h
      go_enter Tryz.func23, Tryz.ntmps23
      go_wp2
      go_ret3
      exact HT.out
    · have e2 : (decide (2 < f)) = false := decide_eq_false h2
      by_cases h3 : t < 1
      · clear h
        go_enter Tryz.func23, Tryz.ntmps23
        go_wp2
        go_ret3
        exact HT.out
      · have e3 : (decide (t < 1)) = false := decide_eq_false h3
        have h4 : 2 < t := by omega
        clear h
        go_enter Tryz.func23, Tryz.ntmps23
        go_wp2
        go_ret3
        exact HT.out
set_option maxHeartbeats 4000000 in
theorem rturn_any (k f t : Int) (A : Option Addr) (len cap : Nat) (zs : List Int) (w : World) (hlen : zs.length = len) (hll : len ≤ 1000000) (hcap : len ≤ cap) (hby : Bys zs) (hA : Nums .u8 w w.heap.size A zs) :
    Calls Tryz.prog 23 #[.int .i64 k, .int .i64 f, .int .i64 t, .slice A len cap] w fun e w' => TurnR w (mturn k f t zs) e w' := by
  unfold mturn
  by_cases hV : (f ≠ 1 ∧ f ≠ 2) ∨ (t ≠ 1 ∧ t ≠ 2)
  · rw [if_pos hV]
    exact rturn_bad k f t A len cap w hV
  · rw [if_neg hV]
    have f1 : ¬ f < 1 := by omega
    have f2 : ¬ 2 < f := by omega
    have t1 : ¬ t < 1 := by omega
    have t2 : ¬ 2 < t := by omega
    have ht : t = 1 ∨ t = 2 := by omega
    clear hV
    have hsm := bdec_small (k := k) (v := f) hby
    have hwh := fun m h => turn_whole (k := k) (f := f) (t := t) (m := m) hby ht h
    have KD := Lib.hid (rdecode_any k f A len cap zs w hlen hll hcap hby hA)
    obtain ⟨⟨E, M⟩, hD⟩ : ∃ r, bdec k f zs = r := ⟨_, rfl⟩
    rw [hD] at hsm KD ⊢
    have HWH := Lib.hid (hwh M)
    rw [hD] at HWH
    simp only at hsm ⊢
    have HSM := Lib.hid hsm
    clear hwh hsm hD hby hA hlen hll hcap ht
    by_cases hE : E = 0
    · subst hE
      obtain ⟨g1, g2, g3, g4⟩ := HWH.out rfl
      rw [if_neg (by simp)]
      obtain ⟨L, hL⟩ : ∃ L, body M t = L := ⟨_, rfl⟩
      rw [hL] at g1 g2 g3 g4 ⊢
      have HG := Lib.hid (And.intro g2 (And.intro g1 (And.intro g3 g4)))
      clear g1 g2 g3 g4 hL HWH
      go_enter Tryz.func23, Tryz.ntmps23
      go_wp2_with fail
      refine KD.out.mono ?_
      rintro e w2 ⟨_, rfl, ⟨P, C, rfl, hmx⟩, hb2⟩
      obtain ⟨w3, hst3, q3, hb3⟩ := new_rmsg w2 hmx
      have HST3 := Lib.hid hst3
      have hbw3 := hb2.trans (hb3.mono hb2.size)
      have HX := Lib.hid (And.intro q3 (hmx.later hb3))
      have HB3 := Lib.hid hbw3
      clear hst3 q3 hb2 hb3 hbw3 hmx KD
      simp only
      unfold mV
      have LM : Hid (∀ W, Below w3.heap.size w3 W → (Instr.loadAt 38 (.pointer (some ⟨w2.heap.size, 0, none⟩))).run Tryz.prog W = .ok (.agg (mC M P C)) W) := Lib.hid fun W hW => mr_look ((hW.block _ (Array.getElem?_eq_some_iff.1 HX.out.1).1).trans HX.out.1)
      have KE : Hid (Calls Tryz.prog 17 #[.agg (mC M P C), .int .i64 t] w3 fun e w' => EncR w3 (L, 0) e w') := Lib.hid (by
        have := rencode_any M P C t w3 HSM.out HX.out.2
        rwa [HG.out.1] at this)
      have l3 := LM.out w3 (Below.refl _ _)
      go_wp2_with (first | refine wpList_store_run rfl 38 (.tmp 11) (.tmp 36) rfl (some ⟨w2.heap.size, 0, none⟩) rfl (.agg (mC M P C)) rfl HST3.out ?_ | refine wpList_load_run rfl 38 (.tmp 11) rfl (some ⟨w2.heap.size, 0, none⟩) rfl (.agg (mC M P C)) l3 ?_)
      refine KE.out.mono ?_
      rintro e w4 ⟨x4, rfl, hm4⟩
      obtain ⟨A4, c4, rfl, hc4, hn4⟩ := hm4.slice
      obtain ⟨n4, hn4e⟩ : ∃ n, L.length = n := ⟨_, rfl⟩
      have hg3 := HG.out.2.2.1
      rw [hn4e] at hc4 hg3
      have KD4 : Hid (Calls Tryz.prog 40 #[.int .i64 k, .int .i64 t, .slice A4 n4 c4] w4 fun e w' => DecR w4 (0, mproj M t) e w') := Lib.hid (by
        have := rdecode_any k t A4 n4 c4 L w4 hn4e (by omega) hc4 HG.out.2.2.2 hn4
        rwa [HG.out.2.1] at this)
      have HM4 := Lib.hid hm4
      rw [hn4e] at HM4 ⊢
      clear hm4 hn4 KE l3
      simp only
      go_wp2_with fail
      refine KD4.out.mono ?_
      rintro e w5 ⟨_, rfl, ⟨P2, C2, rfl, hmy⟩, hb5⟩
      obtain ⟨w6, hst6, q6, hb6⟩ := new_rmsg w5 hmy
      have HST6 := Lib.hid hst6
      have hb46 := hb5.trans (hb6.mono hb5.size)
      have l6y := mr_look q6
      have l6x := LM.out w6 (HM4.out.2.trans (hb46.mono HM4.out.2.size))
      have KS := Lib.hid (rsame_F (M' := M) (mproj_small HSM.out t) (show FMs (mproj M t) (.agg (mC (mproj M t) P2 C2)) w6 from ⟨P2, C2, rfl, hmy.later hb6⟩) (show FMs M (.agg (mC M P C)) w6 from ⟨P, C, rfl, HX.out.2.later (HM4.out.2.trans (hb46.mono HM4.out.2.size))⟩))
      have HM6 := Lib.hid ((HM4.out.later hb46).since HB3.out)
      clear hst6 q6 hb5 hb6 hb46 hmy KD4 HG HM4
      simp only
      unfold mV
      go_wp2_with (first | refine wpList_store_run rfl 38 (.tmp 15) (.tmp 52) rfl (some ⟨w5.heap.size, 0, none⟩) rfl (.agg (mC (mproj M t) P2 C2)) rfl HST6.out ?_ | refine wpList_load_run rfl 38 (.tmp 15) rfl (some ⟨w5.heap.size, 0, none⟩) rfl (.agg (mC (mproj M t) P2 C2)) l6y ?_ | refine wpList_load_run rfl 38 (.tmp 11) rfl (some ⟨w2.heap.size, 0, none⟩) rfl (.agg (mC M P C)) l6x ?_)
      refine KS.out.mono ?_
      rintro e w7 ⟨rfl, hb7⟩
      have HM7 := Lib.hid (HM6.out.later hb7)
      clear hb7 l6x l6y
      go_wp2
      go_ret3
      exact ⟨_, rfl, HM7.out⟩
    · have e0 : ¬ (E : Int) = 0 := by omega
      have e1 : ((E : Int) != 0) = true := by simpa using e0
      rw [if_pos hE]
      clear HWH
      go_enter Tryz.func23, Tryz.ntmps23
      go_wp2_with fail
      refine KD.out.mono ?_
      rintro e w2 ⟨_, rfl, ⟨P, C, rfl, hmx⟩, hb2⟩
      obtain ⟨w3, hst3, q3, hb3⟩ := new_rmsg w2 hmx
      have HST3 := Lib.hid hst3
      have hbw3 := hb2.trans (hb3.mono hb2.size)
      have HX := Lib.hid (And.intro q3 (hmx.later hb3))
      have HB3 := Lib.hid hbw3
      clear hst3 q3 hb2 hb3 hbw3 hmx KD
      simp only
      unfold mV
      have HT := Lib.hid (TurnR.no (w := w) (E : Int) HB3.out)
      go_wp2_with (refine wpList_store_run rfl 38 (.tmp 11) (.tmp 36) rfl (some ⟨w2.heap.size, 0, none⟩) rfl (.agg (mC M P C)) rfl HST3.out ?_)
      go_ret3
      exact HT.out
end Go.Proofs.YtlbfibnfmijahaaGreat

namespace Go.Proofs.YtlbfibnfmijahaaGreat
open Go.RowKit Go.Shelf
set_option maxRecDepth 100000
attribute [local go_sem] Oper.semAt_some

theorem sturn_bad (k f t : Int) (x : Value) (w : World) (h : (f ≠ 1 ∧ f ≠ 2) ∨ (t ≠ 1 ∧ t ≠ 2)) : Calls Tryz.prog 22 #[.int .i64 k, .int .i64 f, .int .i64 t, x] w fun e w' => TurnR w ([], false, 10) e w' := by
  by_cases h1 : f = 1 ∨ f = 2
  · have KN := Lib.hid (snew_yes f h1 w)
    have KN2 := Lib.hid fun W => snew_no t (by omega) W
    clear h h1
    go_enter Tryz.func22, Tryz.ntmps22
    go_wp2_with fail
    refine KN.out.mono ?_
    rintro e w1 ⟨b, rfl, -, -, hb1⟩
    have HB1 := Lib.hid hb1
    clear hb1 KN
    go_wp2_with fail
    refine (KN2.out w1).mono ?_
    rintro e w2 ⟨rfl, hb2⟩
    have HT := Lib.hid (TurnR.no (w := w) 10 (HB1.out.trans (hb2.mono HB1.out.size)))
    clear hb2 KN2
    go_wp2
    go_ret3
    exact HT.out
  · have KN := Lib.hid (snew_no f h1 w)
    clear h h1
    go_enter Tryz.func22, Tryz.ntmps22
    go_wp2_with fail
    refine KN.out.mono ?_
    rintro e w1 ⟨rfl, hb1⟩
    have HT := Lib.hid (TurnR.no (w := w) 10 hb1)
    clear hb1 KN
    go_wp2
    go_ret3
    exact HT.out
set_option maxHeartbeats 4000000 in
theorem sturn_any (k f t : Int) (A : Option Addr) (len cap : Nat) (zs : List Int) (w : World) (hlen : zs.length = len) (hll : len ≤ 1000000) (hby : Bys zs) (hA : Nums .u8 w w.heap.size A zs) :
    Calls Tryz.prog 22 #[.int .i64 k, .int .i64 f, .int .i64 t, .slice A len cap] w fun e w' => TurnR w (mturn k f t zs) e w' := by
  unfold mturn
  by_cases hV : (f ≠ 1 ∧ f ≠ 2) ∨ (t ≠ 1 ∧ t ≠ 2)
  · rw [if_pos hV]
    exact sturn_bad k f t _ w hV
  · rw [if_neg hV]
    have hf : f = 1 ∨ f = 2 := by omega
    have ht : t = 1 ∨ t = 2 := by omega
    clear hV
    have KN := Lib.hid (snew_yes f hf w)
    have KN2 := Lib.hid fun W => snew_yes t ht W
    have hsm := bdec_small (k := k) (v := f) hby
    have hwh := fun m h => turn_whole (k := k) (f := f) (t := t) (m := m) hby ht h
    have hck := fun m h => (bdec_ok (k := k) (v := f) (m := m) hby h).2.2.1
    have KD := Lib.hid fun b (W : World) (hW : Below w.heap.size w W) (hb : SAt W b f) => sunpack_any k A len cap zs b f W hb hlen hll hby ((hA.below hW).mono hW.size)
    obtain ⟨⟨E, M⟩, hD⟩ : ∃ r, bdec k f zs = r := ⟨_, rfl⟩
    rw [hD] at hsm KD ⊢
    have HWH := Lib.hid (hwh M)
    have HCK := Lib.hid (hck M)
    rw [hD] at HWH HCK
    simp only at hsm ⊢
    have HSM := Lib.hid hsm
    clear hwh hck hsm hD hby hA hlen hll ht hf
    by_cases hE : E = 0
    · subst hE
      obtain ⟨g1, g2, g3, g4⟩ := HWH.out rfl
      have gc := HCK.out rfl
      rw [if_neg (by simp)]
      obtain ⟨L, hL⟩ : ∃ L, body M t = L := ⟨_, rfl⟩
      rw [hL] at g2 ⊢
      have HG2 := Lib.hid g2
      have HGC := Lib.hid gc
      clear g1 g2 g3 g4 gc hL HWH HCK
      go_enter Tryz.func22, Tryz.ntmps22
      go_wp2_with fail
      refine KN.out.mono ?_
      rintro e w1 ⟨b1, rfl, -, hs1, hb1⟩
      have HB1 := Lib.hid hb1
      have HS1 := Lib.hid hs1
      clear hs1 hb1 KN
      go_wp2_with fail
      refine (KN2.out w1).mono ?_
      rintro e w2 ⟨b2, rfl, -, hs2, hb2⟩
      have HB2 := Lib.hid (HB1.out.trans (hb2.mono HB1.out.size))
      have HS2 := Lib.hid hs2
      have HS12 := Lib.hid (HS1.out.later hb2)
      clear hs2 hb2 HS1 HB1 KN2
      go_wp2_with fail
      refine (KD.out b1 w2 HB2.out HS12.out).mono ?_
      rintro e w3 ⟨P, C, rfl, hmx, hb3⟩
      obtain ⟨w4, hst4, q4, hb4⟩ := new_msg w3 hmx.at
      have HST4 := Lib.hid hst4
      have hb24 := hb3.trans (hb4.mono hb3.size)
      have HX := Lib.hid (And.intro q4 (hmx.at.later hb4))
      have HS4 := Lib.hid (HS2.out.later hb24)
      have HB4 := Lib.hid (HB2.out.trans (hb24.mono HB2.out.size))
      clear hst4 q4 hb3 hb4 hb24 hmx KD HS12 HS2 HB2
      simp only
      unfold mV
      have LM : Hid (∀ W, Below w4.heap.size w4 W → (Instr.loadAt 26 (.pointer (some ⟨w3.heap.size, 0, none⟩))).run Tryz.prog W = .ok (.agg (mC M P C)) W) := Lib.hid fun W hW => mg_read ((hW.block _ (Array.getElem?_eq_some_iff.1 HX.out.1).1).trans HX.out.1)
      have KP : Hid (Calls Tryz.prog 16 #[.pointer (some ⟨b2, 0, none⟩), .agg (mC M P C)] w4 fun e w' => ∃ x, e = .returned (.tuple #[.int .i64 M.k, x, .int .i64 0]) ∧ Made w4 w' L x) := Lib.hid (by
        have := spack_any M P C b2 t w4 HSM.out HX.out.2 HS4.out
        unfold PackR at this
        rwa [HG2.out] at this)
      have KF : Hid (∀ W, Below w4.heap.size w4 W → Calls Tryz.prog 14 #[.pointer (some ⟨b2, 0, none⟩), .agg (mC M P C)] W fun e w' => e = .returned (.bool (decide (mproj M t = M))) ∧ Below W.heap.size W w') := Lib.hid fun W hW => by
        have := sfits_any M P C b2 t W HSM.out (HX.out.2.later hW) (HS4.out.later hW)
        unfold mfits at this
        rwa [decide_eq_true HGC.out, Bool.true_and] at this
      have l4 := LM.out w4 (Below.refl _ _)
      go_wp2_with (first | refine wpList_store_run rfl 26 (.tmp 14) (.tmp 38) rfl (some ⟨w3.heap.size, 0, none⟩) rfl (.agg (mC M P C)) rfl HST4.out ?_ | refine wpList_load_run rfl 26 (.tmp 14) rfl (some ⟨w3.heap.size, 0, none⟩) rfl (.agg (mC M P C)) l4 ?_)
      refine KP.out.mono ?_
      rintro e w5 ⟨x5, rfl, hm5⟩
      have l5 := LM.out w5 hm5.2
      have KF5 := Lib.hid (KF.out w5 hm5.2)
      have HM5 := Lib.hid hm5
      clear hm5 KP l4 KF
      go_wp2_with (refine wpList_load_run rfl 26 (.tmp 14) rfl (some ⟨w3.heap.size, 0, none⟩) rfl (.agg (mC M P C)) l5 ?_)
      refine KF5.out.mono ?_
      rintro e w6 ⟨rfl, hb6⟩
      have HM6 := Lib.hid ((HM5.out.later hb6).since HB4.out)
      clear hb6 l5 KF5
      go_wp2
      go_ret3
      exact ⟨_, rfl, HM6.out⟩
    · have e0 : ¬ (E : Int) = 0 := by omega
      have e1 : ((E : Int) != 0) = true := by simpa using e0
      rw [if_pos hE]
      go_enter Tryz.func22, Tryz.ntmps22
      go_wp2_with fail
      refine KN.out.mono ?_
      rintro e w1 ⟨b1, rfl, -, hs1, hb1⟩
      have HB1 := Lib.hid hb1
      have HS1 := Lib.hid hs1
      clear hs1 hb1 KN
      go_wp2_with fail
      refine (KN2.out w1).mono ?_
      rintro e w2 ⟨b2, rfl, -, hs2, hb2⟩
      have HB2 := Lib.hid (HB1.out.trans (hb2.mono HB1.out.size))
      have HS2 := Lib.hid hs2
      have HS12 := Lib.hid (HS1.out.later hb2)
      clear hs2 hb2 HS1 HB1 KN2
      go_wp2_with fail
      refine (KD.out b1 w2 HB2.out HS12.out).mono ?_
      rintro e w3 ⟨P, C, rfl, hmx, hb3⟩
      obtain ⟨w4, hst4, q4, hb4⟩ := new_msg w3 hmx.at
      have HST4 := Lib.hid hst4
      have hb24 := hb3.trans (hb4.mono hb3.size)
      have HX := Lib.hid (And.intro q4 (hmx.at.later hb4))
      have HS4 := Lib.hid (HS2.out.later hb24)
      have HB4 := Lib.hid (HB2.out.trans (hb24.mono HB2.out.size))
      clear hst4 q4 hb3 hb4 hb24 hmx KD HS12 HS2 HB2
      simp only
      unfold mV
      have LM : Hid (∀ W, Below w4.heap.size w4 W → (Instr.loadAt 26 (.pointer (some ⟨w3.heap.size, 0, none⟩))).run Tryz.prog W = .ok (.agg (mC M P C)) W) := Lib.hid fun W hW => mg_read ((hW.block _ (Array.getElem?_eq_some_iff.1 HX.out.1).1).trans HX.out.1)
      have HT := Lib.hid (TurnR.no (w := w) (E : Int) HB4.out)
      clear HWH HCK
      go_wp2_with (refine wpList_store_run rfl 26 (.tmp 14) (.tmp 38) rfl (some ⟨w3.heap.size, 0, none⟩) rfl (.agg (mC M P C)) rfl HST4.out ?_)
      go_ret3
      exact HT.out
end Go.Proofs.YtlbfibnfmijahaaGreat

namespace Go.Proofs.YtlbfibnfmijahaaGreat
open Go.RowKit Go.Shelf
set_option maxRecDepth 100000
attribute [local go_sem] Oper.semAt_some

theorem mturn_len {k f t : Int} {l : List Int} (hl : Bys l) : (mturn k f t l).1.length ≤ 192 := by
  unfold mturn
  by_cases h1 : (f ≠ 1 ∧ f ≠ 2) ∨ (t ≠ 1 ∧ t ≠ 2)
  · rw [if_pos h1]; simp
  · rw [if_neg h1]
    by_cases h2 : (bdec k f l).1 ≠ 0
    · rw [if_pos h2]; simp
    · rw [if_neg h2]
      have h3 : (bdec k f l).1 = 0 := by omega
      exact (turn_whole (t := t) hl (by omega) (show bdec k f l = (0, (bdec k f l).2) by rw [← h3])).2.2.1
set_option maxHeartbeats 8000000 in
theorem sturns_go (k f t : Int) (a : Option Addr) (n m cp : Nat) (es : List Int) (w : World) (hn : es.length = n) (hc : n ≤ cp) (hz : Bys es) (h1 : Nums .u8 w w.heap.size a es) (hm : min (n : Int) 250 = (m : Int)) (hmn : m ≤ n) (hm2 : m ≤ 250) :
    Calls Tryz.prog 4 #[.int .i64 k, .int .i64 f, .int .i64 t, .slice a n cp] w fun e w' => e = .returned (.bool true) ∧ Below w.heap.size w w' := by
  have hmc : (m : Int) ≤ (cp : Int) := by omega
  have hlen : (es.take m).length = m := by rw [List.length_take]; omega
  have hby : Bys (es.take m) := fun c hc => hz c (List.mem_of_mem_take hc)
  have hnum := h1.take m
  generalize es.take m = zs at *
  clear hz h1 hn
  have KT := sturn_any k f t a m cp zs w hlen (by omega) hby hnum
  have KR := fun W (hW : Below w.heap.size w W) => rturn_any k f t a m cp zs W hlen (by omega) (by omega) hby ((hnum.below hW).mono hW.size)
  have hl := mturn_len (k := k) (f := f) (t := t) hby
  obtain ⟨⟨L, B, E⟩, hr⟩ : ∃ r, mturn k f t zs = r := ⟨_, rfl⟩
  rw [hr] at hl
  simp only [hr] at KT KR hl
  obtain ⟨q, hq⟩ : ∃ q, L.length = q := ⟨_, rfl⟩
  rw [hq] at hl
  have KT := Lib.hid KT
  have KR := Lib.hid KR
  have HQ := Lib.hid hq
  clear hr hlen hby hnum hq
  go_enter Tryz.func4, Tryz.ntmps4
  go_wp2_with (first | rw [hm])
  refine KT.out.mono ?_
  rintro e w2 ⟨x2, rfl, hm2'⟩
  obtain ⟨A2, c2, rfl, hc2, hn2⟩ := hm2'.slice
  have hb2 := hm2'.2
  rw [HQ.out] at hc2 ⊢
  have HB2 := Lib.hid hb2
  have HN2 := Lib.hid hn2
  clear hm2' hn2 hb2 KT
  simp only
  go_wp2_with fail
  refine (KR.out w2 HB2.out).mono ?_
  rintro e w3 ⟨x3, rfl, hm3⟩
  obtain ⟨A3, c3, rfl, hc3, hn3⟩ := hm3.slice
  rw [HQ.out] at hc3 ⊢
  have HB3 := Lib.hid (HB2.out.trans (hm3.2.mono HB2.out.size))
  have HN3 := Lib.hid hn3
  have HN23 := Lib.hid ((HN2.out.below hm3.2).mono hm3.2.size)
  clear hm3 hn3 KR HN2
  simp only
  go_wp2_with fail
  refine (lknown_any w3).mono ?_
  rintro e w4 ⟨rfl, hb4⟩
  have KS : Hid (Calls Tryz.prog 18 #[.slice A2 q c2, .slice A3 q c3] w4 fun e w' => e = .returned (.bool true) ∧ Below w4.heap.size w4 w') := Lib.hid ((same_len w4.heap.size A2 A3 q q c2 c3 L L w4 rfl HQ.out HQ.out (by omega) ((HN23.out.below hb4).mono hb4.size) ((HN3.out.below hb4).mono hb4.size)).mono fun e w' h => by
    obtain ⟨h1, j, h2⟩ := h
    exact ⟨h1, by rw [h2]; exact below_drewN (Below.refl _ _) j⟩)
  have HB4 := Lib.hid (HB3.out.trans (hb4.mono HB3.out.size))
  clear hb4
  go_wp2_with fail
  refine KS.out.mono ?_
  rintro e w5 ⟨rfl, hb5⟩
  have HF := Lib.hid (HB4.out.trans (hb5.mono HB4.out.size))
  clear hb5
  go_wp2
  go_ret
  exact ⟨by first | rfl | (simp; done), HF.out⟩
end Go.Proofs.YtlbfibnfmijahaaGreat

namespace Go.Proofs.YtlbfibnfmijahaaGreat.schemaTurns
open Go.ChangeShapes Go.WideShapes Go.ChangeAt Go.RowKit
open Go.ChangeMaps (open_string shut_string)
set_option linter.unusedVariables false

theorem own : ownKnob Tryz.prog.godebug = none := by kernel_rfl
theorem laidOut : laidOutB Tryz.prog = true := by kernel_rfl

set_option maxRecDepth 100000 in
theorem lifted (os : Os) (started : os.Started) (H : Type) (enc : TypeId × Value → H) :
    ReturnsInHanded {} Tryz.checked os 4 .any (Rows.schemaTurnsSpec.pre6 enc Tryz.prog Tryz.f4 Rows.schemaTurnsRow.domain false) (Rows.schemaTurnsSpec.post enc Tryz.prog Tryz.f4 false true false false) := by
  refine returnsInHanded_of_change (C := Tryz.checked) own started (by kernel_rfl) Tryz.func4
    (ChangeSpec.witness6 (enc := enc) (C := Tryz.checked) false ⟨#[], #[.int .i64 0, .int .i64 0, .int .i64 0, .slice none 0 0], []⟩ 8 (by kernel_rfl) (by kernel_rfl) (by kernel_rfl) (by kernel_rfl)) ?_
  intro W base args ds gs before hval0 hW hcnd _
  have hval : ∀ (j : Nat) t v, Tryz.f4.params[j]? = some t → args[j]? = some v → Value.okWide Tryz.prog W .any base t v := hval0
  have hW' := hW
  obtain ⟨p, q, hA0, hV, rfl, hfz, hnd⟩ := hW
  have hA : DataW.TrodAll enc Tryz.prog W 0 (fun _ => true) true Tryz.f4.params.toList args.toList ds p := hA0
  rw [Tryz.params4] at hA hval
  obtain ⟨v0, vs0, d0, ds0, p0, q0, hargs, rfl, rfl, h0, r0⟩ := trodAll_cons hA
  obtain ⟨v1, vs1, d1, ds1, p1, q1, rfl, rfl, rfl, h1, r1⟩ := trodAll_cons r0
  obtain ⟨v2, vs2, d2, ds2, p2, q2, rfl, rfl, rfl, h2, r2⟩ := trodAll_cons r1
  obtain ⟨v3, vs3, d3, ds3, p3, q3, rfl, rfl, rfl, h3, r3⟩ := trodAll_cons r2
  obtain ⟨rfl, rfl, rfl⟩ := trodAll_nil r3
  obtain rfl : args = #[v0, v1, v2, v3] := by cases args; simp_all
  obtain ⟨rfl, rfl⟩ := trodVars_none hV
  obtain ⟨a0, rfl, rfl, rfl, w0⟩ := open_int Tryz.underlying3 (hval 0 3 v0 rfl rfl) h0
  obtain ⟨a1, rfl, rfl, rfl, w1⟩ := open_int Tryz.underlying3 (hval 1 3 v1 rfl rfl) h1
  obtain ⟨a2, rfl, rfl, rfl, w2⟩ := open_int Tryz.underlying3 (hval 2 3 v2 rfl rfl) h2
  obtain ⟨a3, len3, cap3, rfl⟩ := okWide_slice Tryz.underlying49 (hval 3 49 v3 rfl rfl)
  have k3 := h3
  have lt3 : ∀ x ∈ p3, x.block < W.heap.size := by obtain ⟨m, hm⟩ := k3; exact DataW.trod_lt m _ _ _ hm
  obtain ⟨e3, hd3, hm3, w3⟩ : ∃ es : List Int, es.length = len3 ∧ len3 ≤ cap3 ∧ Nums .u8 W W.heap.size a3 es ∧ ∀ z ∈ es, (Lit.int .u8 z).wf = true := by
    obtain ⟨fuel, hf⟩ := h3
    obtain ⟨_, _, _, es, he, q⟩ := row_of Tryz.underlying49 Tryz.underlying5 (by kernel_rfl) hf
    injection he with e1 e2 e3
    subst e1 e2 e3
    exact ⟨es, q⟩
  clear hA0 hval0
  refine (sturns_go a0 a1 a2 a3 len3 (min len3 250) cap3 e3 W hd3 hm3 (fun c hc => bounds_u8 (w3.2 c hc)) w3.1 (by omega) (by omega) (by omega)).mono fun e W' ⟨he, bel⟩ => ?_
  subst he
  exact ⟨_, rfl, _, _, _, [], _, [], hW', trodAll_mk1 (shut_bool Tryz.underlying4 _), (trodAll_cons_mk (shut_int Tryz.underlying3 w0) (trodAll_cons_mk (shut_int Tryz.underlying3 w1) (trodAll_cons_mk (shut_int Tryz.underlying3 w2) (trodAll_cons_mk (Below.trod laidOut (by kernel_rfl) (of_decide_eq_true (by kernel_rfl)) k3 bel lt3) trodAll_mk0)))), rfl, bel.frame _, fun h => by cases h⟩

theorem over : Rows.schemaTurnsRow.holds Tryz.pinned (OpenSpec.ofChange Rows.schemaTurnsSpec) :=
  OpenClaim.holds_of_wide 4 Tryz.f4 rfl rfl rfl rfl rfl rfl rfl ⟨rfl, rfl, rfl, rfl, rfl⟩ rfl rfl rfl rfl rfl (by kernel_rfl) Tryz.func4 (by kernel_rfl)
    (of_decide_eq_true (by kernel_rfl)) (by unfold Func.isWrapper; first | (rw [if_pos (by decide +kernel)]; kernel_rfl) | (rw [if_neg (by decide +kernel)]; exact ⟨rfl, rfl⟩))
    (fun os started H enc _ => lifted os started H enc)

theorem proved : Rows.SchemaTurnsSaid := over
#print axioms proved
end Go.Proofs.YtlbfibnfmijahaaGreat.schemaTurns
