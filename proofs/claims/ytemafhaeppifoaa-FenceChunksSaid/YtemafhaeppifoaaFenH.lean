/-
  Contract of the closure that layer 6's Chunks answers.
-/
import Derived.Test.YtemafhaeppifoaaFenV
import Derived.Test.YtemafhaeppifoaaFenC
namespace Go.Proofs.Ytemafhaeppifoaa
open Go.RowKit Go.Shelf
set_option maxRecDepth 100000
attribute [local go_sem] Oper.semAt_some

def slLen : Value → Nat
  | .slice _ n _ => n
  | _ => 0
theorem clip_int (s : Int) (n : Nat) : min (max s 0) (n : Int) = (Fc.clip s n : Int) := by unfold Fc.clip; omega

set_option maxHeartbeats 4000000 in
theorem chunks_in (n : Nat) (hn1 : 1 ≤ n) (m' l B1 B2 m k1 q k2 Bi s0 : Nat) (A1 A2 : Option Addr) (bs R : List Int) (ps : List (List Int)) (hm : bs.length = m) (hl : m ≤ 1000000) (hR : R.length = q) (hq : q ≤ 1000000) (hk2 : q ≤ k2)
    (hps : Fc.Parts R 0 bs ps) (hpos : bs ≠ [] → ∃ (jj : Nat) (s : Int), R[jj]? = some s ∧ 0 < s)
    (Dn : Nat → World → Prop) (Bk X : World → Prop) (Kp : World → World → Prop)
    (hDb : ∀ A B, Dn 0 A → Below s0 A B → Dn 0 B)
    (hBk : ∀ A B, Bk A → A.heap.size ≤ B.heap.size → (∀ k, s0 ≤ k → k < s0 + 2 → B.heap[k]? = A.heap[k]?) → Bk B) (hBlt : ∀ A, Bk A → s0 + 2 ≤ A.heap.size)
    (hKr : ∀ A, Kp A A) (hKt : ∀ A B C, Kp A B → Kp B C → Kp A C) (hKz : ∀ A B, Kp A B → A.heap.size ≤ B.heap.size)
    (hKs : ∀ A B k o, Dn 0 A → Kp A B → Bi < k → A.heap[k]? = some o → o.isCells = true → B.heap[k]? = some o)
    (hY : ∀ j A' b W1, Dn j W1 → ps[j]? = some b → Nums .u8 W1 W1.heap.size A' b → Bk W1 → YieldAt Fence.wide m' Try.prog l #[Value.slice A' b.length b.length] W1 (YPost s0 l Kp (fun W2 => Dn (j + 1) W2 ∧ Bk W2) X W1))
    (W : World) (hB1 : W.cell? ⟨B1, 0, none⟩ = some (.slice A1 m k1)) (hB2 : W.cell? ⟨B2, 0, none⟩ = some (.slice A2 q k2)) (hi2 : Bi < B2) (hl2 : B2 < W.heap.size)
    (hN1 : Nums .u8 W W.heap.size A1 bs) (hN2 : NumsS .i64 W (fun b => Bi < b ∧ b < W.heap.size) A2 R) (hD0 : Dn 0 W) (hB0 : Bk W) :
    CallsIn Fence.wide n Try.prog 24 #[.func (.yield l) #[] #[], .pointer (some ⟨B1, 0, none⟩), .pointer (some ⟨B2, 0, none⟩)] W fun e W' => (∃ v, e = .returned v) ∧ ((Dn ps.length W' ∧ Bk W') ∨ X W') := by
  have hsW := hBlt W hB0
  have hcl := clone_any A1 m k1 bs W hm hl hN1
  refine callsIn_of_wp Try.func24 rfl trivial ?_ rfl
  simp only [Try.ntmps24, List.size_toArray, List.length_cons, List.length_nil, Nat.reduceAdd, Nat.reduceSub, Array.replicate_succ, Array.replicate_zero, List.push_toArray, List.append_toArray, List.nil_append, List.cons_append]
  gi_wp2
  refine wpIn_wide.2 (wp_scope_straight ((wpIn_wide (n := n)).1 ?_))
  gi_wp2_with fail
  refine ⟨trivial, ?_⟩
  refine (callsIn_wide.2 hcl).mono ?_
  rintro e W1 ⟨v, rfl, hmk⟩
  clear hcl
  obtain ⟨A', c', rfl, hc', hnu'⟩ := hmk.slice
  rw [hm] at hc' ⊢
  have hb1 := hmk.2
  have hs1 := hb1.size
  obtain ⟨S, hSd⟩ : ∃ S : Nat → Prop, S = fun k => Bi < k ∧ ∃ o, W1.heap[k]? = some o ∧ o.isCells = true := ⟨_, rfl⟩
  have hSlt : ∀ k, S k → k < W1.heap.size := fun k hk => by
    rw [hSd] at hk; obtain ⟨_, o, ho, _⟩ := hk; exact (Array.getElem?_eq_some_iff.1 ho).1
  have hD1 := hDb _ _ hD0 (hb1.mono (by omega))
  have hBk1 : Bk W1 := hBk _ _ hB0 hs1 (fun k _ h2 => hb1.block k (by omega))
  have hKS : ∀ V, Kp W1 V → KeepS S W1 V := fun V h => ⟨hKz _ _ h, fun k hk => by
    rw [hSd] at hk
    obtain ⟨hb, o, ho, hc⟩ := hk
    rw [ho]; exact hKs W1 V k o hD1 h hb ho hc⟩
  have hNA : NumsS .u8 W1 S A' bs := fun h0 => by
    obtain ⟨b, off, e, hb, hcell⟩ := hnu' h0
    have hb2 : W.heap.size ≤ b ∧ ∃ cur, W1.heap[b]? = some (.cells cur 5 (0, 0)) := by subst e; exact hmk.own_ge (g := b) rfl
    obtain ⟨hge, cur, hcur⟩ := hb2
    exact ⟨b, off, e, by rw [hSd]; exact ⟨by omega, _, hcur, rfl⟩, hcell⟩
  have hNR : NumsS .i64 W1 S A2 R := fun h0 => by
    obtain ⟨b, off, e, hb, hcell⟩ := hN2 h0
    have hk : ∀ j c, R[j]? = some c → W1.cell? ⟨b, off + j, none⟩ = some (.int .i64 c) := fun j c hj => (hb1.cell (p := ⟨b, off + j, none⟩) hb.2).trans (hcell j c hj)
    refine ⟨b, off, e, ?_, hk⟩
    obtain ⟨z, hz⟩ : ∃ z, R[0]? = some z := ⟨_, List.getElem?_eq_getElem (by
      rcases Nat.eq_zero_or_pos R.length with h | h
      · exact absurd (List.eq_nil_of_length_eq_zero h) h0
      · exact h)⟩
    obtain ⟨o, ho, hc⟩ := cells_of_cell (hk 0 z hz)
    rw [hSd]; exact ⟨hb.1, o, ho, hc⟩
  have hc2 : W1.cell? ⟨B2, 0, none⟩ = some (.slice A2 q k2) := (hb1.cell (p := ⟨B2, 0, none⟩) hl2).trans hB2
  have hS2 : S B2 := by
    obtain ⟨o, ho, hc⟩ := cells_of_cell hc2
    rw [hSd]; exact ⟨hi2, o, ho, hc⟩
  have HR := Lib.hid hR
  have HPS := Lib.hid hps
  have HPO := Lib.hid hpos
  clear hSd hmk hnu' hB1 hB2 hN1 hN2 hD0 hB0 hb1 hR hps hpos
  gi_wp2
  apply wpIn_label
  gi_wp2
  gi_loopw [4] (fun v wr => ∃ (Al : Option Addr) (L : List Int) (mm cc : Nat) (pre rest : List (List Int)), v = .slice Al mm cc ∧ L.length = mm ∧ mm ≤ cc ∧ mm ≤ 1000000 ∧ Hid (NumsS .u8 W1 S Al L) ∧ Hid (Fc.Parts R 0 L rest) ∧ Hid (ps = pre ++ rest) ∧ Hid (bs = [] → L = []) ∧ Dn pre.length wr ∧ Bk wr ∧ Kp W1 wr)
    (fun v _ => slLen v)
  case atStart => exact ⟨A', bs, m, c', [], ps, rfl, hm, hc', hl, hNA, HPS.out, rfl, fun h => h, hD1, hBk1, hKr _⟩
  case round =>
    obtain ⟨Al, L, mm, cc, pre, rest, rfl, hLm, hmc, hml, HN, HP, HE, HZ, hDw, hBw, hKw⟩ := hrel
    by_cases hm0 : mm = 0
    · have hL0 : L = [] := List.eq_nil_of_length_eq_zero (hLm.trans hm0)
      have hr0 := HP.out.nil hL0
      have hF := Lib.hid (show Dn ps.length wr ∧ Bk wr from ⟨by rw [HE.out, hr0, List.append_nil]; exact hDw, hBw⟩)
      have hm1 : ¬ (0 : Int) < (mm : Int) := by omega
      clear hL0 hr0 hDw hBw hKw
      gi_wp2
      first | go_end0 | (rw [Exit.noGoto_normal]; go_end0)
      exact ⟨⟨_, rfl⟩, .inl hF.out⟩
    · have hm1 : (0 : Int) < (mm : Int) := by omega
      have hLn : L ≠ [] := fun e => hm0 (by rw [← hLm, e]; rfl)
      obtain ⟨jj, sj, hjj, hsj⟩ := HPO.out (fun e => hLn (HZ.out e))
      have hjq : jj < q := by
        rcases Nat.lt_or_ge jj R.length with h | h
        · rw [HR.out] at h; exact h
        · rw [List.getElem?_eq_none h] at hjj; cases hjj
      have hcw : wr.cell? ⟨B2, 0, none⟩ = some (.slice A2 q k2) := ((hKS _ hKw).cell (p := ⟨B2, 0, none⟩) hS2).trans hc2
      have HJJ := Lib.hid hjj
      have HSJ := Lib.hid hsj
      have HLn := Lib.hid hLn
      obtain ⟨mm0, hmm0⟩ : ∃ mm0, mm = mm0 := ⟨_, rfl⟩
      have HM0 := Lib.hid hmm0
      have HM1 := HM0
      clear hjj hsj hLn hmm0
      gi_wp2
      rw [show decide (0 < mm) = true from decide_eq_true (by omega)]
      gi_loopw [4, 16] (fun v iv wi => ∃ (Al : Option Addr) (L : List Int) (mm cc i : Nat) (pre rest : List (List Int)), v = .slice Al mm cc ∧ L.length = mm ∧ mm ≤ cc ∧ mm ≤ 1000000 ∧ 0 < mm ∧ iv = .int .i64 (i : Int) ∧ i ≤ q ∧ (i ≤ jj ∨ mm < mm0) ∧ mm ≤ mm0 ∧ Hid (NumsS .u8 W1 S Al L) ∧ Hid (Fc.Parts R (i % q) L rest) ∧ Hid (ps = pre ++ rest) ∧ Hid (bs = [] → L = []) ∧ Dn pre.length wi ∧ Bk wi ∧ Kp W1 wi)
        (fun _ iv _ => q - (intOf iv).toNat)
      case atStart => exact ⟨Al, L, mm, cc, 0, pre, rest, rfl, hLm, hmc, hml, by omega, rfl, by omega, .inl (by omega), by rw [HM0.out]; exact Nat.le_refl _, HN, by rw [Nat.zero_mod]; exact HP, HE, HZ, hDw, hBw, hKw⟩
      case round =>
        clear hDw hBw hKw HN HP HE HZ HLn hLm hmc hml hm0 hm1 HM0 hcw
        obtain ⟨Al, L, mm, cc, i, pre, rest, rfl, hLm, hmc, hml, hm0, rfl, hiq, hij, hmm, HN, HP, HE, HZ, hDw, hBw, hKw⟩ := hrel
        by_cases hlt : i < q
        · have hLn : L ≠ [] := fun e => by rw [e] at hLm; simp at hLm; omega
          obtain ⟨s, qs, hs, hrest, hPn⟩ := HP.out.cons hLn
          rw [Nat.mod_eq_of_lt hlt] at hs hPn
          rw [HR.out] at hPn
          rw [hLm] at hrest hPn
          obtain ⟨cl, hcl⟩ : ∃ cl, Fc.clip s mm = cl := ⟨_, rfl⟩
          have hclm := Fc.clip_le s mm
          have hci := clip_int s mm
          have hcp : 0 < s → 0 < cl := fun h => by rw [← hcl]; unfold Fc.clip; omega
          rw [hcl] at hrest hPn hclm hci
          have hKSw := hKS _ hKw
          obtain ⟨b2, o2, rfl, hb2, hcell⟩ := ((hNR.keeps hKSw).nums (B := W1.heap.size) hSlt).open hs
          have hget : ps[pre.length]? = some (L.take cl) := by
            rw [HE.out, hrest, List.getElem?_append_right (Nat.le_refl _), Nat.sub_self]; rfl
          have htl : (L.take cl).length = cl := by rw [List.length_take]; omega
          have hnp : Nums .u8 wr wr.heap.size Al (L.take cl) := ((HN.out.take cl).keeps hKSw).nums (fun k hk => by have := hSlt k hk; have := hKSw.1; omega)
          have HY := Lib.hid (hY pre.length Al (L.take cl) wr hDw hget hnp hBw)
          rw [htl] at HY
          have hlt' : (i : Int) < (q : Int) := by omega
          have hqk2 : (q : Int) ≤ (k2 : Int) := by omega
          have hcm : (cl : Int) ≤ (mm : Int) := by omega
          have hcc : (cl : Int) ≤ (cc : Int) := by omega
          have hmcc : (mm : Int) ≤ (cc : Int) := by omega
          have HE2 : Hid (ps = (pre ++ [L.take cl]) ++ qs) := by show _ = _; rw [HE.out, hrest, List.append_assoc]; rfl
          have HPn := Lib.hid hPn
          have HLD := Lib.hid (show (L.drop cl).length = mm - cl by rw [List.length_drop, hLm])
          have hij2 : i + 1 ≤ jj ∨ mm - cl < mm0 := by
            by_cases h : i = jj
            · right
              have h2 := HJJ.out
              rw [← h, hs] at h2
              injection h2 with h2
              have := hcp (by rw [h2]; exact HSJ.out)
              omega
            · rcases hij with h3 | h3
              · left; omega
              · right; omega
          have HNd : Hid (NumsS .u8 W1 S (if cc = cl then Al else Al.map (·.add cl)) (L.drop cl)) := by
            have := HN.out.drop2 (a' := if cc = cl then Al else Al.map (·.add cl)) (i := 0) (j := cl) (fun hlt2 b o e => by
              subst e
              rw [if_neg (by omega)]
              by_cases h0 : cl = 0 <;> simp [Addr.add, h0])
            rwa [Nat.zero_add] at this
          have HZn : Hid (bs = [] → L.drop cl = []) := fun h => absurd (HZ.out h) hLn
          have HK1 := Lib.hid hKw
          have hcw : wr.cell? ⟨B2, 0, none⟩ = some (.slice (some ⟨b2, o2, none⟩) q k2) := (hKSw.cell (p := ⟨B2, 0, none⟩) hS2).trans hc2
          obtain ⟨fn, tmps, assign, body, hy, hR⟩ := yield_any (n - 1) HY.out
          have HRn := Lib.hid hR
          have HCL := Lib.hid hcl
          clear hs hrest hPn hcl hget htl hnp HY hR hDw hBw hKw hKSw hLn hcp hij HP HE HN HZ
          have HE0 : Hid (mm = cl → ps.length = pre.length + 1) := fun h => by
            have h0 : L.drop cl = [] := List.eq_nil_of_length_eq_zero (by rw [HLD.out]; omega)
            have h2 := HPn.out.nil h0
            rw [HE2.out, h2, List.append_nil, List.length_append, List.length_singleton]
          by_cases hccl : cc = cl
          · have hml0 : mm = cl := by omega
            have HF0 := Lib.hid (HE0.out hml0)
            subst hml0 hccl
            gi_wp2_with fail
            refine HRn.out.mono ?_
            rintro e V2 (⟨rfl, ⟨hd, hb⟩, hk, _⟩ | ⟨rfl, hx, _⟩)
            · have hF := Lib.hid (show Dn ps.length V2 ∧ Bk V2 from ⟨by rw [HF0.out]; exact hd, hb⟩)
              clear hd hb hk
              gi_wp2
              first | go_end0 | (rw [Exit.noGoto_normal]; go_end0)
              exact ⟨⟨_, rfl⟩, .inl hF.out⟩
            · have hF := Lib.hid hx
              clear hx
              gi_wp2
              first | go_end0 | (rw [Exit.noGoto_normal]; go_end0)
              exact ⟨⟨_, rfl⟩, .inr hF.out⟩
          · have HNd2 : Hid (NumsS .u8 W1 S (Al.map (·.add cl)) (L.drop cl)) := by
              have h := HNd.out
              rw [if_neg hccl] at h
              exact h
            gi_wp2_with fail
            refine HRn.out.mono ?_
            rintro e V2 (⟨rfl, ⟨hd, hb⟩, hk, _⟩ | ⟨rfl, hx, _⟩)
            · by_cases hml0 : mm = cl
              · have hF := Lib.hid (show Dn ps.length V2 ∧ Bk V2 from ⟨by rw [HE0.out hml0]; exact hd, hb⟩)
                subst hml0
                clear hd hb hk
                gi_wp2
                first | go_end0 | (rw [Exit.noGoto_normal]; go_end0)
                exact ⟨⟨_, rfl⟩, .inl hF.out⟩
              · have hz1 : ¬ ((mm : Int) - (cl : Int) = 0) := by omega
                have hz2 : ((mm : Int) - (cl : Int) == 0) = false := by rw [beq_eq_false_iff_ne]; exact hz1
                have hF := Lib.hid (show Dn (pre ++ [L.take cl]).length V2 ∧ Bk V2 ∧ Kp W1 V2 from ⟨by rw [List.length_append, List.length_singleton]; exact hd, hb, hKt _ _ _ HK1.out hk⟩)
                have hm9 : 0 < mm - cl := by omega
                clear hd hb hk hml0
                gi_wp2
                go_roundw
                case rel => exact ⟨_, L.drop cl, mm - cl, cc - cl, i + 1, pre ++ [L.take cl], qs, rfl, HLD.out, by omega, by omega, hm9, by go_num, by omega, hij2, by omega, HNd2, HPn, HE2, HZn, hF.out⟩
                case measure => simp [intOf]; omega
            · have hF := Lib.hid hx
              clear hx
              gi_wp2
              first | go_end0 | (rw [Exit.noGoto_normal]; go_end0)
              exact ⟨⟨_, rfl⟩, .inr hF.out⟩
        · have hiq2 : i = q := by omega
          have HP0 : Hid (Fc.Parts R 0 L rest) := by
            have h := HP.out
            rw [hiq2, Nat.mod_self] at h
            exact h
          have hm9 : mm < mm0 := by omega
          clear HP
          gi_wp2
          go_roundw
          case rel => exact ⟨Al, L, mm, cc, pre, rest, rfl, hLm, hmc, hml, HN, HP0, HE, HZ, hDw, hBw, hKw⟩
          case measure => have := HM1.out; simp [slLen]; omega
end Go.Proofs.Ytemafhaeppifoaa
