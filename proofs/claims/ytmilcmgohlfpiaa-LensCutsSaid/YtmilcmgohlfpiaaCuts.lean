/-
  The walk of LensCuts.
-/
import Derived.Test.YtmilcmgohlfpiaaKnown3
import Derived.Deep.LoopGhost
namespace Go.Proofs.Ytmilcmgohlfpiaa
open Go.RowKit
set_option maxRecDepth 100000

/-! ### of bytes that are cut short -/
theorem get_cut {l : List Int} {j : Nat} (hl : ∀ c ∈ l, 0 ≤ c ∧ c ≤ 255) (h : (Vi.get (l.take j)).2.2 = 0) : Vi.get l = Vi.get (l.take j) := by
  have hp := Vi.get_put (fun c hc => hl c (List.mem_of_mem_take hc)) h
  have e : l = Vi.enc (Vi.get (l.take j)).1 ++ l.drop (Vi.get (l.take j)).2.1 := by
    rw [hp.2.2.2.1, List.take_take, Nat.min_eq_left]
    · exact (List.take_append_drop _ l).symm
    · have := hp.2.2.1; rw [List.length_take] at this; omega
  have e2 : Vi.get l = ((Vi.get (l.take j)).1, (Vi.enc (Vi.get (l.take j)).1).length, 0) := by
    have := Vi.get_enc hp.1 (l.drop (Vi.get (l.take j)).2.1)
    rwa [← e] at this
  rw [e2, hp.2.2.2.2, ← h]
theorem fldR_ok {l : List Int} {m : Int} (h1 : (Vi.get l).2.2 = 0) (h2 : ¬ max m 0 < ((Vi.get l).1 : Int)) (h3 : ¬ l.length - (Vi.get l).2.1 < (Vi.get l).1) :
    fldR l m = ((l.drop (Vi.get l).2.1).take (Vi.get l).1, (Vi.get l).2.1 + (Vi.get l).1, 0) := by
  unfold fldR; rw [if_neg (fun h => h h1), if_neg h2, if_neg h3]
theorem fldR_of_ok {l : List Int} {m : Int} (h : (fldR l m).2.2 = 0) : (Vi.get l).2.2 = 0 ∧ ¬ max m 0 < ((Vi.get l).1 : Int) ∧ ¬ l.length - (Vi.get l).2.1 < (Vi.get l).1 := by
  revert h
  unfold fldR
  split
  · intro h; contradiction
  · split
    · intro h; contradiction
    · split
      · intro h; contradiction
      · intro _; exact ⟨by omega, by assumption, by assumption⟩
theorem fldR_cut {l : List Int} {j : Nat} {m : Int} (hl : ∀ c ∈ l, 0 ≤ c ∧ c ≤ 255) (h : (fldR (l.take j) m).2.2 = 0) : fldR l m = fldR (l.take j) m := by
  obtain ⟨h1, h2, h3⟩ := fldR_of_ok h
  have e := get_cut hl h1
  have h4 : (l.take j).length ≤ l.length := by rw [List.length_take]; omega
  have h5 : (l.take j).length ≤ j := by rw [List.length_take]; omega
  have h6 := (Vi.get_le (l.take j)).2.2.1
  rw [fldR_ok h1 h2 h3, fldR_ok (by rw [e]; exact h1) (by rw [e]; exact h2) (by rw [e]; omega), e, List.drop_take, List.take_take, Nat.min_eq_left (by omega)]
theorem take_drop_cut (zs : List Int) (k p : Nat) : (zs.take k).drop p = (zs.drop p).take (k - p) := List.drop_take

/-- two lenses, one of the first K bytes -/
def TwoG (w : World) (lx bx ly b2 K : Nat) (zs : List Int) (p1 e1 p2 e2 : Nat) (W : World) : Prop := LensAt W lx bx (zs.take K) p1 e1 ∧ LensAt W ly b2 zs p2 e2 ∧ w.heap.size ≤ lx ∧ bx < ly ∧ Below w.heap.size w W
/-- .. both are at p, without an error -/
def Two (w : World) (lx bx ly b2 K : Nat) (zs : List Int) (p : Nat) (W : World) : Prop := TwoG w lx bx ly b2 K zs p 0 p 0 W
section
variable {w W W' : World} {lx bx ly b2 K p1 e1 p2 e2 s er : Nat} {zs L : List Int}
theorem TwoG.size (h : TwoG w lx bx ly b2 K zs p1 e1 p2 e2 W) : w.heap.size ≤ W.heap.size := h.2.2.2.2.size
theorem TwoG.below (h : TwoG w lx bx ly b2 K zs p1 e1 p2 e2 W) (hb : Below W.heap.size W W') : TwoG w lx bx ly b2 K zs p1 e1 p2 e2 W' :=
  ⟨h.1.below hb, h.2.1.below hb, h.2.2.1, h.2.2.2.1, h.2.2.2.2.trans (hb.mono h.size)⟩
theorem TwoG.drewN (h : TwoG w lx bx ly b2 K zs p1 e1 p2 e2 W) (n : Nat) : TwoG w lx bx ly b2 K zs p1 e1 p2 e2 (W.drewN n) := h.below (below_drewN (Below.refl _ _) n)
theorem TwoG.ln (h : TwoG w lx bx ly b2 K zs p1 e1 p2 e2 W) : Ln w.heap.size w lx bx (zs.take K) p1 e1 W := ⟨h.1, h.2.2.1, h.2.2.2.2⟩
theorem two_x {N : Nat} (h : TwoG w lx bx ly b2 K zs p1 0 p2 e2 W) (hN : N ≤ 1000) (hl : zs.length ≤ 1000) (hz : ∀ c ∈ zs, 0 ≤ c ∧ c ≤ 255) (hf : fldR ((zs.take K).drop p1) N = (L, s, er)) :
    Calls Try.prog 18 #[.pointer (some ⟨bx, 0, none⟩), .int .i64 N] W fun r W1 => ∃ A c, r = .returned (.slice A L.length c) ∧ L.length ≤ c ∧ NumsIn .u8 W1 W.heap.size W1.heap.size A L ∧ TwoG w lx bx ly b2 K zs (p1 + s) er p2 e2 W1 := by
  have hlo := h.1.lo_le
  refine (lfld_any lx bx (zs.take K) p1 0 W N (by omega) (by omega) h.1 (by rw [List.length_take]; omega) (fun c hc => hz c (List.mem_of_mem_take hc))).mono ?_
  rintro r W1 hr
  rw [hf] at hr
  obtain ⟨⟨A, c, rfl, hc, hn⟩, hl1, ho⟩ := hr
  have h3 := h.2.2.1
  have h4 := h.2.2.2.1
  exact ⟨A, c, rfl, hc, hn, hl1, h.2.1.off ho (by intro k hk _ e; omega), h3, h4, h.2.2.2.2.trans (ho.below (by intro k hk; omega) h.size)⟩
theorem two_y {N : Nat} {L1 : List Int} {A1 : Option Addr} {s0 : Nat} (h : TwoG w lx bx ly b2 K zs p1 e1 p2 0 W) (hN : N ≤ 1000) (hl : zs.length ≤ 1000) (hz : ∀ c ∈ zs, 0 ≤ c ∧ c ≤ 255) (hf : fldR (zs.drop p2) N = (L, s, er)) (hn1 : NumsIn .u8 W s0 W.heap.size A1 L1) (hs0 : b2 < s0) :
    Calls Try.prog 18 #[.pointer (some ⟨b2, 0, none⟩), .int .i64 N] W fun r W1 => ∃ A c, r = .returned (.slice A L.length c) ∧ L.length ≤ c ∧ Nums .u8 W1 W1.heap.size A L ∧ TwoG w lx bx ly b2 K zs p1 e1 (p2 + s) er W1 ∧ Nums .u8 W1 W1.heap.size A1 L1 := by
  have hlo := h.1.lo_le
  have hlo2 := h.2.1.lo_le
  refine (lfld_any ly b2 zs p2 0 W N (by omega) (by omega) h.2.1 (by omega) hz).mono ?_
  rintro r W1 hr
  rw [hf] at hr
  obtain ⟨⟨A, c, rfl, hc, hn⟩, hl1, ho⟩ := hr
  have h3 := h.2.2.1
  have h4 := h.2.2.2.1
  exact ⟨A, c, rfl, hc, hn.nums, ⟨h.1.off ho (by intro k hk _ e; omega), hl1, h3, h4, h.2.2.2.2.trans (ho.below (by intro k hk; omega) h.size)⟩, ((hn1.keeps (Keeps.of_off ho (Nat.le_refl _) (by intro k hk _ e; omega))).nums.mono ho.size)⟩
theorem ln_u32 {B lo b p e : Nat} {w0 : World} (h : Ln B w0 lo b zs p e W) (he : e ≠ 0) (hl : zs.length ≤ 1000) (hz : ∀ c ∈ zs, 0 ≤ c ∧ c ≤ 255) :
    Calls Try.prog 11 #[.pointer (some ⟨b, 0, none⟩)] W fun r W1 => r = .returned (.int .u32 0) ∧ Ln B w0 lo b zs p e W1 :=
  (lu32_any lo b zs p e W h.1 (by omega) hz).mono fun r W1 hr => by
    have := h.int hr
    simpa [ansI, placeOf, errOf, he] using this
theorem ln_rest {B lo b p e : Nat} {w0 : World} (h : Ln B w0 lo b zs p e W) (he : e ≠ 0) (hl : zs.length ≤ 1000) :
    Calls Try.prog 20 #[.pointer (some ⟨b, 0, none⟩)] W fun r W1 => (∃ v, r = .returned v) ∧ Ln B w0 lo b zs p e W1 :=
  (lrest_any lo b zs p e W h.1 (by omega)).mono fun r W1 hr => by
    obtain ⟨⟨A, c, hA, _⟩, h2⟩ := h.bytes hr
    exact ⟨⟨_, hA⟩, by simpa [placeOf, errOf, he] using h2⟩
theorem ln_end {B lo b p e : Nat} {w0 : World} (h : Ln B w0 lo b zs p e W) (he : e ≠ 0) (hl : zs.length ≤ 1000) :
    Calls Try.prog 35 #[.pointer (some ⟨b, 0, none⟩)] W fun r W1 => r = .returned (.int .i64 e) ∧ Ln B w0 lo b zs p e W1 :=
  (lend_any lo b zs p e W h.1 (by omega)).mono fun r W1 ⟨hr, n, hn⟩ => by
    subst hn
    exact ⟨by rw [hr]; simp [endOf, he], h.drewN n⟩
end

set_option maxHeartbeats 2000000 in
theorem cuts_go (a0 : Option Addr) (len cap : Nat) (es : List Int) (a1 a2 : Int) (w : World) (hlen : es.length = len) (hlc : len ≤ cap) (hz : ∀ c ∈ es, 0 ≤ c ∧ c ≤ 255) (hn : Nums .u8 w w.heap.size a0 es) :
    Calls Try.prog 6 #[.slice a0 len cap, .int .i64 a1, .int .i64 a2] w fun e w' => e = .returned (.bool true) ∧ Below w.heap.size w w' := by
  obtain ⟨m, hm⟩ : ∃ m : Nat, (if 100 < (len : Int) then (100 : Int) else (len : Int)) = (m : Int) := ⟨min len 100, by split <;> omega⟩
  have hm1 : m ≤ 100 := by split at hm <;> omega
  have hm2 : m ≤ len := by split at hm <;> omega
  obtain ⟨zs, hzs⟩ : ∃ zs, es.take m = zs := ⟨_, rfl⟩
  have hzl : zs.length = m := by rw [← hzs, List.length_take]; omega
  have hzb : ∀ c ∈ zs, 0 ≤ c ∧ c ≤ 255 := by intro c hc; rw [← hzs] at hc; exact hz c (List.mem_of_mem_take hc)
  have hzn : Nums .u8 w w.heap.size a0 zs := by rw [← hzs]; exact hn.take m
  obtain ⟨K, hK, hK1⟩ : ∃ K : Nat, wrap64 ((IntKind.u64.wrap a1).tmod ((m : Int) + 1)) = (K : Int) ∧ K ≤ m := by
    have h0 : 0 ≤ IntKind.u64.wrap a1 := by rw [IntKind.wrap_u64]; omega
    have h1 := Int.tmod_nonneg ((m : Int) + 1) h0
    have h2 := Int.tmod_lt_of_pos (IntKind.u64.wrap a1) (show 0 < (m : Int) + 1 by omega)
    refine ⟨((IntKind.u64.wrap a1).tmod ((m : Int) + 1)).toNat, ?_, by omega⟩
    unfold wrap64; omega
  obtain ⟨N, hN, hN1⟩ : ∃ N : Nat, wrap64 ((IntKind.u64.wrap a2).tmod 20) = (N : Int) ∧ N ≤ 19 := by
    have h0 : 0 ≤ IntKind.u64.wrap a2 := by rw [IntKind.wrap_u64]; omega
    have h1 := Int.tmod_nonneg 20 h0
    have h2 := Int.tmod_lt_of_pos (IntKind.u64.wrap a2) (show (0 : Int) < 20 by omega)
    refine ⟨((IntKind.u64.wrap a2).tmod 20).toNat, ?_, by omega⟩
    unfold wrap64; omega
  have hKc : (K : Int) ≤ (cap : Int) := by omega
  have HX := lnew_any a0 K cap (zs.take K) w (by rw [List.length_take]; omega) (by omega) (hzn.take K)
  have HY : ∀ w1, Below w.heap.size w w1 → Calls Try.prog 7 #[.slice a0 m cap] w1 fun e w' => ∃ b, e = .returned (.pointer (some ⟨b, 0, none⟩)) ∧ LensAt w' w1.heap.size b zs 0 0 ∧ Below w1.heap.size w1 w' := fun w1 hb => lnew_any a0 m cap zs w1 hzl (by omega) ((hzn.below hb).mono hb.size)
  clear hz hn hzs hzn
  go_enter Try.func6, Try.ntmps6
  go_wp2_with (first
    | (go_at_call 7; refine HX.mono ?_; rintro e w1 ⟨bx, rfl, hl1, hb1⟩; have HL1 := Lib.hid hl1; have HB1 := Lib.hid hb1; have HY1 := HY _ hb1; clear hl1 hb1 HX HY)
    | (go_at_call 7; refine HY1.mono ?_; rintro e w2 ⟨b2, rfl, hl2, hb2⟩; have HL2 := Lib.hid hl2; have HB2 := Lib.hid hb2; clear hl2 hb2 HY1))
  have HT : Hid (Two w w.heap.size bx w1.heap.size b2 K zs 0 w2) := ⟨HL1.out.below HB2.out, HL2.out, Nat.le_refl _, HL1.out.lt, HB1.out.trans (HB2.out.mono HB1.out.size)⟩
  go_loopw [10] (fun i wr => ∃ (k p : Nat), k ≤ 10 ∧ i = .int .i64 k ∧ Hid (Two w w.heap.size bx w1.heap.size b2 K zs p wr)) (fun i _ => 10 - (intOf i).toNat)
  case atStart => exact ⟨0, 0, by omega, rfl, HT⟩
  case round =>
    obtain ⟨k, p, hk, rfl, HI⟩ := hrel
    clear HT HL1 HL2 HB1 HB2
    by_cases hlt : k < 10
    · have hlt' : (k : Int) < 10 := by omega
      have hb2 : b2 < wr.heap.size := HI.out.2.1.lt
      have hzl' : zs.length ≤ 1000 := by omega
      have HZ := Lib.hid hzb
      clear hzb
      by_cases h0 : (fldR ((zs.take K).drop p) N).2.2 = 0
      · obtain ⟨⟨L, s, er⟩, hf⟩ : ∃ q, fldR ((zs.take K).drop p) N = q := ⟨_, rfl⟩
        rw [hf] at h0
        simp only at h0
        subst h0
        have hf2 : fldR (zs.drop p) N = (L, s, 0) := by
          rw [take_drop_cut] at hf
          rw [← hf]
          exact fldR_cut (fun c hc => HZ.out c (List.mem_of_mem_drop hc)) (by rw [hf])
        have HF := Lib.hid hf
        have HF2 := Lib.hid hf2
        have HLL : Hid (L.length ≤ 9223372036854775807) := by
          have h := (fldR_of_ok (l := zs.drop p) (m := N) (by rw [hf2]))
          have h5 := fldR_ok h.1 h.2.1 h.2.2
          rw [hf2] at h5
          have h6 : L = _ := congrArg Prod.fst h5
          show L.length ≤ _
          rw [h6, List.length_take, List.length_drop, List.length_drop]
          show min _ _ ≤ _
          omega
        clear hf hf2
        go_wp2_with (first
          | (go_at_call 18; refine (two_x HI.out (Nat.le_trans hN1 (by decide)) hzl' HZ.out HF.out).mono ?_; rintro e W1 ⟨A1, c1, rfl, hc1, hn1, hx1⟩; have HX1 := Lib.hid hx1; have HN1 := Lib.hid hn1; clear hx1 hn1)
          | (go_at_call 18; refine (two_y HX1.out (Nat.le_trans hN1 (by decide)) hzl' HZ.out HF2.out HN1.out hb2).mono ?_; rintro e W2 ⟨A2, c2, rfl, hc2, hn2, hx2, hn3⟩; have HX2 := Lib.hid hx2; have HN2 := Lib.hid hn2; have HN3 := Lib.hid hn3; clear hx2 hn2 hn3)
          | (go_at_call 39; refine (lerr_any _ _ _ _ _ _ HX2.out.1).mono ?_; rintro e w3 ⟨rfl, rfl⟩)
          | (go_at_call 39; refine (lerr_any _ _ _ _ _ _ HX2.out.2.1).mono ?_; rintro e w3 ⟨rfl, rfl⟩)
          | (go_at_call 22; refine (same_eq _ _ _ _ _ _ _ HLL.out HN3.out HN2.out).mono ?_; rintro e w3 ⟨rfl, n, rfl⟩; have HX3 := Lib.hid (HX2.out.drewN n); clear HX2; have HX2 := HX3; clear HX3)
          | (go_at_call 38; refine (lplace_any _ _ _ _ _ _ HX2.out.1).mono ?_; rintro e w3 ⟨rfl, rfl⟩)
          | (go_at_call 38; refine (lplace_any _ _ _ _ _ _ HX2.out.2.1).mono ?_; rintro e w3 ⟨rfl, rfl⟩))
        go_roundw
        case rel => exact ⟨k + 1, p + s, by omega, by go_num, HX2⟩
        case measure => simp [intOf]; omega
      · obtain ⟨⟨L, s, er⟩, hf⟩ : ∃ q, fldR ((zs.take K).drop p) N = q := ⟨_, rfl⟩
        obtain ⟨⟨L2, s2, er2⟩, hf2⟩ : ∃ q, fldR (zs.drop p) N = q := ⟨_, rfl⟩
        have hfe := fldR_err h0
        rw [hf] at h0 hfe
        simp only at h0 hfe
        obtain ⟨rfl, rfl⟩ := hfe
        have HF := Lib.hid hf
        have HF2 := Lib.hid hf2
        have HE := Lib.hid h0
        have h3 : ((er : Int) == 0) = false := by simp; omega
        have h4 : ((er : Int) != 0) = true := by simp; omega
        have h5 : ¬ (er : Int) = 0 := by omega
        have hzt : (zs.take K).length ≤ 1000 := by rw [List.length_take]; omega
        have HZT : Hid (∀ c ∈ zs.take K, 0 ≤ c ∧ c ≤ 255) := fun c hc => HZ.out c (List.mem_of_mem_take hc)
        clear hf hf2 h0
        go_wp2_with (first
          | (go_at_call 18; refine (two_x HI.out (Nat.le_trans hN1 (by decide)) hzl' HZ.out HF.out).mono ?_; rintro e W1 ⟨A1, c1, rfl, hc1, hn1, hx1⟩; have HX1 := Lib.hid hx1; have HN1 := Lib.hid hn1; clear hx1 hn1)
          | (go_at_call 18; refine (two_y HX1.out (Nat.le_trans hN1 (by decide)) hzl' HZ.out HF2.out HN1.out hb2).mono ?_; rintro e W2 ⟨A2, c2, rfl, hc2, hn2, hx2, hn3⟩; have HX2 := Lib.hid hx2.ln; clear hx2 hn2 hn3)
          | (go_at_call 39; refine (lerr_any _ _ _ _ _ _ HX2.out.1).mono ?_; rintro e w3 ⟨rfl, rfl⟩)
          | (go_at_call 38; refine (lplace_any _ _ _ _ _ _ HX2.out.1).mono ?_; rintro e w3 ⟨rfl, rfl⟩)
          | (go_at_call 11; refine (ln_u32 HX2.out HE.out hzt HZT.out).mono ?_; rintro e w3 ⟨rfl, hx3⟩; clear HX2; have HX2 := Lib.hid hx3; clear hx3)
          | (go_at_call 20; refine (ln_rest HX2.out HE.out hzt).mono ?_; rintro e w3 ⟨⟨v, rfl⟩, hx3⟩; clear HX2; have HX2 := Lib.hid hx3; clear hx3)
          | (go_at_call 24; refine (known3_any _).mono ?_; rintro e w3 ⟨rfl, hb⟩; have HX3 := Lib.hid (HX2.out.below hb); clear HX2 hb; have HX2 := HX3; clear HX3)
          | (go_at_call 35; refine (ln_end HX2.out HE.out hzt).mono ?_; rintro e w3 ⟨rfl, hx3⟩; clear HX2; have HX2 := Lib.hid hx3; clear hx3))
        go_ret
        exact ⟨rfl, HX2.out.2.2⟩
    · go_wp2_with (go_at_call 24; refine (known3_any _).mono ?_; rintro e w2 ⟨rfl, hb⟩; have HB := Lib.hid hb; clear hb)
      go_ret
      exact ⟨rfl, HI.out.2.2.2.2.trans (HB.out.mono HI.out.size)⟩
theorem walk_cuts (a0 : Option Addr) (len0 cap0 : Nat) (z0 : List Int) (a1 a2 : Int) (w : World) (w0 : IsRow .u8 w a0 len0 cap0 z0) (_w1 : (Lit.int .i64 a1).wf = true) (_w2 : (Lit.int .i64 a2).wf = true) :
    Calls Try.prog 6 #[.slice a0 len0 cap0, .int .i64 a1, .int .i64 a2] w fun e w' => e = .returned (.bool true) ∧ Below w.heap.size w w' := by
  obtain ⟨es, hes, hlc, _, hn, hw⟩ := w0.elems
  refine cuts_go a0 len0 cap0 es a1 a2 w hes hlc (fun c hc => ?_) hn
  have h := hw c hc
  simp [Lit.wf] at h
  exact h
end Go.Proofs.Ytmilcmgohlfpiaa
