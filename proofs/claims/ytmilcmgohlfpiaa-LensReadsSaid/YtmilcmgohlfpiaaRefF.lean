/-
  Contract of the document's Field of layer 3.
-/
import Derived.Test.YtmilcmgohlfpiaaRefB
namespace Go.Proofs.Ytmilcmgohlfpiaa
open Go.RowKit
set_option maxRecDepth 100000

set_option maxHeartbeats 1000000 in
/-- Field, at a most that isn't below 0 -/
theorem rfld_pos (A : Option Addr) (n c p e : Nat) (l : List Int) (m M : Int) (w : World) (hn : l.length = n) (hcn : n ≤ c) (hl : n ≤ 1000000000) (hp : p ≤ n) (hz : ∀ x ∈ l, 0 ≤ x ∧ x ≤ 255) (hm : (m < 0 ∧ M = 0) ∨ (¬ m < 0 ∧ M = m)) (hm1 : m ≤ 9223372036854775807) (h1 : Nums .u8 w w.heap.size A l) :
    Calls Try.prog 19 #[RefL A n c p e, .int .i64 m] w fun r w' => RefB A n c p e (fldR (l.drop p) m) w r w' := by
  obtain ⟨i0, hi, hz0, hz1, hz2⟩ := info_parts byteInfo
  by_cases he : e = 0
  · subst he
    have hM : max m 0 = M := by omega
    have hM0 : 0 ≤ M := by omega
    have hM1 : M ≤ 9223372036854775807 := by omega
    have hb0 : Below w.heap.size w ((w.alloc (RefC A n c p 0)).alloc (RefC none 0 0 0 0)) := ((Below.refl _ w).alloc (Nat.le_refl _) _).alloc (by simp) _
    have HG := rget_len _ A n c l p ((w.alloc (RefC A n c p 0)).alloc (RefC none 0 0 0 0)) hn (by omega) (by omega) (by omega) hz (h1.below hb0)
    rw [Int.toNat_natCast] at HG
    have HF := fun e' w => rfail_any A n c p 0 e' w
    have hle := Vi.get_le (l.drop p)
    have hdl : (l.drop p).length = n - p := by rw [List.length_drop, hn]
    rw [hdl] at hle
    clear hz
    by_cases h0 : (Vi.get (l.drop p)).2.2 = 0
    · by_cases hmany : M < ((Vi.get (l.drop p)).1 : Int)
      · have HR : Hid (fldR (l.drop p) m = ([], 0, 6)) := by show _ = _; unfold fldR; rw [if_neg (by simp [h0]), if_pos (by rw [hM]; exact hmany)]
        generalize Vi.get (l.drop p) = r at *
        obtain ⟨r1, r2, r3⟩ := r
        simp only at h0 hmany hle HG
        subst h0
        clear hdl h1 hM
        rcases hm with ⟨hmn, rfl⟩ | ⟨hmn, rfl⟩
        · go_enter Try.func19, Try.ntmps19
          go_wp2_with (first
            | (go_at_call 46; refine HG.mono ?_; rintro e w1 ⟨rfl, rfl⟩)
            | (go_at_call 42; refine (HF 6 _).mono ?_; rintro e w1 ⟨rfl, hb⟩; obtain ⟨d0, d1, d2, hrb, hbb⟩ := ref_blocks A n c p 0 w rfl hb; obtain ⟨_, g0, g1, g2, k0, k1, k2⟩ := hrb; have HB := Lib.hid hbb; clear hb hbb))
          refine bodyPost_ret (by simp [results, Try.results19, go_sem, k0, k1, k2]; try rfl) rfl ?_
          exact by rw [HR.out]; exact RefB.bad rfl rfl (below_set3 HB.out (by omega))
        · go_enter Try.func19, Try.ntmps19
          go_wp2_with (first
            | (go_at_call 46; refine HG.mono ?_; rintro e w1 ⟨rfl, rfl⟩)
            | (go_at_call 42; refine (HF 6 _).mono ?_; rintro e w1 ⟨rfl, hb⟩; obtain ⟨d0, d1, d2, hrb, hbb⟩ := ref_blocks A n c p 0 w rfl hb; obtain ⟨_, g0, g1, g2, k0, k1, k2⟩ := hrb; have HB := Lib.hid hbb; clear hb hbb))
          refine bodyPost_ret (by simp [results, Try.results19, go_sem, k0, k1, k2]; try rfl) rfl ?_
          exact by rw [HR.out]; exact RefB.bad rfl rfl (below_set3 HB.out (by omega))
      · by_cases hmore : n - p - (Vi.get (l.drop p)).2.1 < (Vi.get (l.drop p)).1
        · have HR : Hid (fldR (l.drop p) m = ([], 0, 4)) := by show _ = _; unfold fldR; rw [if_neg (by simp [h0]), if_neg (by rw [hM]; exact hmany), if_pos (by rw [hdl]; exact hmore)]
          generalize Vi.get (l.drop p) = r at *
          obtain ⟨r1, r2, r3⟩ := r
          simp only at h0 hmany hle HG hmore
          subst h0
          have hgt : (n : Int) - ((p : Int) + (r2 : Int)) < (r1 : Int) := by omega
          clear hdl h1 hM
          rcases hm with ⟨hmn, rfl⟩ | ⟨hmn, rfl⟩
          · omega
          · go_enter Try.func19, Try.ntmps19
            go_wp2_with (first
              | (go_at_call 46; refine HG.mono ?_; rintro e w1 ⟨rfl, rfl⟩)
              | (go_at_call 42; refine (HF 4 _).mono ?_; rintro e w1 ⟨rfl, hb⟩; obtain ⟨d0, d1, d2, hrb, hbb⟩ := ref_blocks A n c p 0 w rfl hb; obtain ⟨_, g0, g1, g2, k0, k1, k2⟩ := hrb; have HB := Lib.hid hbb; clear hb hbb))
            refine bodyPost_ret (by simp [results, Try.results19, go_sem, k0, k1, k2]; try rfl) rfl ?_
            exact by rw [HR.out]; exact RefB.bad rfl rfl (below_set3 HB.out (by omega))
        · have HR : Hid (fldR (l.drop p) m = (((l.drop p).drop (Vi.get (l.drop p)).2.1).take (Vi.get (l.drop p)).1, (Vi.get (l.drop p)).2.1 + (Vi.get (l.drop p)).1, 0)) := by
            show _ = _; unfold fldR; rw [if_neg (by simp [h0]), if_neg (by rw [hM]; exact hmany), if_neg (by rw [hdl]; exact hmore)]
          generalize Vi.get (l.drop p) = r at *
          obtain ⟨r1, r2, r3⟩ := r
          simp only at h0 hmany hle HG hmore HR
          subst h0
          rw [List.drop_drop] at HR
          obtain ⟨q, hq⟩ : ∃ q, p + r2 = q := ⟨_, rfl⟩
          rw [hq] at HR
          have HGQ : Calls Try.prog 46 #[.slice A n c, .int .i64 p] ((w.alloc (RefC A n c p 0)).alloc (RefC none 0 0 0 0)) fun e w' => e = .returned (.tuple #[.int .u64 r1, .int .i64 q, .int .i64 0]) ∧ (w.alloc (RefC A n c p 0)).alloc (RefC none 0 0 0 0) = w' :=
            HG.mono fun e w' ⟨g, h⟩ => ⟨by rw [show e = _ from g, ← hq]; simp, h⟩
          have hd := (h1.drop (i := q) (cap := c) (by omega)).take r1
          obtain ⟨A', hA'⟩ : ∃ A', (if c = q then A else Option.map (fun x => x.add q) A) = A' := ⟨_, rfl⟩
          rw [hA'] at hd
          obtain ⟨wb, hwb⟩ : ∃ wb, wb = (w.alloc (RefC A n c p 0)).alloc (RefC none 0 0 0 0) := ⟨_, rfl⟩
          have hbb : Below w.heap.size w wb := by rw [hwb]; exact hb0
          have hsb : wb.heap.size = w.heap.size + 1 + 1 := by rw [hwb]; simp
          have hLit := MadeK.lit' (w := wb) (w1 := wb) 5 .u8 hsb (Below.refl _ _)
          have hD := (hd.below hbb).below ((Below.refl _ wb).alloc (B := w.heap.size) hbb.size (.cells #[] 5))
          have hlen : ((l.drop q).take r1).length = r1 := by rw [List.length_take, List.length_drop, hn]; omega
          rw [hwb] at hLit hD
          have HLit := Lib.hid hLit
          have HD := Lib.hid hD
          have HBB := Lib.hid hbb
          have HSB := Lib.hid hsb
          have HWB := Lib.hid hwb
          have HK : Hid (((l.drop q).take r1).length = q + r1 - q) := by show _ = _; rw [hlen]; omega
          have HEND : Hid (((q : Int) + (r1 : Int)) = ((p + (r2 + r1) : Nat) : Int)) := by show _ = _; omega
          have HLEN : Hid (min r1 (n - q) = ((l.drop q).take r1).length) := by show _ = _; rw [List.length_take, List.length_drop, hn]
          have hle2 : ¬ (n : Int) - (q : Int) < (r1 : Int) := by omega
          have hqn : q ≤ n := by omega
          have hrn : r1 ≤ n := by omega
          have g1 : (q : Int) + (r1 : Int) ≤ (c : Int) := by omega
          have g3 : q + r1 - q = r1 := by omega
          clear h1 hd hD hLit hbb hsb hwb hdl hlen hM hmore hb0 hle HG hq
          rcases hm with ⟨hmn, rfl⟩ | ⟨hmn, rfl⟩
          · go_enter Try.func19, Try.ntmps19
            go_wp2_with (first
              | (go_at_call 46; refine HGQ.mono ?_; rintro e w1 ⟨rfl, rfl⟩)
              | (at_builtin; go_loud (refine wpList_append_any rfl (.tmp 50) (.tmp 58) 22 rfl _ 5 i0 (.int .u8 0) 1 Try.underlying22 hi hz0 hz1 hz2 rfl .u8 [] ((l.drop q).take r1) _ rfl HLit.out.1 A' (q + r1 - q) (c - q) _ rfl HK.out HD.out ?c1 ?c2 HLit.out.2.size ?_); rotate_left 2; intro v1 w1 hown hg; have HM1 : Hid (MadeK 5 .u8 wb w1 ((l.drop q).take r1) v1) := (by have h := HLit.out.more hown hg; rwa [← HWB.out, List.nil_append] at h); clear hown hg HLit HD; obtain ⟨A2, c2, rfl, _, _⟩ := HM1.out.slice; have RB := rawB_of (w := w) (A := A) (n := n) (c := c) (p := p) (e := 0) (HWB.out ▸ HM1.out.2); obtain ⟨x0, x1, x2, x3, m0, m1, m2, d0, d1, d2, g0', g1', g2', k0, k1, k2⟩ := RB))
            · refine bodyPost_ret (by simp [results, Try.results19, go_sem, k0, k1, k2]; try rfl) rfl ?_
              rw [HR.out]
              exact RefB.ok rfl HEND.out HLEN.out (nums_set4 (lo := w.heap.size) HM1.out.numsIn (by rw [HSB.out]; omega) (by rw [HSB.out]; omega) HBB.out.size) (below_set4 (HBB.out.trans (HM1.out.2.mono HBB.out.size)) (Nat.le_refl _) (Nat.le_succ _))
            all_goals first
              | (unfold maxLen; omega)
              | ((try simp only [List.length_nil]); (try unfold maxLen); omega)
          · go_enter Try.func19, Try.ntmps19
            go_wp2_with (first
              | (go_at_call 46; refine HGQ.mono ?_; rintro e w1 ⟨rfl, rfl⟩)
              | (at_builtin; go_loud (refine wpList_append_any rfl (.tmp 50) (.tmp 58) 22 rfl _ 5 i0 (.int .u8 0) 1 Try.underlying22 hi hz0 hz1 hz2 rfl .u8 [] ((l.drop q).take r1) _ rfl HLit.out.1 A' (q + r1 - q) (c - q) _ rfl HK.out HD.out ?d1 ?d2 HLit.out.2.size ?_); rotate_left 2; intro v1 w1 hown hg; have HM1 : Hid (MadeK 5 .u8 wb w1 ((l.drop q).take r1) v1) := (by have h := HLit.out.more hown hg; rwa [← HWB.out, List.nil_append] at h); clear hown hg HLit HD; obtain ⟨A2, c2, rfl, _, _⟩ := HM1.out.slice; have RB := rawB_of (w := w) (A := A) (n := n) (c := c) (p := p) (e := 0) (HWB.out ▸ HM1.out.2); obtain ⟨x0, x1, x2, x3, m0, m1, m2, d0, d1, d2, g0', g1', g2', k0, k1, k2⟩ := RB))
            · refine bodyPost_ret (by simp [results, Try.results19, go_sem, k0, k1, k2]; try rfl) rfl ?_
              rw [HR.out]
              exact RefB.ok rfl HEND.out HLEN.out (nums_set4 (lo := w.heap.size) HM1.out.numsIn (by rw [HSB.out]; omega) (by rw [HSB.out]; omega) HBB.out.size) (below_set4 (HBB.out.trans (HM1.out.2.mono HBB.out.size)) (Nat.le_refl _) (Nat.le_succ _))
            all_goals first
              | (unfold maxLen; omega)
              | ((try simp only [List.length_nil]); (try unfold maxLen); omega)
    · have HR : Hid (fldR (l.drop p) m = ([], 0, (Vi.get (l.drop p)).2.2)) := by show _ = _; unfold fldR; rw [if_pos h0]
      have h3 : ¬ (((Vi.get (l.drop p)).2.2 : Nat) : Int) = 0 := by omega
      have h4 : ((((Vi.get (l.drop p)).2.2 : Nat) : Int) == 0) = false := by simp; omega
      have h5 : ((((Vi.get (l.drop p)).2.2 : Nat) : Int) != 0) = true := by simp; omega
      generalize Vi.get (l.drop p) = r at *
      obtain ⟨r1, r2, r3⟩ := r
      simp only at h0 h3 h4 h5 hle HG HR
      clear hdl h0 h1 hM
      rcases hm with ⟨hmn, rfl⟩ | ⟨hmn, rfl⟩
      · go_enter Try.func19, Try.ntmps19
        go_wp2_with (first
          | (go_at_call 46; refine HG.mono ?_; rintro e w1 ⟨rfl, rfl⟩)
          | (go_at_call 42; refine (HF r3 _).mono ?_; rintro e w1 ⟨rfl, hb⟩; obtain ⟨d0, d1, d2, hrb, hbb⟩ := ref_blocks A n c p 0 w rfl hb; obtain ⟨_, g0, g1, g2, k0, k1, k2⟩ := hrb; have HB := Lib.hid hbb; clear hb hbb))
        refine bodyPost_ret (by simp [results, Try.results19, go_sem, k0, k1, k2]; try rfl) rfl ?_
        exact by rw [HR.out]; exact RefB.bad rfl rfl (below_set3 HB.out (by omega))
      · go_enter Try.func19, Try.ntmps19
        go_wp2_with (first
          | (go_at_call 46; refine HG.mono ?_; rintro e w1 ⟨rfl, rfl⟩)
          | (go_at_call 42; refine (HF r3 _).mono ?_; rintro e w1 ⟨rfl, hb⟩; obtain ⟨d0, d1, d2, hrb, hbb⟩ := ref_blocks A n c p 0 w rfl hb; obtain ⟨_, g0, g1, g2, k0, k1, k2⟩ := hrb; have HB := Lib.hid hbb; clear hb hbb))
        refine bodyPost_ret (by simp [results, Try.results19, go_sem, k0, k1, k2]; try rfl) rfl ?_
        exact by rw [HR.out]; exact RefB.bad rfl rfl (below_set3 HB.out (by omega))
  · have h3 : ¬ (e : Int) = 0 := by omega
    have h4 : ((e : Int) != 0) = true := by simp; omega
    go_enter Try.func19, Try.ntmps19
    go_wp2
    go_returns
    exact RefB.err he (((Below.refl _ w).alloc (Nat.le_refl _) _).alloc (by simp) _)
end Go.Proofs.Ytmilcmgohlfpiaa
