/-
  A part of the texts of one proof, put together: CobD, SamA, CobK, FrW, FrK, FrE, FrZ, HdO, FrA.
-/
import Derived.ScopeJumps
import Derived.Test.YtbohdmconeebeaaRows
import Derived.WalkKit
import Derived.ProofKit
import Derived.OpenShut
import Derived.Deep.Fields
import Derived.Deep.Slices
import Derived.ChangeSame
import Derived.Test.YtbohdmconeebeaaMB2
namespace Go.Proofs.Ytbohdmconeebeaa
open Go.RowKit
set_option maxRecDepth 100000

/-- what Decode leaves -/
def DecR (w : World) (r : Option (List Int)) (e : Ending) (w' : World) : Prop :=
  match r with
  | some x => ∃ v, e = .returned (.tuple #[v, .int .i64 0]) ∧ MadeK 5 .u8 w w' x v
  | none => e = .returned (.tuple #[.slice none 0 0, .int .i64 12]) ∧ Below w.heap.size w w'

theorem DecR.none_of {w w' : World} {zs : List Int} (h : Cb.dec false zs = none) (hb : Below w.heap.size w w') : DecR w (Cb.dec false zs) (.returned (.tuple #[.slice none 0 0, .int .i64 12])) w' := by
  rw [h]; exact ⟨rfl, hb⟩
theorem DecR.some_of {w w' : World} {zs x : List Int} {v : Value} (h : Cb.dec false zs = some x) (hm : MadeK 5 .u8 w w' x v) : DecR w (Cb.dec false zs) (.returned (.tuple #[v, .int .i64 0])) w' := by
  rw [h]; exact ⟨v, rfl, hm⟩
/-- cut ahead: the address as the walk spells it -/
theorem Nums.dropAt {k : IntKind} {w : World} {B : Nat} {a a' : Option Addr} {zs : List Int} (h : Nums k w B a zs) {i : Nat} (ha : i < zs.length → ∀ b o, a = some ⟨b, o, none⟩ → a' = some ⟨b, o + i, none⟩) : Nums k w B a' (zs.drop i) := fun hn => by
  have hi' : i < zs.length := by
    rcases Nat.lt_or_ge i zs.length with h1 | h1
    · exact h1
    · exact absurd (List.drop_eq_nil_of_le h1) hn
  obtain ⟨b, off, rfl, hb, hcell⟩ := h (by intro e; subst e; simp at hi')
  refine ⟨b, off + i, ha hi' b off rfl, hb, fun q c hj => ?_⟩
  rw [Nat.add_assoc]
  exact hcell (i + q) c (by rw [← hj, List.getElem?_drop])

set_option maxHeartbeats 4000000 in
theorem decode_any (a : Option Addr) (n c : Nat) (zs : List Int) (w : World) (hn : zs.length = n) (hc : n ≤ c) (hl : n ≤ 1000000) (hz : Bytes zs) (h1 : Nums .u8 w w.heap.size a zs) :
    Calls Try.prog 23 #[.slice a n c] w fun e w' => DecR w (Cb.dec false zs) e w' := by
  obtain ⟨i0, hi, hz0, hz1, hz2⟩ := info_parts byteInfo
  go_enter Try.func23, Try.ntmps23
  go_wp2
  refine wp_scope_jumps 0 (fun a' w' => Cb.dec false zs = none ∧ Below w.heap.size w w' ∧ a'.tmps.size = 64 ∧ a'.defers = []) (fun _ _ => 0) (by rfl) ?_ ?_
  · go_wp2
    refine wp_label ?_
    go_wp2
    go_loopw [4, 5, 6] (fun v l fl wr => ∃ (A : Option Addr) (L o : List Int) (m c : Nat) (f : Bool), l = .slice A m c ∧ fl = .bool f ∧ L.length = m ∧ m ≤ c ∧ m ≤ 1000000 ∧ o.length + m ≤ 2000000 ∧ Hid (Nums .u8 w w.heap.size A L) ∧ Hid (Bytes L) ∧ Hid (Cb.dec false zs = (Cb.dec f L).map (o ++ ·)) ∧ Hid (MadeK 5 .u8 w wr o v))
      (fun _ l _ _ => sliceLen l)
    case atStart => exact ⟨a, zs, [], n, c, false, rfl, rfl, hn, hc, hl, by simp; omega, h1, hz, by show _ = _; simp, MadeK.nil _ _ (Below.refl _ _)⟩
    case round =>
      obtain ⟨A, L, o, m, c, f, rfl, rfl, hm, hmc, hml, hom, HN, HZ, HD, HM⟩ := hrel
      have hbe := HM.out.2
      by_cases h0 : m = 0
      · obtain rfl : L = [] := List.length_eq_zero_iff.1 (by omega)
        have hd : Cb.dec false zs = none := by rw [HD.out, Cb.dec_nil]; rfl
        subst h0
        go_wp2
        go_step3
        exact (show _ ∧ _ from ⟨rfl, hd, hbe, rfl, rfl⟩)
      · obtain ⟨z, r, rfl⟩ : ∃ z r, L = z :: r := by
          cases L with
          | nil => exact absurd hm.symm h0
          | cons z r => exact ⟨z, r, rfl⟩
        have hzb := HZ.out z (by simp)
        obtain ⟨q, rfl⟩ : ∃ q : Nat, z = (q : Int) := ⟨z.toNat, by omega⟩
        obtain ⟨b1, o1, rfl, hb1, hc1⟩ := (HN.out.below hbe).open (j := 0) (c := (q : Int)) rfl
        rw [Nat.add_zero] at hc1
        have hm0 : ¬ ((m : Int) = 0) := by omega
        have hr : r.length + 1 = m := by simpa using hm
        by_cases hq0 : q = 0
        · subst hq0
          have hd : Cb.dec false zs = none := by rw [HD.out, Cb.dec_bad (.inl (by omega))]; rfl
          go_wp2
          go_step3
          exact (show _ ∧ _ from ⟨rfl, hd, hbe, rfl, rfl⟩)
        · have hq1 : ¬ ((q : Int) = 0) := by omega
          by_cases hqm : m < q
          · have hd : Cb.dec false zs = none := by rw [HD.out, Cb.dec_bad (.inr (by omega))]; rfl
            have hq2 : (m : Int) < (q : Int) := by omega
            go_wp2
            go_step3
            exact (show _ ∧ _ from ⟨rfl, hd, hbe, rfl, rfl⟩)
          · have hq2 : ¬ (m : Int) < (q : Int) := by omega
            obtain ⟨k, hk⟩ : ∃ k, q = k + 1 := ⟨q - 1, by omega⟩
            have hkr : k ≤ r.length := by omega
            have hbl : (r.take k).length = k := by rw [List.length_take]; omega
            have hq3 : (1 : Int) ≤ (q : Int) := by omega
            have hq4 : (q : Int) ≤ (c : Int) := by omega
            have hq5 : (q : Int) ≤ (m : Int) := by omega
            have hmc' : (m : Int) ≤ (c : Int) := by omega
            have hm00 : ((m : Int) == 0) = false := by rw [beq_eq_false_iff_ne]; exact hm0
            have hq00 : ((q : Int) == 0) = false := by rw [beq_eq_false_iff_ne]; exact hq1
            have HK := Lib.hid hk
            have hk1 : q - 1 = k := by omega
            clear hk
            have HQ : Hid (((q : Nat) : Int) = ((k + 1 : Nat) : Int)) := by show _ = _; rw [HK.out]
            have hkm : k + 1 ≤ m := by omega
            have hlo : k ≤ r.length := hkr
            have HX1 : Hid (o.length + k ≤ maxLen) := by show _ ≤ _; unfold maxLen; omega
            have HX2 : Hid ((o.length + k) * 1 ≤ 140737488355328) := by show _ ≤ _; omega
            have HX3 : Hid (w.heap.size ≤ wr.heap.size) := hbe.size
            by_cases hc1' : c = 1
            · subst hc1'
              have hNb : Nums .u8 wr w.heap.size (some ⟨b1, o1, none⟩) (r.take k) := by
                have h9 : r.take k = [] := List.length_eq_zero_iff.1 (by omega)
                rw [h9]; exact Nums.nil
              have HNb := Lib.hid hNb
              have hle := Cb.nz_le (r.take k)
              have I := index_any w.heap.size (some ⟨b1, o1, none⟩) k 0 (r.take k) wr hbl ((HZ.out.drop 1).take k) hNb
              have e1 : idx (r.take k) = -1 := by unfold idx; rw [if_neg (by omega)]
              rw [e1] at I
              clear hNb
              have hqm2 : q = m := by omega
              have h7 : (m : Int) - (q : Int) = 0 := by omega
              have HQM := Lib.hid hqm2
              clear hqm2
              by_cases hf : f = true ∧ k = 0
              · obtain ⟨rfl, hk0⟩ := hf
                have hd : Cb.dec false zs = none := by rw [HD.out, HQ.out, Cb.dec_last (by have := HQM.out; omega) (by omega), if_pos ⟨rfl, hk0⟩]; rfl
                have hk9 : (k : Int) = 0 := by omega
                clear hle HD HQ hk0
                go_wp2_with (first | (go_at_call 41; refine I.mono ?_; rintro e w1 ⟨rfl, rfl⟩) | (at_builtin; refine wpList_append_any rfl (.tmp 38) (.tmp 39) 22 rfl w.heap.size 5 i0 (.int .u8 0) 1 Try.underlying22 hi hz0 hz1 hz2 rfl .u8 o (r.take k) _ rfl HM.out.1 _ k _ _ rfl hbl HNb.out HX1.out HX2.out HX3.out ?_))
                intro v2 w2 hown hg
                have HM2 := Lib.hid (HM.out.more (zs := r.take k) (v' := v2) (by rw [hbl]; simpa using hown) hg)
                have hbe2 := HM2.out.2
                clear hown hg
                go_wp2
                all_goals go_step3
                all_goals exact (show _ ∧ _ from ⟨rfl, hd, hbe2, rfl, rfl⟩)
              · have hd : Hid (Cb.dec false zs = some (o ++ r.take k)) := by show _ = _; rw [HD.out, HQ.out, Cb.dec_last (by have := HQM.out; omega) (by omega), if_neg hf]; rfl
                clear HD HQ
                rcases Bool.eq_false_or_eq_true f with hf1 | hf1
                · have hk9 : ¬ (k : Int) = 0 := by have : ¬ k = 0 := fun e => hf ⟨hf1, e⟩; omega
                  have hk10 : ((k : Int) == 0) = false := by rw [beq_eq_false_iff_ne]; exact hk9
                  subst hf1
                  clear hle hf
                  go_wp2_with (first | (go_at_call 41; refine I.mono ?_; rintro e w1 ⟨rfl, rfl⟩) | (at_builtin; refine wpList_append_any rfl (.tmp 38) (.tmp 39) 22 rfl w.heap.size 5 i0 (.int .u8 0) 1 Try.underlying22 hi hz0 hz1 hz2 rfl .u8 o (r.take k) _ rfl HM.out.1 _ k _ _ rfl hbl HNb.out HX1.out HX2.out HX3.out ?_))
                  intro v2 w2 hown hg
                  have HM2 := Lib.hid (HM.out.more (zs := r.take k) (v' := v2) (by rw [hbl]; simpa using hown) hg)
                  clear hown hg
                  go_wp2
                  all_goals go_ret2
                  all_goals exact DecR.some_of hd.out HM2.out
                · subst hf1
                  clear hle hf
                  go_wp2_with (first | (go_at_call 41; refine I.mono ?_; rintro e w1 ⟨rfl, rfl⟩) | (at_builtin; refine wpList_append_any rfl (.tmp 38) (.tmp 39) 22 rfl w.heap.size 5 i0 (.int .u8 0) 1 Try.underlying22 hi hz0 hz1 hz2 rfl .u8 o (r.take k) _ rfl HM.out.1 _ k _ _ rfl hbl HNb.out HX1.out HX2.out HX3.out ?_))
                  intro v2 w2 hown hg
                  have HM2 := Lib.hid (HM.out.more (zs := r.take k) (v' := v2) (by rw [hbl]; simpa using hown) hg)
                  clear hown hg
                  go_wp2
                  all_goals go_ret2
                  all_goals exact DecR.some_of hd.out HM2.out
            · have hNb : Nums .u8 wr w.heap.size (some ⟨b1, o1 + 1, none⟩) (r.take k) := by
                have h9 := (HN.out.below hbe).dropAt (i := 1) (a' := some ⟨b1, o1 + 1, none⟩) (fun _ b o e => by injection e with e; injection e with e2 e3; subst e2 e3; rfl)
                exact h9.take k
              have HNb := Lib.hid hNb
              have hle := Cb.nz_le (r.take k)
              have I := index_any w.heap.size (some ⟨b1, o1 + 1, none⟩) k (c - 1) (r.take k) wr hbl ((HZ.out.drop 1).take k) hNb
              clear hNb
              by_cases hnz : Cb.nz (r.take k) < k
              · have e1 : idx (r.take k) = (Cb.nz (r.take k) : Int) := by unfold idx; rw [if_pos (by omega)]
                have hd : Cb.dec false zs = none := by rw [HD.out, HQ.out, Cb.dec_zero (by omega) hnz]; rfl
                rw [e1] at I
                have h0 : (0 : Int) ≤ (Cb.nz (r.take k) : Int) := by omega
                generalize Cb.nz (r.take k) = N at *
                clear hle hnz HD HQ
                go_wp2_with (go_at_call 41; refine I.mono ?_; rintro e w1 ⟨rfl, rfl⟩)
                go_step3
                exact (show _ ∧ _ from ⟨rfl, hd, hbe, rfl, rfl⟩)
              · have e1 : idx (r.take k) = -1 := by unfold idx; rw [if_neg (by omega)]
                rw [e1] at I
                by_cases hqm2 : q = m
                · have h7 : (m : Int) - (q : Int) = 0 := by omega
                  have HQM := Lib.hid hqm2
                  clear hqm2
                  by_cases hf : f = true ∧ k = 0
                  · obtain ⟨rfl, hk0⟩ := hf
                    have hd : Cb.dec false zs = none := by rw [HD.out, HQ.out, Cb.dec_last (by have := HQM.out; omega) (by omega), if_pos ⟨rfl, hk0⟩]; rfl
                    have hk9 : (k : Int) = 0 := by omega
                    clear hle HD HQ hk0
                    go_wp2_with (first | (go_at_call 41; refine I.mono ?_; rintro e w1 ⟨rfl, rfl⟩) | (at_builtin; refine wpList_append_any rfl (.tmp 38) (.tmp 39) 22 rfl w.heap.size 5 i0 (.int .u8 0) 1 Try.underlying22 hi hz0 hz1 hz2 rfl .u8 o (r.take k) _ rfl HM.out.1 _ k _ _ rfl hbl HNb.out HX1.out HX2.out HX3.out ?_))
                    intro v2 w2 hown hg
                    have HM2 := Lib.hid (HM.out.more (zs := r.take k) (v' := v2) (by rw [hbl]; simpa using hown) hg)
                    have hbe2 := HM2.out.2
                    clear hown hg
                    go_wp2
                    all_goals go_step3
                    all_goals exact (show _ ∧ _ from ⟨rfl, hd, hbe2, rfl, rfl⟩)
                  · have hd : Hid (Cb.dec false zs = some (o ++ r.take k)) := by show _ = _; rw [HD.out, HQ.out, Cb.dec_last (by have := HQM.out; omega) (by omega), if_neg hf]; rfl
                    clear HD HQ
                    rcases Bool.eq_false_or_eq_true f with hf1 | hf1
                    · have hk9 : ¬ (k : Int) = 0 := by have : ¬ k = 0 := fun e => hf ⟨hf1, e⟩; omega
                      have hk10 : ((k : Int) == 0) = false := by rw [beq_eq_false_iff_ne]; exact hk9
                      subst hf1
                      clear hle hf
                      go_wp2_with (first | (go_at_call 41; refine I.mono ?_; rintro e w1 ⟨rfl, rfl⟩) | (at_builtin; refine wpList_append_any rfl (.tmp 38) (.tmp 39) 22 rfl w.heap.size 5 i0 (.int .u8 0) 1 Try.underlying22 hi hz0 hz1 hz2 rfl .u8 o (r.take k) _ rfl HM.out.1 _ k _ _ rfl hbl HNb.out HX1.out HX2.out HX3.out ?_))
                      intro v2 w2 hown hg
                      have HM2 := Lib.hid (HM.out.more (zs := r.take k) (v' := v2) (by rw [hbl]; simpa using hown) hg)
                      clear hown hg
                      go_wp2
                      all_goals go_ret2
                      all_goals exact DecR.some_of hd.out HM2.out
                    · subst hf1
                      clear hle hf
                      go_wp2_with (first | (go_at_call 41; refine I.mono ?_; rintro e w1 ⟨rfl, rfl⟩) | (at_builtin; refine wpList_append_any rfl (.tmp 38) (.tmp 39) 22 rfl w.heap.size 5 i0 (.int .u8 0) 1 Try.underlying22 hi hz0 hz1 hz2 rfl .u8 o (r.take k) _ rfl HM.out.1 _ k _ _ rfl hbl HNb.out HX1.out HX2.out HX3.out ?_))
                      intro v2 w2 hown hg
                      have HM2 := Lib.hid (HM.out.more (zs := r.take k) (v' := v2) (by rw [hbl]; simpa using hown) hg)
                      clear hown hg
                      go_wp2
                      all_goals go_ret2
                      all_goals exact DecR.some_of hd.out HM2.out
                · have h7 : (0 : Int) < (m : Int) - (q : Int) := by omega
                  have hcq : c ≠ q := by omega
                  have hNd : Nums .u8 w w.heap.size (some ⟨b1, o1 + q, none⟩) (r.drop k) := by
                    have h9 := HN.out.dropAt (i := q) (a' := some ⟨b1, o1 + q, none⟩) (fun _ b o e => by injection e with e; injection e with e2 e3; subst e2 e3; rfl)
                    have h8 : ((q : Int) :: r).drop q = r.drop k := by rw [show q = k + 1 from HK.out]; rfl
                    rwa [h8] at h9
                  have HNd := Lib.hid hNd
                  clear hNd
                  by_cases hk254 : k = 254
                  · have hd : Hid (Cb.dec false zs = (Cb.dec true (r.drop k)).map ((o ++ r.take k) ++ ·)) := by
                      show _ = _
                      rw [HD.out, HQ.out, Cb.dec_more (by omega) (by omega), hk254, Option.map_map]
                      simp [Function.comp_def]
                    have hk9 : (k : Int) = 254 := by omega
                    have HK2 := Lib.hid hk254
                    clear hk254
                    have HL := Lib.hid (And.intro hr hkm)
                    clear hle hnz HD HQ
                    go_wp2_with (first | (go_at_call 41; refine I.mono ?_; rintro e w1 ⟨rfl, rfl⟩) | (at_builtin; refine wpList_append_any rfl (.tmp 38) (.tmp 39) 22 rfl w.heap.size 5 i0 (.int .u8 0) 1 Try.underlying22 hi hz0 hz1 hz2 rfl .u8 o (r.take k) _ rfl HM.out.1 _ k _ _ rfl hbl HNb.out HX1.out HX2.out HX3.out ?_))
                    intro v2 w2 hown hg
                    have HM2 := Lib.hid (HM.out.more (zs := r.take k) (v' := v2) (by rw [hbl]; simpa using hown) hg)
                    clear hown hg
                    go_wp2
                    go_roundw
                    case rel => exact ⟨_, r.drop k, o ++ r.take k, _, _, true, rfl, rfl, by rw [List.length_drop]; have := HK.out; omega, by omega, by omega, by rw [List.length_append, hbl]; have := HK.out; omega, HNd, (HZ.out.drop 1).drop k, hd, HM2⟩
                    case measure => simp [sliceLen]; omega
                  · have hd : Hid (Cb.dec false zs = (Cb.dec false (r.drop k)).map ((o ++ r.take k ++ [0]) ++ ·)) := by
                      show _ = _
                      rw [HD.out, HQ.out, Cb.dec_more (by omega) (by omega), Option.map_map]
                      simp [Function.comp_def, hk254]
                    have hk9 : ¬ (k : Int) = 254 := by omega
                    have hk10 : ((k : Int) == 254) = false := by rw [beq_eq_false_iff_ne]; exact hk9
                    have HL := Lib.hid (And.intro hr hkm)
                    have HZ0 := fun (W : World) => Lib.hid (Nums.new .u8 W 5 [0] #[.int .u8 0] rfl)
                    clear hle hnz HD HQ
                    go_wp2_with (first | (go_at_call 41; refine I.mono ?_; rintro e w1 ⟨rfl, rfl⟩) | (at_builtin; refine wpList_append_any rfl (.tmp 38) (.tmp 39) 22 rfl w.heap.size 5 i0 (.int .u8 0) 1 Try.underlying22 hi hz0 hz1 hz2 rfl .u8 o (r.take k) _ rfl HM.out.1 _ k _ _ rfl hbl HNb.out HX1.out HX2.out HX3.out ?_))
                    intro v2 w2 hown hg
                    have HM2 := Lib.hid (HM.out.more (zs := r.take k) (v' := v2) (by rw [hbl]; simpa using hown) hg)
                    have hb2 := HM2.out.2.size
                    clear hown hg
                    go_wp2_with (at_builtin; refine wpList_append_any rfl (.tmp 53) (.tmp 54) 22 rfl w.heap.size 5 i0 (.int .u8 0) 1 Try.underlying22 hi hz0 hz1 hz2 rfl .u8 (o ++ r.take k) [0] _ rfl (HM2.out.1.alloc _) _ 1 1 _ rfl rfl (HZ0 w2).out ?c1 ?c2 ?c3 ?_)
                    case c1 => rw [List.length_append, hbl]; unfold maxLen; omega
                    case c2 => rw [List.length_append, hbl]; omega
                    case c3 => rw [World.size_alloc]; omega
                    intro v3 w3 hown hg
                    have HM3 := Lib.hid (HM2.out.later (.cells #[.int .u8 0] 5) |>.more (zs := [0]) (v' := v3) (by simpa [Nat.min_eq_left hkr] using hown) hg)
                    clear hown hg
                    go_wp2
                    go_roundw
                    case rel => exact ⟨_, r.drop k, o ++ r.take k ++ [0], _, _, false, rfl, rfl, by rw [List.length_drop]; have := HK.out; omega, by omega, by omega, by rw [List.length_append, List.length_append, hbl]; have := HK.out; simp only [List.length_singleton]; omega, HNd, (HZ.out.drop 1).drop k, hd, HM3⟩
                    case measure => simp [sliceLen]; omega
  · rintro ⟨t, ds⟩ w' ⟨hd, hb, ht, rfl⟩
    simp only at ht
    go_wp2
    simp only [Exit.jump]
    refine bodyPost_ret (v := .tuple #[.slice none 0 0, .int .i64 12]) (by simp [results, Try.f23, go_sem, ht]) rfl ?_
    exact DecR.none_of hd hb
end Go.Proofs.Ytbohdmconeebeaa

namespace Go.Proofs.Ytbohdmconeebeaa
open Go.RowKit
set_option maxRecDepth 100000

theorem same_lens (a1 a2 : Option Addr) (n1 n2 c1 c2 : Nat) (w : World) (h : n1 ≠ n2) :
    Calls Try.prog 14 #[.slice a1 n1 c1, .slice a2 n2 c2] w fun e w' => e = .returned (.bool false) ∧ ∃ n, w' = w.drewN n := by
  have h2 : ((n1 : Int) != (n2 : Int)) = true := by simp; omega
  have h3 : ¬ (n1 : Int) = (n2 : Int) := by omega
  go_enter Try.func14, Try.ntmps14
  go_wp2
  go_ret
  exact ⟨rfl, 0, rfl⟩

/-- Same of any two lists -/
theorem same_any (B : Nat) (a1 a2 : Option Addr) (n1 n2 c1 c2 : Nat) (xs ys : List Int) (w : World) (e1 : xs.length = n1) (e2 : ys.length = n2) (l1 : n1 ≤ 9223372036854775807) (h1 : Nums .u8 w B a1 xs) (h2 : Nums .u8 w B a2 ys) :
    Calls Try.prog 14 #[.slice a1 n1 c1, .slice a2 n2 c2] w fun e w' => e = .returned (.bool (decide (xs = ys))) ∧ ∃ n, w' = w.drewN n := by
  by_cases hl : n1 = n2
  · subst hl
    have HE1 := Lib.hid e1
    have HE2 := Lib.hid e2
    clear e1 e2
    go_enter Try.func14, Try.ntmps14
    go_wp2
    go_loopw [5] (fun i wr => ∃ k : Nat, k ≤ n1 ∧ i = .int .i64 k ∧ Hid (xs.take k = ys.take k) ∧ ∃ n, wr = w.drewN n) (fun i _ => n1 - (intOf i).toNat)
    case atStart => exact ⟨0, by omega, rfl, rfl, 0, rfl⟩
    case round =>
      obtain ⟨k, hk, rfl, HT, n, rfl⟩ := hrel
      by_cases hlt : k < n1
      · obtain ⟨x, hx⟩ : ∃ x, xs[k]? = some x := ⟨_, List.getElem?_eq_getElem (by rw [HE1.out]; exact hlt)⟩
        obtain ⟨y, hy⟩ : ∃ y, ys[k]? = some y := ⟨_, List.getElem?_eq_getElem (by rw [HE2.out]; exact hlt)⟩
        obtain ⟨b1, o1, rfl, hb1, hc1⟩ := h1.open hx
        obtain ⟨b2, o2, rfl, hb2, hc2⟩ := h2.open hy
        have HX := Lib.hid hx
        have HY := Lib.hid hy
        clear h1 h2 hx hy
        have hlt' : (k : Int) < (n1 : Int) := by omega
        by_cases hxy : x = y
        · have hq : (x != y) = false := by simp [hxy]
          have HQ : Hid (xs.take (k + 1) = ys.take (k + 1)) := by
            show _ = _
            rw [List.take_add_one, List.take_add_one, HT.out, HX.out, HY.out, hxy]
          subst hxy
          go_wp2
          go_quiet (fail)
          go_wp2
          go_roundw
          case rel => exact ⟨k + 1, by omega, by go_num, HQ, _, rfl⟩
          case measure => simp [intOf]; omega
        · have hq : (x != y) = true := by simp [hxy]
          have HQ : Hid (¬ xs = ys) := fun e => hxy (by
            have h3 := HX.out
            rw [e, HY.out] at h3
            exact (Option.some.inj h3).symm)
          have HN := Lib.hid hxy
          clear hxy
          go_wp2
          go_quiet (fail)
          go_wp2
          go_ret
          exact ⟨by rw [decide_eq_false HQ.out]; rfl, n + nq, by simp [World.drewN, Nat.add_assoc]⟩
      · have hk' : k = n1 := by omega
        have HQ : Hid (xs = ys) := by
          have h3 := HT.out
          rw [List.take_of_length_le (by rw [HE1.out]; omega), List.take_of_length_le (by rw [HE2.out]; omega)] at h3
          exact h3
        go_wp2
        go_ret
        exact ⟨by rw [decide_eq_true HQ.out]; rfl, n, rfl⟩
  · refine (same_lens a1 a2 n1 n2 c1 c2 w hl).mono ?_
    rintro e w' ⟨rfl, hd⟩
    exact ⟨by rw [decide_eq_false (fun e => hl (by rw [← e1, ← e2, e]))], hd⟩
end Go.Proofs.Ytbohdmconeebeaa

namespace Go.Proofs.Ytbohdmconeebeaa
open Go.RowKit
set_option maxRecDepth 100000

theorem most_any (n : Nat) (w : World) (hl : n ≤ 1000000000) :
    Calls Try.prog 38 #[.int .i64 n] w fun e w' => e = .returned (.int .i64 ((n + max 1 ((n + 253) / 254) : Nat) : Int)) ∧ w' = w := by
  have h0 : ¬ (n : Int) < 0 := by omega
  go_enter Try.func38, Try.ntmps38
  go_wp2
  go_ret
  exact ⟨ret_int (by omega), rfl⟩
theorem most_neg (n : Int) (w : World) (hl : n < 0) :
    Calls Try.prog 38 #[.int .i64 n] w fun e w' => e = .returned (.int .i64 0) ∧ w' = w := by
  go_enter Try.func38, Try.ntmps38
  go_wp2
  go_ret
  exact ⟨rfl, rfl⟩

theorem enc0 : Cb.enc [] = [1] := by rw [Cb.enc_last (fun c hc => by simp at hc) (by simp)]; rfl
theorem enc1 : Cb.enc [0] = [1, 1] := by
  rw [show ([0] : List Int) = [] ++ 0 :: [] from rfl, Cb.enc_nought (fun c hc => by simp at hc) (by simp), enc0]; rfl
theorem enc3 : Cb.enc [5, 0, 6] = [2, 5, 2, 6] := by
  rw [show ([5, 0, 6] : List Int) = [5] ++ 0 :: [6] from rfl, Cb.enc_nought (fun c hc => by simp at hc; omega) (by simp), Cb.enc_last (fun c hc => by simp at hc; omega) (by simp)]; rfl

end Go.Proofs.Ytbohdmconeebeaa

namespace Go.Proofs.Ytbohdmconeebeaa
open Go.RowKit
set_option maxRecDepth 100000

/-- so many bytes on the wire -/
def wireZ (n : Int) : Int := if n < 1 ∨ 242 < n then 0 else n + 15
def roomZ (m : Int) : Int := if m < 16 then 0 else if m - 15 < 242 then m - 15 else 242
theorem wire_any (n : Int) (w : World) : Calls Try.prog 19 #[.int .i64 n] w fun e w' => e = .returned (.int .i64 (wireZ n)) ∧ w' = w := by
  by_cases h1 : n < 1
  · have hz : wireZ n = 0 := by unfold wireZ; rw [if_pos (.inl h1)]
    rw [hz]
    clear hz
    go_enter Try.func19, Try.ntmps19
    go_wp2
    go_ret
    exact ⟨rfl, rfl⟩
  · by_cases h2 : 242 < n
    · have hz : wireZ n = 0 := by unfold wireZ; rw [if_pos (.inr h2)]
      rw [hz]
      clear hz
      go_enter Try.func19, Try.ntmps19
      go_wp2
      go_ret
      exact ⟨rfl, rfl⟩
    · have hz : wireZ n = n + 15 := by unfold wireZ; rw [if_neg (by omega)]
      rw [hz]
      clear hz
      obtain ⟨m, rfl⟩ : ∃ m : Nat, n = (m : Int) := ⟨n.toNat, by omega⟩
      have hm : m + 12 + max 1 ((m + 12 + 253) / 254) = m + 13 := by omega
      have K := most_any (m + 12) w (by omega)
      rw [hm] at K
      clear hm
      go_enter Try.func19, Try.ntmps19
      go_wp2_with fail
      refine K.mono ?_
      rintro e w1 ⟨rfl, rfl⟩
      clear K
      go_wp2
      go_ret
      refine ⟨ret_int ?_, rfl⟩
      push_cast
      omega
theorem room_any (m : Int) (hm : m ≤ 9223372036854775807) (w : World) : Calls Try.prog 20 #[.int .i64 m] w fun e w' => e = .returned (.int .i64 (roomZ m)) ∧ w' = w := by
  have K := wire_any 1 w
  rw [show wireZ 1 = 16 from rfl] at K
  by_cases h1 : m < 16
  · have hz : roomZ m = 0 := by unfold roomZ; rw [if_pos h1]
    rw [hz]
    clear hz
    go_enter Try.func20, Try.ntmps20
    go_wp2_with fail
    refine K.mono ?_
    rintro e w1 ⟨rfl, rfl⟩
    clear K
    go_wp2
    go_ret
    exact ⟨rfl, rfl⟩
  · by_cases h2 : m - 15 < 242
    · have hz : roomZ m = m - 15 := by unfold roomZ; rw [if_neg h1, if_pos h2]
      rw [hz]
      have h3 : ¬ 242 < m - 16 + 1 := by omega
      clear hz
      go_enter Try.func20, Try.ntmps20
      go_wp2_with fail
      refine K.mono ?_
      rintro e w1 ⟨rfl, rfl⟩
      clear K
      go_wp2
      go_ret
      refine ⟨ret_int ?_, rfl⟩
      omega
    · have hz : roomZ m = 242 := by unfold roomZ; rw [if_neg h1, if_neg h2]
      rw [hz]
      clear hz
      go_enter Try.func20, Try.ntmps20
      go_wp2_with fail
      refine K.mono ?_
      rintro e w1 ⟨rfl, rfl⟩
      clear K
      go_wp2
      go_ret
      refine ⟨ret_int ?_, rfl⟩
      omega
end Go.Proofs.Ytbohdmconeebeaa

namespace Go.Proofs.Ytbohdmconeebeaa
open Go.RowKit Go.Shelf
set_option maxRecDepth 100000
attribute [local go_sem] Oper.semAt_some

/-- the frame of the chapter's examples -/
def fr7 (b : Nat) : Fr := ⟨1, 1, 0, 0, 1, some ⟨b, 0, none⟩, 1, [7]⟩
theorem fr7_chk (b : Nat) : (fr7 b).chk = 0 := rfl
theorem fr7_wrap (b : Nat) : (Fc.wrap ([fr7 b].map Fr.seg)).length = 16 := by
  have h := Fr.seg_len (fr7_chk b)
  rw [List.map_cons, List.map_nil, Fc.wrap_one]
  simp only [List.length_append, List.length_singleton, h]
  rfl
/-- what the slots hold whose values are known by what they are good for -/
def FRk (b : Nat) (q : Tmp) (x : Value) (W : World) : Prop :=
  if q = 8 then ∃ c, x = .pointer (some ⟨c, 0, none⟩) ∧ CodAt W W.heap.size c
  else if q = 10 then ∃ a, x = .slice a 1 1 ∧ FrsAt W W.heap.size a [fr7 b]
  else if q = 11 ∨ q = 7 then ∃ A c, x = .tuple #[.slice A 16 c, .int .i64 0]
  else if q = 12 ∨ q = 2 then ∃ A c, x = .slice A 16 c
  else x = .int .i64 0
theorem FRk.later {b : Nat} {q : Tmp} {x : Value} {W W' : World} (hh : FRk b q x W) (hb : Below W.heap.size W W') : FRk b q x W' := by
  unfold FRk at *
  split
  · rename_i h1
    rw [if_pos h1] at hh
    obtain ⟨c, e, hg⟩ := hh
    exact ⟨c, e, (hg.below hb).mono hb.size⟩
  · rename_i h1
    rw [if_neg h1] at hh
    split
    · rename_i h2
      rw [if_pos h2] at hh
      obtain ⟨a, e, hg⟩ := hh
      exact ⟨a, e, (hg.below hb).mono hb.size⟩
    · rename_i h2
      rw [if_neg h2] at hh
      exact hh

set_option maxHeartbeats 4000000 in
theorem fknown_any (w : World) : Calls Try.prog 12 #[] w fun e w' => e = .returned (.bool true) ∧ Below w.heap.size w w' := by
  obtain ⟨w1, hw1⟩ : ∃ w1, (w.alloc (.cells #[.int .u8 7] 5)).alloc (.cells #[.int .i64 1, .int .i64 1, .int .u32 0, .int .i64 0, .int .i64 1, .slice (some ⟨w.heap.size, 0, none⟩) 1 1] 29) = w1 := ⟨_, rfl⟩
  have hb1 : Below w.heap.size w w1 := by rw [← hw1]; exact ((Below.refl _ w).alloc (Nat.le_refl _) _).alloc (by simp) _
  have hs1 : w1.heap.size = w.heap.size + 2 := by rw [← hw1]; simp
  have hbox : w1.heap[w.heap.size + 1]? = some (.cells (frC 1 1 0 0 1 (.slice (some ⟨w.heap.size, 0, none⟩) 1 1)) 29 (0, 0)) := by
    rw [← hw1]
    have := World.alloc_heap_new (w.alloc (.cells #[.int .u8 7] 5)) (.cells (frC 1 1 0 0 1 (.slice (some ⟨w.heap.size, 0, none⟩) 1 1)) 29)
    rwa [World.size_alloc] at this
  have hpay : Nums .u8 w1 w1.heap.size (some ⟨w.heap.size, 0, none⟩) [7] := by
    rw [← hw1]
    exact ((Nums.new .u8 w 5 [7] #[.int .u8 7] rfl).below ((Below.refl (w.heap.size + 1) _).alloc (by simp) _)).mono (by simp)
  have hload : ∀ W, Below w1.heap.size w1 W → (Instr.loadAt 29 (.pointer (some ⟨w.heap.size + 1, 0, none⟩))).run Try.prog W = .ok (.agg (frC 1 1 0 0 1 (.slice (some ⟨w.heap.size, 0, none⟩) 1 1))) W := fun W hW => by
    obtain ⟨d0, d1, d2, d3, d4, d5⟩ := fr_block ((hW.block _ (by omega)).trans hbox)
    simp [Instr.loadAt, go_sem, d0, d1, d2, d3, d4, d5, frC]
  have HW1 := Lib.hid hw1
  have HB1 := Lib.hid hb1
  clear hw1 hb1
  go_enter Try.func12, Try.ntmps12
  go_wp2
  rw [HW1.out]
  refine wp_region_F 37 [8, 10, 11, 7, 12, 13, 2, 3] (FRk w.heap.size) (fun W => Below w1.heap.size w1 W) (by kernel_rfl) (by kernel_rfl) (by rfl) (by simp) (fun W W' h hb => h.trans (hb.mono h.size)) (fun q x W W' h hb => h.later hb) (Below.refl _ _).drew ?_
  refine wpF_callsrc 8 (f := 7) (args := #[]) (by simp) rfl rfl rfl (fun x => by first | rfl | (simp [go_sem]; done)) (fun W hW => (fnew_any W).mono fun e W' ⟨he, hc, hb, _⟩ => ⟨_, he, by unfold FRk; rw [if_pos rfl]; exact ⟨_, rfl, hc⟩, hb⟩) ?_
  simp only [Act.put, List.setIfInBounds_toArray, List.set_cons_succ, List.set_cons_zero]
  refine wpF_load (.agg (frC 1 1 0 0 1 (.slice (some ⟨w.heap.size, 0, none⟩) 1 1))) rfl (by rfl) (by rfl) (by rfl) hload ?_
  simp only [Act.put, List.setIfInBounds_toArray, List.set_cons_succ, List.set_cons_zero]
  refine wpF_src 10 (by simp) rfl rfl rfl (fun W hW => ⟨.slice (some ⟨W.heap.size, 0, none⟩) 1 1, W.alloc (.cells (fr7 w.heap.size).cs 29), ?_, ?_, (Below.refl _ _).alloc (Nat.le_refl _) _⟩) ?_
  · simp [go_sem, frC, fr7, Fr.cs]
  · unfold FRk
    rw [if_neg (by decide), if_pos rfl]
    have hB := hW.trans ((Below.refl W.heap.size W).alloc (Nat.le_refl _) (.cells (fr7 w.heap.size).cs 29) |>.mono hW.size)
    refine ⟨_, rfl, fun f hf => ?_, fun j f hj => ?_⟩
    · obtain rfl : f = fr7 w.heap.size := by simpa using hf
      exact ⟨Int.le_refl 0, show (0 : Int) ≤ 4294967295 by decide, Nat.le_refl 1, show 1 ≤ 9223372036854775807 by decide, (fun z hz => by
        obtain rfl : z = 7 := by simpa [fr7] using hz
        decide : Bytes [7]), (hpay.below hB).mono hB.size⟩
    · rcases j with _ | j
      · obtain rfl : fr7 w.heap.size = f := by simpa using hj
        refine ⟨W.heap.size, 0, rfl, by simp, fun q u hq => ?_⟩
        rw [World.cell?_alloc_at _ _ _ _ rfl]
        simpa using hq
      · simp at hj
  simp only [Act.put, List.setIfInBounds_toArray, List.set_cons_succ, List.set_cons_zero]
  refine wpF_mixcall 11 [8, 10] (f := 18) (fun xs => #[xs 8, xs 10]) (by simp) rfl (by kernel_rfl) (by kernel_rfl) (fun xs => by rfl) (fun xs W => by first | rfl | (simp [fill, Act.put, Act.eval, go_sem]; done)) (fun xs W hW hx => ?_) ?_
  · have h8 := hx 8 (by simp)
    have h10 := hx 10 (by simp)
    unfold FRk at h8 h10
    rw [if_pos rfl] at h8
    rw [if_neg (by decide), if_pos rfl] at h10
    obtain ⟨c, e8, hc⟩ := h8
    obtain ⟨a, e10, ha⟩ := h10
    rw [e8, e10]
    refine (fpack_any c a 1 1 [fr7 w.heap.size] W hc rfl (Nat.le_refl _) (by decide) ha).mono fun e W' hr => ?_
    rcases hr with ⟨h, _⟩ | ⟨_, v, he, hm⟩
    · exact absurd rfl h
    · obtain ⟨A, cc, rfl, _, _⟩ := hm.slice
      rw [fr7_wrap] at he
      exact ⟨_, he, by unfold FRk; rw [if_neg (by decide), if_neg (by decide), if_pos (by decide)]; exact ⟨A, cc, rfl⟩, hm.2⟩
  simp only [Act.put, List.setIfInBounds_toArray, List.set_cons_succ, List.set_cons_zero]
  refine wpF_mix 7 [11] (by simp) rfl (by kernel_rfl) (by kernel_rfl) (fun xs => by rfl) (fun xs W hW hx => ⟨xs 11, W, ?_, ?_, Below.refl _ _⟩) ?_
  · simp [execOp, fill, Act.put, Act.eval, go_sem]
  · have := hx 11 (by simp)
    unfold FRk at this ⊢
    simpa using this
  simp only [Act.put, List.setIfInBounds_toArray, List.set_cons_succ, List.set_cons_zero]
  refine wpF_mix 12 [7] (by simp) rfl (by kernel_rfl) (by kernel_rfl) (fun xs => by rfl) (fun xs W hW hx => ?_) ?_
  · have := hx 7 (by simp)
    unfold FRk at this
    rw [if_neg (by decide), if_neg (by decide), if_pos (by decide)] at this
    obtain ⟨A, c, e7⟩ := this
    refine ⟨.slice A 16 c, W, ?_, ?_, Below.refl _ _⟩
    · simp [execOp, fill, Act.put, Act.eval, e7, go_sem]
    · unfold FRk; rw [if_neg (by decide), if_neg (by decide), if_neg (by decide), if_pos (by decide)]; exact ⟨A, c, rfl⟩
  simp only [Act.put, List.setIfInBounds_toArray, List.set_cons_succ, List.set_cons_zero]
  refine wpF_mix 13 [7] (by simp) rfl (by kernel_rfl) (by kernel_rfl) (fun xs => by rfl) (fun xs W hW hx => ?_) ?_
  · have := hx 7 (by simp)
    unfold FRk at this
    rw [if_neg (by decide), if_neg (by decide), if_pos (by decide)] at this
    obtain ⟨A, c, e7⟩ := this
    refine ⟨.int .i64 0, W, ?_, ?_, Below.refl _ _⟩
    · simp [execOp, fill, Act.put, Act.eval, e7, go_sem]
    · unfold FRk; rw [if_neg (by decide), if_neg (by decide), if_neg (by decide), if_neg (by decide)]
  simp only [Act.put, List.setIfInBounds_toArray, List.set_cons_succ, List.set_cons_zero]
  refine wpF_mix 2 [12] (by simp) rfl (by kernel_rfl) (by kernel_rfl) (fun xs => by rfl) (fun xs W hW hx => ⟨xs 12, W, ?_, ?_, Below.refl _ _⟩) ?_
  · simp [execOp, fill, Act.put, Act.eval, go_sem]
  · have := hx 12 (by simp)
    unfold FRk at this ⊢
    simpa using this
  simp only [Act.put, List.setIfInBounds_toArray, List.set_cons_succ, List.set_cons_zero]
  refine wpF_mix 3 [13] (by simp) rfl (by kernel_rfl) (by kernel_rfl) (fun xs => by rfl) (fun xs W hW hx => ⟨xs 13, W, ?_, ?_, Below.refl _ _⟩) ?_
  · simp [execOp, fill, Act.put, Act.eval, go_sem]
  · have := hx 13 (by simp)
    unfold FRk at this ⊢
    simpa using this
  simp only [Act.put, List.setIfInBounds_toArray, List.set_cons_succ, List.set_cons_zero]
  intro xs W hW hx
  have h2 := hx 2 (by simp)
  have h3 := hx 3 (by simp)
  unfold FRk at h2 h3
  rw [if_neg (by decide), if_neg (by decide), if_neg (by decide), if_pos (by decide)] at h2
  rw [if_neg (by decide), if_neg (by decide), if_neg (by decide), if_neg (by decide)] at h3
  obtain ⟨A, c, e2⟩ := h2
  simp only [fill, Act.put, List.setIfInBounds_toArray, List.set_cons_succ, List.set_cons_zero]
  rw [e2, h3]
  have HF := Lib.hid (HB1.out.trans (hW.mono HB1.out.size))
  clear hx e2 h3 hload hpay hbox hs1
  generalize xs 8 = x8
  generalize xs 10 = x10
  generalize xs 11 = x11
  generalize xs 7 = x7
  generalize xs 12 = x12
  generalize xs 13 = x13
  go_wp2_with fail
  refine (wire_any 1 _).mono ?_
  rintro e w2 ⟨rfl, rfl⟩
  rw [show wireZ 1 = 16 from rfl]
  go_wp2_with fail
  refine (room_any 16 (by decide) _).mono ?_
  rintro e w2 ⟨rfl, rfl⟩
  rw [show roomZ 16 = 1 from rfl]
  go_wp2_with fail
  refine (room_any 257 (by decide) _).mono ?_
  rintro e w2 ⟨rfl, rfl⟩
  rw [show roomZ 257 = 242 from rfl]
  go_wp2_with fail
  refine (room_any 15 (by decide) _).mono ?_
  rintro e w2 ⟨rfl, rfl⟩
  rw [show roomZ 15 = 0 from rfl]
  go_wp2
  go_ret
  exact ⟨rfl, HF.out⟩
end Go.Proofs.Ytbohdmconeebeaa

namespace Go.Proofs.Ytbohdmconeebeaa
open Go.RowKit Go.Shelf
set_option maxRecDepth 100000
attribute [local go_sem] Oper.semAt_some

/-- are frames the same -/
def sameZ (v k s i c v' k' s' i' c' : Int) (xs ys : List Int) : Bool := decide (v = v' ∧ k = k' ∧ s = s' ∧ i = i' ∧ c = c' ∧ xs = ys)
theorem ret_bool {a b : Bool} (h : a = b) : Ending.returned (.bool a) = Ending.returned (.bool b) := by rw [h]
theorem two_frames {w w0 : World} {v k s i c v' k' s' i' c' : Int} {p p' : Value} {t : TypeId} (hw : (w.alloc (.cells (frC v k s i c p) t)).alloc (.cells (frC v' k' s' i' c' p') t) = w0) :
    Below w.heap.size w w0 ∧ w0.heap[w.heap.size]? = some (.cells (frC v k s i c p) t (0, 0)) ∧ w0.heap[w.heap.size + 1]? = some (.cells (frC v' k' s' i' c' p') t (0, 0)) := by
  subst hw
  refine ⟨((Below.refl _ w).alloc (Nat.le_refl _) _).alloc (by simp) _, ?_, ?_⟩
  · exact (Below.heap_alloc _ _ _ (by simp)).trans (World.alloc_heap_new _ _)
  · have := World.alloc_heap_new (w.alloc (.cells (frC v k s i c p) t)) (.cells (frC v' k' s' i' c' p') t)
    rwa [World.size_alloc] at this

set_option maxHeartbeats 2000000 in
theorem fsame_any (v k s i c v' k' s' i' c' : Int) (B : Nat) (A A' : Option Addr) (n cp n' cp' : Nat) (xs ys : List Int) (w : World) (hn : xs.length = n) (hn' : ys.length = n') (hB : B ≤ w.heap.size) (hx : Bytes xs) (hy : Bytes ys) (h1 : Nums .u8 w B A xs) (h2 : Nums .u8 w B A' ys) :
    Calls Try.prog 21 #[frV v k s i c (.slice A n cp), frV v' k' s' i' c' (.slice A' n' cp')] w fun e w' => e = .returned (.bool (sameZ v k s i c v' k' s' i' c' xs ys)) ∧ Below w.heap.size w w' := by
  obtain ⟨w0, hw⟩ : ∃ w0, (w.alloc (.cells (frC v k s i c (.slice A n cp)) 29)).alloc (.cells (frC v' k' s' i' c' (.slice A' n' cp')) 29) = w0 := ⟨_, rfl⟩
  obtain ⟨hb, q1, q2⟩ := two_frames hw
  obtain ⟨d0, d1, d2, d3, d4, d5⟩ := fr_block q1
  obtain ⟨e0, e1, e2, e3, e4, e5⟩ := fr_block q2
  have hb' := hb.mono hB
  have K := equal_any B A A' n cp n' cp' xs ys w0 hn hn' hx hy (h1.below hb') (h2.below hb')
  have HW := Lib.hid hw
  have HB := Lib.hid hb
  unfold frV
  have HF1 : Hid (frC v k s i c (.slice A n cp) = #[.int .i64 v, .int .i64 k, .int .u32 s, .int .i64 i, .int .i64 c, .slice A n cp]) := rfl
  have HF2 : Hid (frC v' k' s' i' c' (.slice A' n' cp') = #[.int .i64 v', .int .i64 k', .int .u32 s', .int .i64 i', .int .i64 c', .slice A' n' cp']) := rfl
  clear hw q1 q2 hb hb' h1 h2
  by_cases hh : v = v' ∧ k = k' ∧ s = s' ∧ i = i' ∧ c = c'
  · obtain ⟨rfl, rfl, rfl, rfl, rfl⟩ := hh
    have hz : sameZ v k s i c v k s i c xs ys = decide (xs = ys) := by simp [sameZ]
    rw [hz]
    clear hz
    rw [HF1.out, HF2.out] at HW ⊢
    go_enter Try.func21, Try.ntmps21
    go_wp2_with fail
    rw [HW.out]
    go_wp2_with fail
    refine K.mono ?_
    rintro e w1 ⟨rfl, rfl⟩
    go_wp2
    go_ret
    exact ⟨rfl, HB.out⟩
  · have hz : sameZ v k s i c v' k' s' i' c' xs ys = false := by
      unfold sameZ
      rw [decide_eq_false_iff_not]
      rintro ⟨rfl, rfl, rfl, rfl, rfl, _⟩
      exact hh ⟨rfl, rfl, rfl, rfl, rfl⟩
    rw [hz]
    have HH := Lib.hid hh
    clear hz hh K
    rw [HF1.out, HF2.out]
    clear HF1 HF2 HW HB
    go_enter Try.func21, Try.ntmps21
    go_wp2_with (exact absurd ⟨by assumption, by assumption, by assumption, by assumption, by assumption⟩ HH.out)
    all_goals
      go_ret
      exact ⟨rfl, ((Below.refl _ w).alloc (Nat.le_refl _) _).alloc (by simp) _⟩

set_option maxHeartbeats 2000000 in
theorem rfsame_any (v k s i c v' k' s' i' c' : Int) (B : Nat) (A A' : Option Addr) (n cp n' cp' : Nat) (xs ys : List Int) (w : World) (hn : xs.length = n) (hn' : ys.length = n') (hl : n ≤ 9223372036854775807) (hB : B ≤ w.heap.size) (h1 : Nums .u8 w B A xs) (h2 : Nums .u8 w B A' ys) :
    Calls Try.prog 10 #[frV v k s i c (.slice A n cp), frV v' k' s' i' c' (.slice A' n' cp')] w fun e w' => e = .returned (.bool (sameZ v k s i c v' k' s' i' c' xs ys)) ∧ Below w.heap.size w w' := by
  obtain ⟨w0, hw⟩ : ∃ w0, (w.alloc (.cells (frC v k s i c (.slice A n cp)) 35)).alloc (.cells (frC v' k' s' i' c' (.slice A' n' cp')) 35) = w0 := ⟨_, rfl⟩
  obtain ⟨hb, q1, q2⟩ := two_frames hw
  obtain ⟨d0, d1, d2, d3, d4, d5⟩ := fr_block q1
  obtain ⟨e0, e1, e2, e3, e4, e5⟩ := fr_block q2
  have hb' := hb.mono hB
  have K := same_any B A A' n n' cp cp' xs ys w0 hn hn' hl (h1.below hb') (h2.below hb')
  have HW := Lib.hid hw
  have HB := Lib.hid hb
  unfold frV
  have HF1 : Hid (frC v k s i c (.slice A n cp) = #[.int .i64 v, .int .i64 k, .int .u32 s, .int .i64 i, .int .i64 c, .slice A n cp]) := rfl
  have HF2 : Hid (frC v' k' s' i' c' (.slice A' n' cp') = #[.int .i64 v', .int .i64 k', .int .u32 s', .int .i64 i', .int .i64 c', .slice A' n' cp']) := rfl
  clear hw q1 q2 hb hb' h1 h2
  by_cases hh : v = v' ∧ k = k' ∧ s = s' ∧ i = i' ∧ c = c'
  · obtain ⟨rfl, rfl, rfl, rfl, rfl⟩ := hh
    have hz : sameZ v k s i c v k s i c xs ys = decide (xs = ys) := by simp [sameZ]
    rw [hz]
    clear hz
    rw [HF1.out, HF2.out] at HW ⊢
    go_enter Try.func10, Try.ntmps10
    go_wp2_with fail
    rw [HW.out]
    go_wp2_with fail
    refine K.mono ?_
    rintro e w1 ⟨rfl, m, hm⟩
    have HB2 : Hid (Below w.heap.size w w1) := by rw [hm]; exact below_drewN HB.out m
    clear hm
    go_wp2
    go_ret
    exact ⟨rfl, HB2.out⟩
  · have hz : sameZ v k s i c v' k' s' i' c' xs ys = false := by
      unfold sameZ
      rw [decide_eq_false_iff_not]
      rintro ⟨rfl, rfl, rfl, rfl, rfl, _⟩
      exact hh ⟨rfl, rfl, rfl, rfl, rfl⟩
    rw [hz]
    have HH := Lib.hid hh
    clear hz hh K
    rw [HF1.out, HF2.out]
    clear HF1 HF2 HW HB
    go_enter Try.func10, Try.ntmps10
    go_wp2_with (exact absurd ⟨by assumption, by assumption, by assumption, by assumption, by assumption⟩ HH.out)
    all_goals
      go_ret
      exact ⟨rfl, ((Below.refl _ w).alloc (Nat.le_refl _) _).alloc (by simp) _⟩
end Go.Proofs.Ytbohdmconeebeaa

namespace Go.Proofs.Ytbohdmconeebeaa
open Go.RowKit Go.Shelf
set_option maxRecDepth 100000
attribute [local go_sem] Oper.semAt_some

theorem fpack_nil (v : Value) (w : World) : Calls Try.prog 18 #[.pointer none, v] w fun e w' => e = .returned (.tuple #[.slice none 0 0, .int .i64 1]) ∧ Below w.heap.size w w' := by
  go_enter Try.func18, Try.ntmps18
  go_wp2
  go_ret2
  exact ⟨rfl, Below.refl _ _⟩
theorem fsegment_nil (v k s i c : Int) (p : Value) (w : World) : Calls Try.prog 13 #[.pointer none, frV v k s i c p] w fun e w' => e = .returned (.tuple #[.slice none 0 0, .int .i64 1]) ∧ Below w.heap.size w w' := by
  have hb0 := Lib.hid ((Below.refl w.heap.size w).alloc (Nat.le_refl _) (.cells (frC v k s i c p) 29))
  have HC := Lib.hid (fcheck_nil v k s i c p)
  unfold frV at HC ⊢
  have HF : Hid (frC v k s i c p = #[.int .i64 v, .int .i64 k, .int .u32 s, .int .i64 i, .int .i64 c, p]) := rfl
  rw [HF.out] at hb0 HC ⊢
  go_enter Try.func13, Try.ntmps13
  go_wp2_with (go_at_call 17; refine (HC.out _).mono ?_; rintro e w1 ⟨rfl, hb1⟩; have HB1 := Lib.hid hb1; clear hb1)
  go_ret2
  exact ⟨rfl, hb0.out.trans (HB1.out.mono (by simp))⟩
theorem funpack_nil (a : Option Addr) (n cp : Nat) (w : World) : Calls Try.prog 8 #[.pointer none, .slice a n cp] w fun e w' => e = .returned (.tuple #[frV 0 0 0 0 0 (.slice none 0 0), .int .i64 1]) ∧ Below w.heap.size w w' := by
  go_enter Try.func8, Try.ntmps8
  go_wp2
  refine bodyPost_ret (v := .tuple #[frV 0 0 0 0 0 (.slice none 0 0), .int .i64 1]) (by simp [results, Try.results8, go_sem, frV, frC]) rfl ?_
  exact ⟨rfl, ((Below.refl _ w).alloc (Nat.le_refl _) _)⟩
theorem fframes_nil (v : Value) (w : World) : Calls Try.prog 16 #[.pointer none, v] w fun e w' => e = .returned (.func (.func 33) #[] #[]) ∧ Below w.heap.size w w' := by
  go_enter Try.func16, Try.ntmps16
  go_wp2
  go_ret
  exact ⟨rfl, ((Below.refl _ w).alloc (Nat.le_refl _) _)⟩
theorem nil_not_nil (w : World) : (binOp .eql 50 (.func (.func 33) #[] #[]) .nilFunc).run Try.prog w = .ok (.bool false) w := by
  kernel_rfl
theorem nil_in (n : Nat) (v : Value) (W : World) : CallsIn Fence.wide n Try.prog 33 #[v] W fun e W' => (∃ v, e = .returned v) ∧ W' = W := by
  refine callsIn_of_wp_marks Try.func33 rfl trivial ?_ rfl
  simp only [Try.ntmps33, List.size_toArray, List.length_cons, List.length_nil, Nat.reduceAdd, Nat.reduceSub, Array.replicate_succ, Array.replicate_zero, List.push_toArray, List.append_toArray, List.nil_append, List.cons_append]
  gi_wp2
  refine ⟨_, results_none rfl _ _ _, ?_⟩
  exact ⟨⟨_, rfl⟩, rfl⟩
end Go.Proofs.Ytbohdmconeebeaa

namespace Go.Proofs.Ytbohdmconeebeaa
open Go.ChangeShapes Go.WideShapes Go.RowKit
set_option maxRecDepth 100000

section
variable {H : Type} {enc : TypeId × Value → H} {w : World} {base : Nat} {spare : Nat → Bool} {held : Bool}
theorem open_head {r : Reach} {b0 : Nat} {x : Value} {d : DataW H} {p : List MemPlace} (hv : Value.okWide Try.prog w r b0 27 x) (h : DataW.Trod enc Try.prog w base spare held 27 x d p) :
    ∃ v k s i c : Int, x = hdV v k s i c ∧ (Lit.int .i64 v).wf = true ∧ (Lit.int .i64 k).wf = true ∧ (Lit.int .u32 s).wf = true ∧ (Lit.int .i64 i).wf = true ∧ (Lit.int .i64 c).wf = true := by
  obtain ⟨⟨cs⟩, rfl, hsz⟩ := okWide_struct Try.underlying27 hv
  have h5 : Try.prog.cellsOf 27 = 5 := by kernel_rfl
  rw [h5] at hsz
  obtain ⟨fuel, hf⟩ := h
  obtain ⟨xs, n, _, _, _, hlen, hg⟩ := DataW.trod_struct Try.underlying27 hf
  have one : ∀ (t : TypeId) (q : Nat) (kd : IntKind), Try.prog.underlying t = some (.int kd) → q < xs.length → DataW.trod enc Try.prog w base spare held n t ((cs.drop q).take 1) = xs[q]? → ∃ z, cs[q]? = some (.int kd z) ∧ (Lit.int kd z).wf = true := fun t q kd ht hq e => by
    rw [List.getElem?_eq_getElem hq] at e
    obtain ⟨z, e1, _, hz⟩ := DataW.trod_int ht e
    refine ⟨z, ?_, hz⟩
    have := congrArg (·[0]?) e1
    simpa [List.getElem?_take, List.getElem?_drop] using this
  have hl : xs.length = 5 := hlen
  have g0 := hg 0 _ rfl
  have g1 := hg 1 _ rfl
  have g2 := hg 2 _ rfl
  have g3 := hg 3 _ rfl
  have g4 := hg 4 _ rfl
  simp only [Value.cells] at g0 g1 g2 g3 g4
  obtain ⟨v, a0, r0⟩ := one 3 0 .i64 Try.underlying3 (by omega) g0
  obtain ⟨k, a1, r1⟩ := one 3 1 .i64 Try.underlying3 (by omega) g1
  obtain ⟨s, a2, r2⟩ := one 25 2 .u32 Try.underlying25 (by omega) g2
  obtain ⟨i, a3, r3⟩ := one 3 3 .i64 Try.underlying3 (by omega) g3
  obtain ⟨c, a4, r4⟩ := one 3 4 .i64 Try.underlying3 (by omega) g4
  refine ⟨v, k, s, i, c, ?_, r0, r1, r2, r3, r4⟩
  match cs, hsz, a0, a1, a2, a3, a4 with
  | [y0, y1, y2, y3, y4], _, a0, a1, a2, a3, a4 =>
    simp at a0 a1 a2 a3 a4
    subst a0 a1 a2 a3 a4
    rfl
end
end Go.Proofs.Ytbohdmconeebeaa

namespace Go.Proofs.Ytbohdmconeebeaa
open Go.RowKit Go.ChangeShapes Go.WideShapes Go.Deep
set_option maxRecDepth 100000

def i64Ok (z : Int) : Prop := -9223372036854775808 ≤ z ∧ z ≤ 9223372036854775807
/-- its numbers are numbers of its kinds -/
structure Fr.Wf (f : Fr) : Prop where
  v : i64Ok f.v
  k : i64Ok f.k
  i : i64Ok f.i
  c : i64Ok f.c
section
variable {H : Type} {enc : TypeId × Value → H} {w : World}
theorem row_of {T E : TypeId} {k : IntKind} {fuel : Nat} {v : Value} {x : DataW H × List MemPlace} (ht : Try.prog.underlying T = some (.slice E)) (he : Try.prog.underlying E = some (.int k)) (hc : Try.prog.cellsOf E = 1)
    (h : DataW.trod enc Try.prog w 0 (fun _ => true) true fuel T [v] = some x) : ∃ a n c es, v = .slice a n c ∧ es.length = n ∧ n ≤ c ∧ Nums k w w.heap.size a es ∧ ∀ z ∈ es, (Lit.int k z).wf = true := by
  rcases open_ints ht he hc h with ⟨hcs, _⟩ | ⟨a, l, c, zs, hcs, _, hl, hm, hz, _, hcell, hwz⟩
  · injection hcs with hcs
    exact ⟨none, 0, 0, [], hcs, rfl, Nat.le_refl _, Nums.nil, fun z hz => by cases hz⟩
  · injection hcs with hcs
    obtain ⟨es, h1, h2, h3, h4, h5⟩ := IsRow.elems (k := k) (w := w) (a := some a) (len := l) (cap := c) (zs := zs) (.inr ⟨_, rfl, hl, hm, by simpa using hz, hcell, hwz⟩)
    exact ⟨some a, l, c, es, hcs, h1, h2, h4, h5⟩
theorem row_short {T E : TypeId} {k : IntKind} {fuel : Nat} {v : Value} {x : DataW H × List MemPlace} (ht : Try.prog.underlying T = some (.slice E)) (he : Try.prog.underlying E = some (.int k)) (hc : Try.prog.cellsOf E = 1)
    (h : DataW.trod enc Try.prog w 0 (fun _ => true) true fuel T [v] = some x) : ∃ a n c, v = .slice a n c ∧ c ≤ maxLen := by
  rcases open_ints ht he hc h with ⟨hcs, _⟩ | ⟨a, l, c, zs, hcs, _, hl, hm, hz, _, hcell, hwz⟩
  · injection hcs with hcs
    exact ⟨none, 0, 0, hcs, Nat.zero_le _⟩
  · injection hcs with hcs
    exact ⟨some a, l, c, hcs, hm⟩
/-- a head's cells -/
theorem head_of {fuel : Nat} {cs : List Value} {x : DataW H × List MemPlace} (h : DataW.trod enc Try.prog w 0 (fun _ => true) true fuel 27 cs = some x) :
    ∃ v k s i c : Int, cs = [.int .i64 v, .int .i64 k, .int .u32 s, .int .i64 i, .int .i64 c] ∧ 0 ≤ s ∧ s ≤ 4294967295 ∧ i64Ok v ∧ i64Ok k ∧ i64Ok i ∧ i64Ok c := by
  obtain ⟨xs, n, _, _, hlen, hxl, hf⟩ := DataW.trod_struct Try.underlying27 h
  have h5 : Try.prog.cellsOf 27 = 5 := by kernel_rfl
  have k0 : Try.prog.cellsOf 3 = 1 := by kernel_rfl
  have k1 : Try.prog.cellsOf 25 = 1 := by kernel_rfl
  rw [h5] at hlen
  match cs, hlen with
  | [c0, c1, c2, c3, c4], _ =>
    have hx : ∀ i, i < 5 → ∃ y, xs[i]? = some y := fun i hi => ⟨_, List.getElem?_eq_getElem (by rw [hxl]; exact hi)⟩
    obtain ⟨y0, e0⟩ := hx 0 (by decide)
    obtain ⟨y1, e1⟩ := hx 1 (by decide)
    obtain ⟨y2, e2⟩ := hx 2 (by decide)
    obtain ⟨y3, e3⟩ := hx 3 (by decide)
    obtain ⟨y4, e4⟩ := hx 4 (by decide)
    have f0 : DataW.trod enc Try.prog w 0 (fun _ => true) true n 3 (([c0, c1, c2, c3, c4].drop 0).take (Try.prog.cellsOf 3)) = some y0 := (hf 0 _ rfl).trans e0
    rw [k0] at f0
    have f1 : DataW.trod enc Try.prog w 0 (fun _ => true) true n 3 (([c0, c1, c2, c3, c4].drop 1).take (Try.prog.cellsOf 3)) = some y1 := (hf 1 _ rfl).trans e1
    rw [k0] at f1
    have f2 : DataW.trod enc Try.prog w 0 (fun _ => true) true n 25 (([c0, c1, c2, c3, c4].drop 2).take (Try.prog.cellsOf 25)) = some y2 := (hf 2 _ rfl).trans e2
    rw [k1] at f2
    have f3 : DataW.trod enc Try.prog w 0 (fun _ => true) true n 3 (([c0, c1, c2, c3, c4].drop 3).take (Try.prog.cellsOf 3)) = some y3 := (hf 3 _ rfl).trans e3
    rw [k0] at f3
    have f4 : DataW.trod enc Try.prog w 0 (fun _ => true) true n 3 (([c0, c1, c2, c3, c4].drop 4).take (Try.prog.cellsOf 3)) = some y4 := (hf 4 _ rfl).trans e4
    rw [k0] at f4
    obtain ⟨v, g0, _, hv⟩ := DataW.trod_int Try.underlying3 f0
    obtain ⟨k, g1, _, hk⟩ := DataW.trod_int Try.underlying3 f1
    obtain ⟨s, g2, _, hs⟩ := DataW.trod_int Try.underlying25 f2
    obtain ⟨i, g3, _, hi⟩ := DataW.trod_int Try.underlying3 f3
    obtain ⟨c, g4, _, hc⟩ := DataW.trod_int Try.underlying3 f4
    injection g0 with g0
    injection g1 with g1
    injection g2 with g2
    injection g3 with g3
    injection g4 with g4
    subst g0 g1 g2 g3 g4
    have hr : 0 ≤ s ∧ s ≤ 4294967295 := by
      have h := hs
      simp [Lit.wf] at h
      exact h
    exact ⟨v, k, s, i, c, rfl, hr.1, hr.2, bounds_i64 hv, bounds_i64 hk, bounds_i64 hi, bounds_i64 hc⟩
/-- a frame's cells -/
theorem fr_of {fuel : Nat} {cs : List Value} {x : DataW H × List MemPlace} (h : DataW.trod enc Try.prog w 0 (fun _ => true) true fuel 29 cs = some x) :
    ∃ f : Fr, cs = f.cs.toList ∧ f.At w w.heap.size ∧ f.Wf := by
  obtain ⟨xs, n, _, _, hlen, hxl, hf⟩ := DataW.trod_struct Try.underlying29 h
  have h6 : Try.prog.cellsOf 29 = 6 := by kernel_rfl
  have k0 : Try.prog.cellsOf 27 = 5 := by kernel_rfl
  have k1 : Try.prog.cellsOf 22 = 1 := by kernel_rfl
  rw [h6] at hlen
  match cs, hlen with
  | [c0, c1, c2, c3, c4, c5], _ =>
    have hx : ∀ i, i < 2 → ∃ y, xs[i]? = some y := fun i hi => ⟨_, List.getElem?_eq_getElem (by rw [hxl]; exact hi)⟩
    obtain ⟨y0, e0⟩ := hx 0 (by decide)
    obtain ⟨y1, e1⟩ := hx 1 (by decide)
    have f0 : DataW.trod enc Try.prog w 0 (fun _ => true) true n 27 (([c0, c1, c2, c3, c4, c5].drop 0).take (Try.prog.cellsOf 27)) = some y0 := (hf 0 _ rfl).trans e0
    rw [k0] at f0
    have f1 : DataW.trod enc Try.prog w 0 (fun _ => true) true n 22 (([c0, c1, c2, c3, c4, c5].drop 5).take (Try.prog.cellsOf 22)) = some y1 := (hf 1 _ rfl).trans e1
    rw [k1] at f1
    obtain ⟨v, k, s, i, c, g0, hs0, hs1, hv, hk, hi, hc⟩ := head_of f0
    obtain ⟨a, m, cp, zs, rfl, l1, l2, l3, l4⟩ := row_of Try.underlying22 Try.underlying5 (by kernel_rfl) f1
    obtain ⟨a2, m2, cp2, q1, q2⟩ := row_short Try.underlying22 Try.underlying5 (by kernel_rfl) f1
    injection q1 with q1 q3 q4
    subst q1 q3 q4
    simp only [List.drop_zero, List.take_succ_cons, List.take_zero, List.cons.injEq, and_true] at g0
    obtain ⟨rfl, rfl, rfl, rfl, rfl⟩ := g0
    subst l1
    exact ⟨⟨v, k, s, i, c, a, cp, zs⟩, rfl, ⟨hs0, hs1, l2, by unfold maxLen at q2; simp only; omega, bytes_of l4, l3⟩, ⟨hv, hk, hi, hc⟩⟩
theorem open_frame {r : Reach} {b0 : Nat} {x : Value} {d : DataW H} {p : List MemPlace} (hv : Value.okWide Try.prog w r b0 29 x) (h : DataW.Trod enc Try.prog w 0 (fun _ => true) true 29 x d p) :
    ∃ f : Fr, x = .agg f.cs ∧ f.At w w.heap.size ∧ f.Wf := by
  obtain ⟨⟨cs⟩, rfl, hsz⟩ := okWide_struct Try.underlying29 hv
  obtain ⟨fuel, hf⟩ := h
  obtain ⟨f, e, h1, h2⟩ := fr_of hf
  simp only [Value.cells] at e
  refine ⟨f, ?_, h1, h2⟩
  rw [e]
theorem frs_of {fuel : Nat} {A : Option Addr} {len cap : Nat} {x : DataW H × List MemPlace} (h : DataW.trod enc Try.prog w 0 (fun _ => true) true fuel 79 [.slice A len cap] = some x) :
    ∃ fs : List Fr, fs.length = len ∧ len ≤ 9223372036854775807 ∧ len ≤ cap ∧ FrsAt w w.heap.size A fs ∧ ∀ f ∈ fs, f.Wf := by
  rcases open_slice Try.underlying79 h with ⟨hcs, _⟩ | ⟨a, l, c, m, n, D, Pl, hcs, _, hl, hm, hmm, _, hi⟩
  · injection hcs with hcs
    injection hcs with h1 h2 h3
    subst h1 h2 h3
    exact ⟨[], rfl, by decide, Nat.le_refl _, ⟨fun f hf => by simp at hf, fun j f hj => by simp at hj⟩, fun f hf => by simp at hf⟩
  · injection hcs with hcs
    injection hcs with h1 h2 h3
    subst h1 h2 h3
    have h6 : Try.prog.cellsOf 29 = 6 := by kernel_rfl
    have hmc : m = cap := by simpa using hmm
    have key : ∀ i, ∃ f : Fr, i < len → f.At w w.heap.size ∧ f.Wf ∧ ∃ b o, some a = some (⟨b, o, none⟩ : Addr) ∧ b < w.heap.size ∧ ∀ (q : Nat) (u : Value), f.cs[q]? = some u → w.cell? ⟨b, o + i * 6 + q, none⟩ = some u := by
      intro i
      by_cases hil : i < len
      · obtain ⟨cs', hc', ht'⟩ := hi i (by omega)
        rw [h6] at hc'
        obtain ⟨f, rfl, hat, hwf⟩ := fr_of ht'
        obtain ⟨_, _, hcell⟩ := World.cells?_some hc'
        obtain ⟨cs0, hc0, ht0⟩ := hi 0 (by omega)
        rw [h6] at hc0
        obtain ⟨f0, rfl, _⟩ := fr_of ht0
        have hz := (World.cells?_some hc0).2.2 0 (by decide)
        have hadd : ∀ a : Addr, a.add 0 = a := fun a => by unfold Addr.add; rw [if_pos rfl]
        rw [Nat.zero_mul, hadd, hadd] at hz
        obtain ⟨b, o, sp⟩ := a
        have hsp : sp = none := World.cell?_spot hz
        subst hsp
        have hcj : ∀ (j : Nat) v, f.cs[j]? = some v → w.cell? ⟨b, o + i * 6 + j, none⟩ = some v := fun j v hv => by
          have hj : j < 6 := (Array.getElem?_eq_some_iff.1 hv).1
          have h0 := hcell j hj
          rw [Addr.add_lit, Addr.add_lit, Array.getElem?_toList, hv] at h0
          exact h0
        exact ⟨f, fun _ => ⟨hat, hwf, b, o, rfl, block_of_cell (hcj 0 _ rfl), hcj⟩⟩
      · exact ⟨⟨0, 0, 0, 0, 0, none, 0, []⟩, fun h => absurd h hil⟩
    obtain ⟨g, hg⟩ := Classical.axiomOfChoice key
    have hall : ∀ (i : Nat) f, ((List.range len).map g)[i]? = some f → i < len ∧ f = g i := fun i f hd => by
      rw [List.getElem?_map] at hd
      obtain ⟨j, hj, rfl⟩ := Option.map_eq_some_iff.1 hd
      have hil : i < len := by
        rcases Nat.lt_or_ge i len with h | h
        · exact h
        · rw [List.getElem?_eq_none (by simpa using h)] at hj; simp at hj
      rw [List.getElem?_range hil] at hj
      injection hj with hj
      exact ⟨hil, by rw [hj]⟩
    refine ⟨(List.range len).map g, by simp, by unfold maxLen at hm; omega, by omega, ⟨fun f hf => ?_, fun j f hj => ?_⟩, fun f hf => ?_⟩
    · obtain ⟨i, hi, rfl⟩ := List.mem_iff_getElem.1 hf
      obtain ⟨h1, h2⟩ := hall i _ (List.getElem?_eq_getElem hi)
      rw [h2]; exact (hg i h1).1
    · obtain ⟨h1, rfl⟩ := hall j f hj
      exact (hg j h1).2.2
    · obtain ⟨i, hi, rfl⟩ := List.mem_iff_getElem.1 hf
      obtain ⟨h1, h2⟩ := hall i _ (List.getElem?_eq_getElem hi)
      rw [h2]; exact (hg i h1).2.1
end
end Go.Proofs.Ytbohdmconeebeaa
