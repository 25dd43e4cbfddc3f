/-
  Contract of layer 5's Decode.
-/
import Derived.Test.YtljacfhkjhhbgaaCobE
import Derived.ScopeJumps
namespace Go.Proofs.Ytljacfhkjhhbgaa
open Go.RowKit
set_option maxRecDepth 100000

/-- what Decode leaves -/
def DecR (w : World) (r : Option (List Int)) (e : Ending) (w' : World) : Prop :=
  match r with
  | some x => ∃ v, e = .returned (.tuple #[v, .int .i64 0]) ∧ MadeK 5 .u8 w w' x v
  | none => e = .returned (.tuple #[.slice none 0 0, .int .i64 12]) ∧ Below w.heap.size w w'

theorem DecR.none_of {w w' : World} {zs : List Int} (h : Cb.dec false zs = none) (hb : Below w.heap.size w w') : DecR w (Cb.dec false zs) (.returned (.tuple #[.slice none 0 0, .int .i64 12])) w' := by
  rw [h]; exact ⟨rfl, hb⟩
theorem DecR.some_of {w w' : World} {zs x : List Int} {v : Value} (h : Cb.dec false zs = some x) (hm : MadeK 5 .u8 w w' x v) : DecR w (Cb.dec false zs) (.returned (.tuple #[v, .int .i64 0])) w' := by
  rw [h]; exact ⟨v, rfl, hm⟩
/-- cut ahead: the address as the walk spells it -/
theorem Nums.dropAt {k : IntKind} {w : World} {B : Nat} {a a' : Option Addr} {zs : List Int} (h : Nums k w B a zs) {i : Nat} (ha : i < zs.length → ∀ b o, a = some ⟨b, o, none⟩ → a' = some ⟨b, o + i, none⟩) : Nums k w B a' (zs.drop i) := fun hn => by
  have hi' : i < zs.length := by
    rcases Nat.lt_or_ge i zs.length with h1 | h1
    · exact h1
    · exact absurd (List.drop_eq_nil_of_le h1) hn
  obtain ⟨b, off, rfl, hb, hcell⟩ := h (by intro e; subst e; simp at hi')
  refine ⟨b, off + i, ha hi' b off rfl, hb, fun q c hj => ?_⟩
  rw [Nat.add_assoc]
  exact hcell (i + q) c (by rw [← hj, List.getElem?_drop])

set_option maxHeartbeats 4000000 in
theorem decode_any (a : Option Addr) (n c : Nat) (zs : List Int) (w : World) (hn : zs.length = n) (hc : n ≤ c) (hl : n ≤ 1000000) (hz : Bytes zs) (h1 : Nums .u8 w w.heap.size a zs) :
    Calls Try.prog 9 #[.slice a n c] w fun e w' => DecR w (Cb.dec false zs) e w' := by
  obtain ⟨i0, hi, hz0, hz1, hz2⟩ := info_parts byteInfo
  go_enter Try.func9, Try.ntmps9
  go_wp2
  refine wp_scope_jumps 0 (fun a' w' => Cb.dec false zs = none ∧ Below w.heap.size w w' ∧ a'.tmps.size = 64 ∧ a'.defers = []) (fun _ _ => 0) (by rfl) ?_ ?_
  · go_wp2
    refine wp_label ?_
    go_wp2
    go_loopw [4, 5, 6] (fun v l fl wr => ∃ (A : Option Addr) (L o : List Int) (m c : Nat) (f : Bool), l = .slice A m c ∧ fl = .bool f ∧ L.length = m ∧ m ≤ c ∧ m ≤ 1000000 ∧ o.length + m ≤ 2000000 ∧ Hid (Nums .u8 w w.heap.size A L) ∧ Hid (Bytes L) ∧ Hid (Cb.dec false zs = (Cb.dec f L).map (o ++ ·)) ∧ Hid (MadeK 5 .u8 w wr o v))
      (fun _ l _ _ => sliceLen l)
    case atStart => exact ⟨a, zs, [], n, c, false, rfl, rfl, hn, hc, hl, by simp; omega, h1, hz, by show _ = _; simp, MadeK.nil _ _ (Below.refl _ _)⟩
    case round =>
      obtain ⟨A, L, o, m, c, f, rfl, rfl, hm, hmc, hml, hom, HN, HZ, HD, HM⟩ := hrel
      have hbe := HM.out.2
      by_cases h0 : m = 0
      · obtain rfl : L = [] := List.length_eq_zero_iff.1 (by omega)
        have hd : Cb.dec false zs = none := by rw [HD.out, Cb.dec_nil]; rfl
        subst h0
        go_wp2
        go_step3
        exact (show _ ∧ _ from ⟨rfl, hd, hbe, rfl, rfl⟩)
      · obtain ⟨z, r, rfl⟩ : ∃ z r, L = z :: r := by
          cases L with
          | nil => exact absurd hm.symm h0
          | cons z r => exact ⟨z, r, rfl⟩
        have hzb := HZ.out z (by simp)
        obtain ⟨q, rfl⟩ : ∃ q : Nat, z = (q : Int) := ⟨z.toNat, by omega⟩
        obtain ⟨b1, o1, rfl, hb1, hc1⟩ := (HN.out.below hbe).open (j := 0) (c := (q : Int)) rfl
        rw [Nat.add_zero] at hc1
        have hm0 : ¬ ((m : Int) = 0) := by omega
        have hr : r.length + 1 = m := by simpa using hm
        by_cases hq0 : q = 0
        · subst hq0
          have hd : Cb.dec false zs = none := by rw [HD.out, Cb.dec_bad (.inl (by omega))]; rfl
          go_wp2
          go_step3
          exact (show _ ∧ _ from ⟨rfl, hd, hbe, rfl, rfl⟩)
        · have hq1 : ¬ ((q : Int) = 0) := by omega
          by_cases hqm : m < q
          · have hd : Cb.dec false zs = none := by rw [HD.out, Cb.dec_bad (.inr (by omega))]; rfl
            have hq2 : (m : Int) < (q : Int) := by omega
            go_wp2
            go_step3
            exact (show _ ∧ _ from ⟨rfl, hd, hbe, rfl, rfl⟩)
          · have hq2 : ¬ (m : Int) < (q : Int) := by omega
            obtain ⟨k, hk⟩ : ∃ k, q = k + 1 := ⟨q - 1, by omega⟩
            have hkr : k ≤ r.length := by omega
            have hbl : (r.take k).length = k := by rw [List.length_take]; omega
            have hq3 : (1 : Int) ≤ (q : Int) := by omega
            have hq4 : (q : Int) ≤ (c : Int) := by omega
            have hq5 : (q : Int) ≤ (m : Int) := by omega
            have hmc' : (m : Int) ≤ (c : Int) := by omega
            have hm00 : ((m : Int) == 0) = false := by rw [beq_eq_false_iff_ne]; exact hm0
            have hq00 : ((q : Int) == 0) = false := by rw [beq_eq_false_iff_ne]; exact hq1
            have HK := Lib.hid hk
            have hk1 : q - 1 = k := by omega
            clear hk
            have HQ : Hid (((q : Nat) : Int) = ((k + 1 : Nat) : Int)) := by show _ = _; rw [HK.out]
            have hkm : k + 1 ≤ m := by omega
            have hlo : k ≤ r.length := hkr
            have HX1 : Hid (o.length + k ≤ maxLen) := by show _ ≤ _; unfold maxLen; omega
            have HX2 : Hid ((o.length + k) * 1 ≤ 140737488355328) := by show _ ≤ _; omega
            have HX3 : Hid (w.heap.size ≤ wr.heap.size) := hbe.size
            by_cases hc1' : c = 1
            · subst hc1'
              have hNb : Nums .u8 wr w.heap.size (some ⟨b1, o1, none⟩) (r.take k) := by
                have h9 : r.take k = [] := List.length_eq_zero_iff.1 (by omega)
                rw [h9]; exact Nums.nil
              have HNb := Lib.hid hNb
              have hle := Cb.nz_le (r.take k)
              have I := index_any w.heap.size (some ⟨b1, o1, none⟩) k 0 (r.take k) wr hbl ((HZ.out.drop 1).take k) hNb
              have e1 : idx (r.take k) = -1 := by unfold idx; rw [if_neg (by omega)]
              rw [e1] at I
              clear hNb
              have hqm2 : q = m := by omega
              have h7 : (m : Int) - (q : Int) = 0 := by omega
              have HQM := Lib.hid hqm2
              clear hqm2
              by_cases hf : f = true ∧ k = 0
              · obtain ⟨rfl, hk0⟩ := hf
                have hd : Cb.dec false zs = none := by rw [HD.out, HQ.out, Cb.dec_last (by have := HQM.out; omega) (by omega), if_pos ⟨rfl, hk0⟩]; rfl
                have hk9 : (k : Int) = 0 := by omega
                clear hle HD HQ hk0
                go_wp2_with (first | (go_at_call 19; refine I.mono ?_; rintro e w1 ⟨rfl, rfl⟩) | (at_builtin; refine wpList_append_any rfl (.tmp 38) (.tmp 39) 22 rfl w.heap.size 5 i0 (.int .u8 0) 1 Try.underlying22 hi hz0 hz1 hz2 rfl .u8 o (r.take k) _ rfl HM.out.1 _ k _ _ rfl hbl HNb.out HX1.out HX2.out HX3.out ?_))
                intro v2 w2 hown hg
                have HM2 := Lib.hid (HM.out.more (zs := r.take k) (v' := v2) (by rw [hbl]; simpa using hown) hg)
                have hbe2 := HM2.out.2
                clear hown hg
                go_wp2
                all_goals go_step3
                all_goals exact (show _ ∧ _ from ⟨rfl, hd, hbe2, rfl, rfl⟩)
              · have hd : Hid (Cb.dec false zs = some (o ++ r.take k)) := by show _ = _; rw [HD.out, HQ.out, Cb.dec_last (by have := HQM.out; omega) (by omega), if_neg hf]; rfl
                clear HD HQ
                rcases Bool.eq_false_or_eq_true f with hf1 | hf1
                · have hk9 : ¬ (k : Int) = 0 := by have : ¬ k = 0 := fun e => hf ⟨hf1, e⟩; omega
                  have hk10 : ((k : Int) == 0) = false := by rw [beq_eq_false_iff_ne]; exact hk9
                  subst hf1
                  clear hle hf
                  go_wp2_with (first | (go_at_call 19; refine I.mono ?_; rintro e w1 ⟨rfl, rfl⟩) | (at_builtin; refine wpList_append_any rfl (.tmp 38) (.tmp 39) 22 rfl w.heap.size 5 i0 (.int .u8 0) 1 Try.underlying22 hi hz0 hz1 hz2 rfl .u8 o (r.take k) _ rfl HM.out.1 _ k _ _ rfl hbl HNb.out HX1.out HX2.out HX3.out ?_))
                  intro v2 w2 hown hg
                  have HM2 := Lib.hid (HM.out.more (zs := r.take k) (v' := v2) (by rw [hbl]; simpa using hown) hg)
                  clear hown hg
                  go_wp2
                  all_goals go_ret2
                  all_goals exact DecR.some_of hd.out HM2.out
                · subst hf1
                  clear hle hf
                  go_wp2_with (first | (go_at_call 19; refine I.mono ?_; rintro e w1 ⟨rfl, rfl⟩) | (at_builtin; refine wpList_append_any rfl (.tmp 38) (.tmp 39) 22 rfl w.heap.size 5 i0 (.int .u8 0) 1 Try.underlying22 hi hz0 hz1 hz2 rfl .u8 o (r.take k) _ rfl HM.out.1 _ k _ _ rfl hbl HNb.out HX1.out HX2.out HX3.out ?_))
                  intro v2 w2 hown hg
                  have HM2 := Lib.hid (HM.out.more (zs := r.take k) (v' := v2) (by rw [hbl]; simpa using hown) hg)
                  clear hown hg
                  go_wp2
                  all_goals go_ret2
                  all_goals exact DecR.some_of hd.out HM2.out
            · have hNb : Nums .u8 wr w.heap.size (some ⟨b1, o1 + 1, none⟩) (r.take k) := by
                have h9 := (HN.out.below hbe).dropAt (i := 1) (a' := some ⟨b1, o1 + 1, none⟩) (fun _ b o e => by injection e with e; injection e with e2 e3; subst e2 e3; rfl)
                exact h9.take k
              have HNb := Lib.hid hNb
              have hle := Cb.nz_le (r.take k)
              have I := index_any w.heap.size (some ⟨b1, o1 + 1, none⟩) k (c - 1) (r.take k) wr hbl ((HZ.out.drop 1).take k) hNb
              clear hNb
              by_cases hnz : Cb.nz (r.take k) < k
              · have e1 : idx (r.take k) = (Cb.nz (r.take k) : Int) := by unfold idx; rw [if_pos (by omega)]
                have hd : Cb.dec false zs = none := by rw [HD.out, HQ.out, Cb.dec_zero (by omega) hnz]; rfl
                rw [e1] at I
                have h0 : (0 : Int) ≤ (Cb.nz (r.take k) : Int) := by omega
                generalize Cb.nz (r.take k) = N at *
                clear hle hnz HD HQ
                go_wp2_with (go_at_call 19; refine I.mono ?_; rintro e w1 ⟨rfl, rfl⟩)
                go_step3
                exact (show _ ∧ _ from ⟨rfl, hd, hbe, rfl, rfl⟩)
              · have e1 : idx (r.take k) = -1 := by unfold idx; rw [if_neg (by omega)]
                rw [e1] at I
                by_cases hqm2 : q = m
                · have h7 : (m : Int) - (q : Int) = 0 := by omega
                  have HQM := Lib.hid hqm2
                  clear hqm2
                  by_cases hf : f = true ∧ k = 0
                  · obtain ⟨rfl, hk0⟩ := hf
                    have hd : Cb.dec false zs = none := by rw [HD.out, HQ.out, Cb.dec_last (by have := HQM.out; omega) (by omega), if_pos ⟨rfl, hk0⟩]; rfl
                    have hk9 : (k : Int) = 0 := by omega
                    clear hle HD HQ hk0
                    go_wp2_with (first | (go_at_call 19; refine I.mono ?_; rintro e w1 ⟨rfl, rfl⟩) | (at_builtin; refine wpList_append_any rfl (.tmp 38) (.tmp 39) 22 rfl w.heap.size 5 i0 (.int .u8 0) 1 Try.underlying22 hi hz0 hz1 hz2 rfl .u8 o (r.take k) _ rfl HM.out.1 _ k _ _ rfl hbl HNb.out HX1.out HX2.out HX3.out ?_))
                    intro v2 w2 hown hg
                    have HM2 := Lib.hid (HM.out.more (zs := r.take k) (v' := v2) (by rw [hbl]; simpa using hown) hg)
                    have hbe2 := HM2.out.2
                    clear hown hg
                    go_wp2
                    all_goals go_step3
                    all_goals exact (show _ ∧ _ from ⟨rfl, hd, hbe2, rfl, rfl⟩)
                  · have hd : Hid (Cb.dec false zs = some (o ++ r.take k)) := by show _ = _; rw [HD.out, HQ.out, Cb.dec_last (by have := HQM.out; omega) (by omega), if_neg hf]; rfl
                    clear HD HQ
                    rcases Bool.eq_false_or_eq_true f with hf1 | hf1
                    · have hk9 : ¬ (k : Int) = 0 := by have : ¬ k = 0 := fun e => hf ⟨hf1, e⟩; omega
                      have hk10 : ((k : Int) == 0) = false := by rw [beq_eq_false_iff_ne]; exact hk9
                      subst hf1
                      clear hle hf
                      go_wp2_with (first | (go_at_call 19; refine I.mono ?_; rintro e w1 ⟨rfl, rfl⟩) | (at_builtin; refine wpList_append_any rfl (.tmp 38) (.tmp 39) 22 rfl w.heap.size 5 i0 (.int .u8 0) 1 Try.underlying22 hi hz0 hz1 hz2 rfl .u8 o (r.take k) _ rfl HM.out.1 _ k _ _ rfl hbl HNb.out HX1.out HX2.out HX3.out ?_))
                      intro v2 w2 hown hg
                      have HM2 := Lib.hid (HM.out.more (zs := r.take k) (v' := v2) (by rw [hbl]; simpa using hown) hg)
                      clear hown hg
                      go_wp2
                      all_goals go_ret2
                      all_goals exact DecR.some_of hd.out HM2.out
                    · subst hf1
                      clear hle hf
                      go_wp2_with (first | (go_at_call 19; refine I.mono ?_; rintro e w1 ⟨rfl, rfl⟩) | (at_builtin; refine wpList_append_any rfl (.tmp 38) (.tmp 39) 22 rfl w.heap.size 5 i0 (.int .u8 0) 1 Try.underlying22 hi hz0 hz1 hz2 rfl .u8 o (r.take k) _ rfl HM.out.1 _ k _ _ rfl hbl HNb.out HX1.out HX2.out HX3.out ?_))
                      intro v2 w2 hown hg
                      have HM2 := Lib.hid (HM.out.more (zs := r.take k) (v' := v2) (by rw [hbl]; simpa using hown) hg)
                      clear hown hg
                      go_wp2
                      all_goals go_ret2
                      all_goals exact DecR.some_of hd.out HM2.out
                · have h7 : (0 : Int) < (m : Int) - (q : Int) := by omega
                  have hcq : c ≠ q := by omega
                  have hNd : Nums .u8 w w.heap.size (some ⟨b1, o1 + q, none⟩) (r.drop k) := by
                    have h9 := HN.out.dropAt (i := q) (a' := some ⟨b1, o1 + q, none⟩) (fun _ b o e => by injection e with e; injection e with e2 e3; subst e2 e3; rfl)
                    have h8 : ((q : Int) :: r).drop q = r.drop k := by rw [show q = k + 1 from HK.out]; rfl
                    rwa [h8] at h9
                  have HNd := Lib.hid hNd
                  clear hNd
                  by_cases hk254 : k = 254
                  · have hd : Hid (Cb.dec false zs = (Cb.dec true (r.drop k)).map ((o ++ r.take k) ++ ·)) := by
                      show _ = _
                      rw [HD.out, HQ.out, Cb.dec_more (by omega) (by omega), hk254, Option.map_map]
                      simp [Function.comp_def]
                    have hk9 : (k : Int) = 254 := by omega
                    have HK2 := Lib.hid hk254
                    clear hk254
                    have HL := Lib.hid (And.intro hr hkm)
                    clear hle hnz HD HQ
                    go_wp2_with (first | (go_at_call 19; refine I.mono ?_; rintro e w1 ⟨rfl, rfl⟩) | (at_builtin; refine wpList_append_any rfl (.tmp 38) (.tmp 39) 22 rfl w.heap.size 5 i0 (.int .u8 0) 1 Try.underlying22 hi hz0 hz1 hz2 rfl .u8 o (r.take k) _ rfl HM.out.1 _ k _ _ rfl hbl HNb.out HX1.out HX2.out HX3.out ?_))
                    intro v2 w2 hown hg
                    have HM2 := Lib.hid (HM.out.more (zs := r.take k) (v' := v2) (by rw [hbl]; simpa using hown) hg)
                    clear hown hg
                    go_wp2
                    go_roundw
                    case rel => exact ⟨_, r.drop k, o ++ r.take k, _, _, true, rfl, rfl, by rw [List.length_drop]; have := HK.out; omega, by omega, by omega, by rw [List.length_append, hbl]; have := HK.out; omega, HNd, (HZ.out.drop 1).drop k, hd, HM2⟩
                    case measure => simp [sliceLen]; omega
                  · have hd : Hid (Cb.dec false zs = (Cb.dec false (r.drop k)).map ((o ++ r.take k ++ [0]) ++ ·)) := by
                      show _ = _
                      rw [HD.out, HQ.out, Cb.dec_more (by omega) (by omega), Option.map_map]
                      simp [Function.comp_def, hk254]
                    have hk9 : ¬ (k : Int) = 254 := by omega
                    have hk10 : ((k : Int) == 254) = false := by rw [beq_eq_false_iff_ne]; exact hk9
                    have HL := Lib.hid (And.intro hr hkm)
                    have HZ0 := fun (W : World) => Lib.hid (Nums.new .u8 W 5 [0] #[.int .u8 0] rfl)
                    clear hle hnz HD HQ
                    go_wp2_with (first | (go_at_call 19; refine I.mono ?_; rintro e w1 ⟨rfl, rfl⟩) | (at_builtin; refine wpList_append_any rfl (.tmp 38) (.tmp 39) 22 rfl w.heap.size 5 i0 (.int .u8 0) 1 Try.underlying22 hi hz0 hz1 hz2 rfl .u8 o (r.take k) _ rfl HM.out.1 _ k _ _ rfl hbl HNb.out HX1.out HX2.out HX3.out ?_))
                    intro v2 w2 hown hg
                    have HM2 := Lib.hid (HM.out.more (zs := r.take k) (v' := v2) (by rw [hbl]; simpa using hown) hg)
                    have hb2 := HM2.out.2.size
                    clear hown hg
                    go_wp2_with (at_builtin; refine wpList_append_any rfl (.tmp 53) (.tmp 54) 22 rfl w.heap.size 5 i0 (.int .u8 0) 1 Try.underlying22 hi hz0 hz1 hz2 rfl .u8 (o ++ r.take k) [0] _ rfl (HM2.out.1.alloc _) _ 1 1 _ rfl rfl (HZ0 w2).out ?c1 ?c2 ?c3 ?_)
                    case c1 => rw [List.length_append, hbl]; unfold maxLen; omega
                    case c2 => rw [List.length_append, hbl]; omega
                    case c3 => rw [World.size_alloc]; omega
                    intro v3 w3 hown hg
                    have HM3 := Lib.hid (HM2.out.later (.cells #[.int .u8 0] 5) |>.more (zs := [0]) (v' := v3) (by simpa [Nat.min_eq_left hkr] using hown) hg)
                    clear hown hg
                    go_wp2
                    go_roundw
                    case rel => exact ⟨_, r.drop k, o ++ r.take k ++ [0], _, _, false, rfl, rfl, by rw [List.length_drop]; have := HK.out; omega, by omega, by omega, by rw [List.length_append, List.length_append, hbl]; have := HK.out; simp only [List.length_singleton]; omega, HNd, (HZ.out.drop 1).drop k, hd, HM3⟩
                    case measure => simp [sliceLen]; omega
  · rintro ⟨t, ds⟩ w' ⟨hd, hb, ht, rfl⟩
    simp only at ht
    go_wp2
    simp only [Exit.jump]
    refine bodyPost_ret (v := .tuple #[.slice none 0 0, .int .i64 12]) (by simp [results, Try.f9, go_sem, ht]) rfl ?_
    exact DecR.none_of hd hb
end Go.Proofs.Ytljacfhkjhhbgaa
