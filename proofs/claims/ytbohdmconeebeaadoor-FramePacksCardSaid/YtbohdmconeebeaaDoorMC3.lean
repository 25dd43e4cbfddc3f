/-
  A part of the texts of one proof, put together: CobD, SamA, CobK, FrW, FrK, FrE, HdO, FrA, Lens, RdA, RdB, RdW, Back, Read, Zig, RdM, Zag, Clos, WordC, Meth, Meths, HdR, HdS, RhC, RhP, HdTA, Q7, FrO, FrU.
-/
import Derived.ScopeJumps
import Derived.Test.YtbohdmconeebeaaDoorRows
import Derived.WalkKit
import Derived.ProofKit
import Derived.OpenShut
import Derived.Deep.Fields
import Derived.Deep.Slices
import Derived.ChangeSame
import Derived.WalkSpells
import Derived.Lib.SliceRun
import Derived.Deep.OwnRows
import Derived.Deep.RegionWith
import Derived.WalkLawsBesides
import Derived.WalkMore
import Derived.Lib.Hide
import Derived.Deep.LoopGhost
import Derived.RangeFuncNested
import Derived.RangeFuncBound
import Derived.RangeFuncCalls
import Derived.RangeFuncLeaves
import Derived.Shelf.Abstract
import Derived.Shelf.RegionOpen
import Derived.OwnWalkIn
import Derived.TacticsInMore
import Derived.LoopNIn
import Derived.LoopIn
import Derived.BigQuiet
import Derived.Deep.QuietTactic
import Derived.Laws.BitsAllLaws
import Derived.RangeFuncBox
import Derived.IntWalk
import Derived.RangeFuncWrites
import Derived.Handy
import Derived.BigRegion
import Derived.Test.YtbohdmconeebeaaDoorMC2
namespace Go.Proofs.YtbohdmconeebeaaDoor
open Go.RowKit
set_option maxRecDepth 100000

/-- what Decode leaves -/
def DecR (w : World) (r : Option (List Int)) (e : Ending) (w' : World) : Prop :=
  match r with
  | some x => ∃ v, e = .returned (.tuple #[v, .int .i64 0]) ∧ MadeK 5 .u8 w w' x v
  | none => e = .returned (.tuple #[.slice none 0 0, .int .i64 12]) ∧ Below w.heap.size w w'

theorem DecR.none_of {w w' : World} {zs : List Int} (h : Cb.dec false zs = none) (hb : Below w.heap.size w w') : DecR w (Cb.dec false zs) (.returned (.tuple #[.slice none 0 0, .int .i64 12])) w' := by
  rw [h]; exact ⟨rfl, hb⟩
theorem DecR.some_of {w w' : World} {zs x : List Int} {v : Value} (h : Cb.dec false zs = some x) (hm : MadeK 5 .u8 w w' x v) : DecR w (Cb.dec false zs) (.returned (.tuple #[v, .int .i64 0])) w' := by
  rw [h]; exact ⟨v, rfl, hm⟩
/-- cut ahead: the address as the walk spells it -/
theorem Nums.dropAt {k : IntKind} {w : World} {B : Nat} {a a' : Option Addr} {zs : List Int} (h : Nums k w B a zs) {i : Nat} (ha : i < zs.length → ∀ b o, a = some ⟨b, o, none⟩ → a' = some ⟨b, o + i, none⟩) : Nums k w B a' (zs.drop i) := fun hn => by
  have hi' : i < zs.length := by
    rcases Nat.lt_or_ge i zs.length with h1 | h1
    · exact h1
    · exact absurd (List.drop_eq_nil_of_le h1) hn
  obtain ⟨b, off, rfl, hb, hcell⟩ := h (by intro e; subst e; simp at hi')
  refine ⟨b, off + i, ha hi' b off rfl, hb, fun q c hj => ?_⟩
  rw [Nat.add_assoc]
  exact hcell (i + q) c (by rw [← hj, List.getElem?_drop])

set_option maxHeartbeats 4000000 in
theorem decode_any (a : Option Addr) (n c : Nat) (zs : List Int) (w : World) (hn : zs.length = n) (hc : n ≤ c) (hl : n ≤ 1000000) (hz : Bytes zs) (h1 : Nums .u8 w w.heap.size a zs) :
    Calls Tryd.prog 47 #[.slice a n c] w fun e w' => DecR w (Cb.dec false zs) e w' := by
  obtain ⟨i0, hi, hz0, hz1, hz2⟩ := info_parts byteInfo
  go_enter Tryd.func47, Tryd.ntmps47
  go_wp2
  refine wp_scope_jumps 0 (fun a' w' => Cb.dec false zs = none ∧ Below w.heap.size w w' ∧ a'.tmps.size = 64 ∧ a'.defers = []) (fun _ _ => 0) (by rfl) ?_ ?_
  · go_wp2
    refine wp_label ?_
    go_wp2
    go_loopw [4, 5, 6] (fun v l fl wr => ∃ (A : Option Addr) (L o : List Int) (m c : Nat) (f : Bool), l = .slice A m c ∧ fl = .bool f ∧ L.length = m ∧ m ≤ c ∧ m ≤ 1000000 ∧ o.length + m ≤ 2000000 ∧ Hid (Nums .u8 w w.heap.size A L) ∧ Hid (Bytes L) ∧ Hid (Cb.dec false zs = (Cb.dec f L).map (o ++ ·)) ∧ Hid (MadeK 5 .u8 w wr o v))
      (fun _ l _ _ => sliceLen l)
    case atStart => exact ⟨a, zs, [], n, c, false, rfl, rfl, hn, hc, hl, by simp; omega, h1, hz, by show _ = _; simp, MadeK.nil _ _ (Below.refl _ _)⟩
    case round =>
      obtain ⟨A, L, o, m, c, f, rfl, rfl, hm, hmc, hml, hom, HN, HZ, HD, HM⟩ := hrel
      have hbe := HM.out.2
      by_cases h0 : m = 0
      · obtain rfl : L = [] := List.length_eq_zero_iff.1 (by omega)
        have hd : Cb.dec false zs = none := by rw [HD.out, Cb.dec_nil]; rfl
        subst h0
        go_wp2
        go_step3
        exact (show _ ∧ _ from ⟨rfl, hd, hbe, rfl, rfl⟩)
      · obtain ⟨z, r, rfl⟩ : ∃ z r, L = z :: r := by
          cases L with
          | nil => exact absurd hm.symm h0
          | cons z r => exact ⟨z, r, rfl⟩
        have hzb := HZ.out z (by simp)
        obtain ⟨q, rfl⟩ : ∃ q : Nat, z = (q : Int) := ⟨z.toNat, by omega⟩
        obtain ⟨b1, o1, rfl, hb1, hc1⟩ := (HN.out.below hbe).open (j := 0) (c := (q : Int)) rfl
        rw [Nat.add_zero] at hc1
        have hm0 : ¬ ((m : Int) = 0) := by omega
        have hr : r.length + 1 = m := by simpa using hm
        by_cases hq0 : q = 0
        · subst hq0
          have hd : Cb.dec false zs = none := by rw [HD.out, Cb.dec_bad (.inl (by omega))]; rfl
          go_wp2
          go_step3
          exact (show _ ∧ _ from ⟨rfl, hd, hbe, rfl, rfl⟩)
        · have hq1 : ¬ ((q : Int) = 0) := by omega
          by_cases hqm : m < q
          · have hd : Cb.dec false zs = none := by rw [HD.out, Cb.dec_bad (.inr (by omega))]; rfl
            have hq2 : (m : Int) < (q : Int) := by omega
            go_wp2
            go_step3
            exact (show _ ∧ _ from ⟨rfl, hd, hbe, rfl, rfl⟩)
          · have hq2 : ¬ (m : Int) < (q : Int) := by omega
            obtain ⟨k, hk⟩ : ∃ k, q = k + 1 := ⟨q - 1, by omega⟩
            have hkr : k ≤ r.length := by omega
            have hbl : (r.take k).length = k := by rw [List.length_take]; omega
            have hq3 : (1 : Int) ≤ (q : Int) := by omega
            have hq4 : (q : Int) ≤ (c : Int) := by omega
            have hq5 : (q : Int) ≤ (m : Int) := by omega
            have hmc' : (m : Int) ≤ (c : Int) := by omega
            have hm00 : ((m : Int) == 0) = false := by rw [beq_eq_false_iff_ne]; exact hm0
            have hq00 : ((q : Int) == 0) = false := by rw [beq_eq_false_iff_ne]; exact hq1
            have HK := Lib.hid hk
            have hk1 : q - 1 = k := by omega
            clear hk
            have HQ : Hid (((q : Nat) : Int) = ((k + 1 : Nat) : Int)) := by show _ = _; rw [HK.out]
            have hkm : k + 1 ≤ m := by omega
            have hlo : k ≤ r.length := hkr
            have HX1 : Hid (o.length + k ≤ maxLen) := by show _ ≤ _; unfold maxLen; omega
            have HX2 : Hid ((o.length + k) * 1 ≤ 140737488355328) := by show _ ≤ _; omega
            have HX3 : Hid (w.heap.size ≤ wr.heap.size) := hbe.size
            by_cases hc1' : c = 1
            · subst hc1'
              have hNb : Nums .u8 wr w.heap.size (some ⟨b1, o1, none⟩) (r.take k) := by
                have h9 : r.take k = [] := List.length_eq_zero_iff.1 (by omega)
                rw [h9]; exact Nums.nil
              have HNb := Lib.hid hNb
              have hle := Cb.nz_le (r.take k)
              have I := index_any w.heap.size (some ⟨b1, o1, none⟩) k 0 (r.take k) wr hbl ((HZ.out.drop 1).take k) hNb
              have e1 : idx (r.take k) = -1 := by unfold idx; rw [if_neg (by omega)]
              rw [e1] at I
              clear hNb
              have hqm2 : q = m := by omega
              have h7 : (m : Int) - (q : Int) = 0 := by omega
              have HQM := Lib.hid hqm2
              clear hqm2
              by_cases hf : f = true ∧ k = 0
              · obtain ⟨rfl, hk0⟩ := hf
                have hd : Cb.dec false zs = none := by rw [HD.out, HQ.out, Cb.dec_last (by have := HQM.out; omega) (by omega), if_pos ⟨rfl, hk0⟩]; rfl
                have hk9 : (k : Int) = 0 := by omega
                clear hle HD HQ hk0
                go_wp2_with (first | (go_at_call 61; refine I.mono ?_; rintro e w1 ⟨rfl, rfl⟩) | (at_builtin; refine wpList_append_any rfl (.tmp 38) (.tmp 39) 29 rfl w.heap.size 5 i0 (.int .u8 0) 1 Tryd.underlying29 hi hz0 hz1 hz2 rfl .u8 o (r.take k) _ rfl HM.out.1 _ k _ _ rfl hbl HNb.out HX1.out HX2.out HX3.out ?_))
                intro v2 w2 hown hg
                have HM2 := Lib.hid (HM.out.more (zs := r.take k) (v' := v2) (by rw [hbl]; simpa using hown) hg)
                have hbe2 := HM2.out.2
                clear hown hg
                go_wp2
                all_goals go_step3
                all_goals exact (show _ ∧ _ from ⟨rfl, hd, hbe2, rfl, rfl⟩)
              · have hd : Hid (Cb.dec false zs = some (o ++ r.take k)) := by show _ = _; rw [HD.out, HQ.out, Cb.dec_last (by have := HQM.out; omega) (by omega), if_neg hf]; rfl
                clear HD HQ
                rcases Bool.eq_false_or_eq_true f with hf1 | hf1
                · have hk9 : ¬ (k : Int) = 0 := by have : ¬ k = 0 := fun e => hf ⟨hf1, e⟩; omega
                  have hk10 : ((k : Int) == 0) = false := by rw [beq_eq_false_iff_ne]; exact hk9
                  subst hf1
                  clear hle hf
                  go_wp2_with (first | (go_at_call 61; refine I.mono ?_; rintro e w1 ⟨rfl, rfl⟩) | (at_builtin; refine wpList_append_any rfl (.tmp 38) (.tmp 39) 29 rfl w.heap.size 5 i0 (.int .u8 0) 1 Tryd.underlying29 hi hz0 hz1 hz2 rfl .u8 o (r.take k) _ rfl HM.out.1 _ k _ _ rfl hbl HNb.out HX1.out HX2.out HX3.out ?_))
                  intro v2 w2 hown hg
                  have HM2 := Lib.hid (HM.out.more (zs := r.take k) (v' := v2) (by rw [hbl]; simpa using hown) hg)
                  clear hown hg
                  go_wp2
                  all_goals go_ret2
                  all_goals exact DecR.some_of hd.out HM2.out
                · subst hf1
                  clear hle hf
                  go_wp2_with (first | (go_at_call 61; refine I.mono ?_; rintro e w1 ⟨rfl, rfl⟩) | (at_builtin; refine wpList_append_any rfl (.tmp 38) (.tmp 39) 29 rfl w.heap.size 5 i0 (.int .u8 0) 1 Tryd.underlying29 hi hz0 hz1 hz2 rfl .u8 o (r.take k) _ rfl HM.out.1 _ k _ _ rfl hbl HNb.out HX1.out HX2.out HX3.out ?_))
                  intro v2 w2 hown hg
                  have HM2 := Lib.hid (HM.out.more (zs := r.take k) (v' := v2) (by rw [hbl]; simpa using hown) hg)
                  clear hown hg
                  go_wp2
                  all_goals go_ret2
                  all_goals exact DecR.some_of hd.out HM2.out
            · have hNb : Nums .u8 wr w.heap.size (some ⟨b1, o1 + 1, none⟩) (r.take k) := by
                have h9 := (HN.out.below hbe).dropAt (i := 1) (a' := some ⟨b1, o1 + 1, none⟩) (fun _ b o e => by injection e with e; injection e with e2 e3; subst e2 e3; rfl)
                exact h9.take k
              have HNb := Lib.hid hNb
              have hle := Cb.nz_le (r.take k)
              have I := index_any w.heap.size (some ⟨b1, o1 + 1, none⟩) k (c - 1) (r.take k) wr hbl ((HZ.out.drop 1).take k) hNb
              clear hNb
              by_cases hnz : Cb.nz (r.take k) < k
              · have e1 : idx (r.take k) = (Cb.nz (r.take k) : Int) := by unfold idx; rw [if_pos (by omega)]
                have hd : Cb.dec false zs = none := by rw [HD.out, HQ.out, Cb.dec_zero (by omega) hnz]; rfl
                rw [e1] at I
                have h0 : (0 : Int) ≤ (Cb.nz (r.take k) : Int) := by omega
                generalize Cb.nz (r.take k) = N at *
                clear hle hnz HD HQ
                go_wp2_with (go_at_call 61; refine I.mono ?_; rintro e w1 ⟨rfl, rfl⟩)
                go_step3
                exact (show _ ∧ _ from ⟨rfl, hd, hbe, rfl, rfl⟩)
              · have e1 : idx (r.take k) = -1 := by unfold idx; rw [if_neg (by omega)]
                rw [e1] at I
                by_cases hqm2 : q = m
                · have h7 : (m : Int) - (q : Int) = 0 := by omega
                  have HQM := Lib.hid hqm2
                  clear hqm2
                  by_cases hf : f = true ∧ k = 0
                  · obtain ⟨rfl, hk0⟩ := hf
                    have hd : Cb.dec false zs = none := by rw [HD.out, HQ.out, Cb.dec_last (by have := HQM.out; omega) (by omega), if_pos ⟨rfl, hk0⟩]; rfl
                    have hk9 : (k : Int) = 0 := by omega
                    clear hle HD HQ hk0
                    go_wp2_with (first | (go_at_call 61; refine I.mono ?_; rintro e w1 ⟨rfl, rfl⟩) | (at_builtin; refine wpList_append_any rfl (.tmp 38) (.tmp 39) 29 rfl w.heap.size 5 i0 (.int .u8 0) 1 Tryd.underlying29 hi hz0 hz1 hz2 rfl .u8 o (r.take k) _ rfl HM.out.1 _ k _ _ rfl hbl HNb.out HX1.out HX2.out HX3.out ?_))
                    intro v2 w2 hown hg
                    have HM2 := Lib.hid (HM.out.more (zs := r.take k) (v' := v2) (by rw [hbl]; simpa using hown) hg)
                    have hbe2 := HM2.out.2
                    clear hown hg
                    go_wp2
                    all_goals go_step3
                    all_goals exact (show _ ∧ _ from ⟨rfl, hd, hbe2, rfl, rfl⟩)
                  · have hd : Hid (Cb.dec false zs = some (o ++ r.take k)) := by show _ = _; rw [HD.out, HQ.out, Cb.dec_last (by have := HQM.out; omega) (by omega), if_neg hf]; rfl
                    clear HD HQ
                    rcases Bool.eq_false_or_eq_true f with hf1 | hf1
                    · have hk9 : ¬ (k : Int) = 0 := by have : ¬ k = 0 := fun e => hf ⟨hf1, e⟩; omega
                      have hk10 : ((k : Int) == 0) = false := by rw [beq_eq_false_iff_ne]; exact hk9
                      subst hf1
                      clear hle hf
                      go_wp2_with (first | (go_at_call 61; refine I.mono ?_; rintro e w1 ⟨rfl, rfl⟩) | (at_builtin; refine wpList_append_any rfl (.tmp 38) (.tmp 39) 29 rfl w.heap.size 5 i0 (.int .u8 0) 1 Tryd.underlying29 hi hz0 hz1 hz2 rfl .u8 o (r.take k) _ rfl HM.out.1 _ k _ _ rfl hbl HNb.out HX1.out HX2.out HX3.out ?_))
                      intro v2 w2 hown hg
                      have HM2 := Lib.hid (HM.out.more (zs := r.take k) (v' := v2) (by rw [hbl]; simpa using hown) hg)
                      clear hown hg
                      go_wp2
                      all_goals go_ret2
                      all_goals exact DecR.some_of hd.out HM2.out
                    · subst hf1
                      clear hle hf
                      go_wp2_with (first | (go_at_call 61; refine I.mono ?_; rintro e w1 ⟨rfl, rfl⟩) | (at_builtin; refine wpList_append_any rfl (.tmp 38) (.tmp 39) 29 rfl w.heap.size 5 i0 (.int .u8 0) 1 Tryd.underlying29 hi hz0 hz1 hz2 rfl .u8 o (r.take k) _ rfl HM.out.1 _ k _ _ rfl hbl HNb.out HX1.out HX2.out HX3.out ?_))
                      intro v2 w2 hown hg
                      have HM2 := Lib.hid (HM.out.more (zs := r.take k) (v' := v2) (by rw [hbl]; simpa using hown) hg)
                      clear hown hg
                      go_wp2
                      all_goals go_ret2
                      all_goals exact DecR.some_of hd.out HM2.out
                · have h7 : (0 : Int) < (m : Int) - (q : Int) := by omega
                  have hcq : c ≠ q := by omega
                  have hNd : Nums .u8 w w.heap.size (some ⟨b1, o1 + q, none⟩) (r.drop k) := by
                    have h9 := HN.out.dropAt (i := q) (a' := some ⟨b1, o1 + q, none⟩) (fun _ b o e => by injection e with e; injection e with e2 e3; subst e2 e3; rfl)
                    have h8 : ((q : Int) :: r).drop q = r.drop k := by rw [show q = k + 1 from HK.out]; rfl
                    rwa [h8] at h9
                  have HNd := Lib.hid hNd
                  clear hNd
                  by_cases hk254 : k = 254
                  · have hd : Hid (Cb.dec false zs = (Cb.dec true (r.drop k)).map ((o ++ r.take k) ++ ·)) := by
                      show _ = _
                      rw [HD.out, HQ.out, Cb.dec_more (by omega) (by omega), hk254, Option.map_map]
                      simp [Function.comp_def]
                    have hk9 : (k : Int) = 254 := by omega
                    have HK2 := Lib.hid hk254
                    clear hk254
                    have HL := Lib.hid (And.intro hr hkm)
                    clear hle hnz HD HQ
                    go_wp2_with (first | (go_at_call 61; refine I.mono ?_; rintro e w1 ⟨rfl, rfl⟩) | (at_builtin; refine wpList_append_any rfl (.tmp 38) (.tmp 39) 29 rfl w.heap.size 5 i0 (.int .u8 0) 1 Tryd.underlying29 hi hz0 hz1 hz2 rfl .u8 o (r.take k) _ rfl HM.out.1 _ k _ _ rfl hbl HNb.out HX1.out HX2.out HX3.out ?_))
                    intro v2 w2 hown hg
                    have HM2 := Lib.hid (HM.out.more (zs := r.take k) (v' := v2) (by rw [hbl]; simpa using hown) hg)
                    clear hown hg
                    go_wp2
                    go_roundw
                    case rel => exact ⟨_, r.drop k, o ++ r.take k, _, _, true, rfl, rfl, by rw [List.length_drop]; have := HK.out; omega, by omega, by omega, by rw [List.length_append, hbl]; have := HK.out; omega, HNd, (HZ.out.drop 1).drop k, hd, HM2⟩
                    case measure => simp [sliceLen]; omega
                  · have hd : Hid (Cb.dec false zs = (Cb.dec false (r.drop k)).map ((o ++ r.take k ++ [0]) ++ ·)) := by
                      show _ = _
                      rw [HD.out, HQ.out, Cb.dec_more (by omega) (by omega), Option.map_map]
                      simp [Function.comp_def, hk254]
                    have hk9 : ¬ (k : Int) = 254 := by omega
                    have hk10 : ((k : Int) == 254) = false := by rw [beq_eq_false_iff_ne]; exact hk9
                    have HL := Lib.hid (And.intro hr hkm)
                    have HZ0 := fun (W : World) => Lib.hid (Nums.new .u8 W 5 [0] #[.int .u8 0] rfl)
                    clear hle hnz HD HQ
                    go_wp2_with (first | (go_at_call 61; refine I.mono ?_; rintro e w1 ⟨rfl, rfl⟩) | (at_builtin; refine wpList_append_any rfl (.tmp 38) (.tmp 39) 29 rfl w.heap.size 5 i0 (.int .u8 0) 1 Tryd.underlying29 hi hz0 hz1 hz2 rfl .u8 o (r.take k) _ rfl HM.out.1 _ k _ _ rfl hbl HNb.out HX1.out HX2.out HX3.out ?_))
                    intro v2 w2 hown hg
                    have HM2 := Lib.hid (HM.out.more (zs := r.take k) (v' := v2) (by rw [hbl]; simpa using hown) hg)
                    have hb2 := HM2.out.2.size
                    clear hown hg
                    go_wp2_with (at_builtin; refine wpList_append_any rfl (.tmp 53) (.tmp 54) 29 rfl w.heap.size 5 i0 (.int .u8 0) 1 Tryd.underlying29 hi hz0 hz1 hz2 rfl .u8 (o ++ r.take k) [0] _ rfl (HM2.out.1.alloc _) _ 1 1 _ rfl rfl (HZ0 w2).out ?c1 ?c2 ?c3 ?_)
                    case c1 => rw [List.length_append, hbl]; unfold maxLen; omega
                    case c2 => rw [List.length_append, hbl]; omega
                    case c3 => rw [World.size_alloc]; omega
                    intro v3 w3 hown hg
                    have HM3 := Lib.hid (HM2.out.later (.cells #[.int .u8 0] 5) |>.more (zs := [0]) (v' := v3) (by simpa [Nat.min_eq_left hkr] using hown) hg)
                    clear hown hg
                    go_wp2
                    go_roundw
                    case rel => exact ⟨_, r.drop k, o ++ r.take k ++ [0], _, _, false, rfl, rfl, by rw [List.length_drop]; have := HK.out; omega, by omega, by omega, by rw [List.length_append, List.length_append, hbl]; have := HK.out; simp only [List.length_singleton]; omega, HNd, (HZ.out.drop 1).drop k, hd, HM3⟩
                    case measure => simp [sliceLen]; omega
  · rintro ⟨t, ds⟩ w' ⟨hd, hb, ht, rfl⟩
    simp only at ht
    go_wp2
    simp only [Exit.jump]
    refine bodyPost_ret (v := .tuple #[.slice none 0 0, .int .i64 12]) (by simp [results, Tryd.f47, go_sem, ht]) rfl ?_
    exact DecR.none_of hd hb
end Go.Proofs.YtbohdmconeebeaaDoor

namespace Go.Proofs.YtbohdmconeebeaaDoor
open Go.RowKit
set_option maxRecDepth 100000

theorem same_lens (a1 a2 : Option Addr) (n1 n2 c1 c2 : Nat) (w : World) (h : n1 ≠ n2) :
    Calls Tryd.prog 16 #[.slice a1 n1 c1, .slice a2 n2 c2] w fun e w' => e = .returned (.bool false) ∧ ∃ n, w' = w.drewN n := by
  have h2 : ((n1 : Int) != (n2 : Int)) = true := by simp; omega
  have h3 : ¬ (n1 : Int) = (n2 : Int) := by omega
  go_enter Tryd.func16, Tryd.ntmps16
  go_wp2
  go_ret
  exact ⟨rfl, 0, rfl⟩

/-- Same of any two lists -/
theorem same_any (B : Nat) (a1 a2 : Option Addr) (n1 n2 c1 c2 : Nat) (xs ys : List Int) (w : World) (e1 : xs.length = n1) (e2 : ys.length = n2) (l1 : n1 ≤ 9223372036854775807) (h1 : Nums .u8 w B a1 xs) (h2 : Nums .u8 w B a2 ys) :
    Calls Tryd.prog 16 #[.slice a1 n1 c1, .slice a2 n2 c2] w fun e w' => e = .returned (.bool (decide (xs = ys))) ∧ ∃ n, w' = w.drewN n := by
  by_cases hl : n1 = n2
  · subst hl
    have HE1 := Lib.hid e1
    have HE2 := Lib.hid e2
    clear e1 e2
    go_enter Tryd.func16, Tryd.ntmps16
    go_wp2
    go_loopw [5] (fun i wr => ∃ k : Nat, k ≤ n1 ∧ i = .int .i64 k ∧ Hid (xs.take k = ys.take k) ∧ ∃ n, wr = w.drewN n) (fun i _ => n1 - (intOf i).toNat)
    case atStart => exact ⟨0, by omega, rfl, rfl, 0, rfl⟩
    case round =>
      obtain ⟨k, hk, rfl, HT, n, rfl⟩ := hrel
      by_cases hlt : k < n1
      · obtain ⟨x, hx⟩ : ∃ x, xs[k]? = some x := ⟨_, List.getElem?_eq_getElem (by rw [HE1.out]; exact hlt)⟩
        obtain ⟨y, hy⟩ : ∃ y, ys[k]? = some y := ⟨_, List.getElem?_eq_getElem (by rw [HE2.out]; exact hlt)⟩
        obtain ⟨b1, o1, rfl, hb1, hc1⟩ := h1.open hx
        obtain ⟨b2, o2, rfl, hb2, hc2⟩ := h2.open hy
        have HX := Lib.hid hx
        have HY := Lib.hid hy
        clear h1 h2 hx hy
        have hlt' : (k : Int) < (n1 : Int) := by omega
        by_cases hxy : x = y
        · have hq : (x != y) = false := by simp [hxy]
          have HQ : Hid (xs.take (k + 1) = ys.take (k + 1)) := by
            show _ = _
            rw [List.take_add_one, List.take_add_one, HT.out, HX.out, HY.out, hxy]
          subst hxy
          go_wp2
          go_quiet (fail)
          go_wp2
          go_roundw
          case rel => exact ⟨k + 1, by omega, by go_num, HQ, _, rfl⟩
          case measure => simp [intOf]; omega
        · have hq : (x != y) = true := by simp [hxy]
          have HQ : Hid (¬ xs = ys) := fun e => hxy (by
            have h3 := HX.out
            rw [e, HY.out] at h3
            exact (Option.some.inj h3).symm)
          have HN := Lib.hid hxy
          clear hxy
          go_wp2
          go_quiet (fail)
          go_wp2
          go_ret
          exact ⟨by rw [decide_eq_false HQ.out]; rfl, n + nq, by simp [World.drewN, Nat.add_assoc]⟩
      · have hk' : k = n1 := by omega
        have HQ : Hid (xs = ys) := by
          have h3 := HT.out
          rw [List.take_of_length_le (by rw [HE1.out]; omega), List.take_of_length_le (by rw [HE2.out]; omega)] at h3
          exact h3
        go_wp2
        go_ret
        exact ⟨by rw [decide_eq_true HQ.out]; rfl, n, rfl⟩
  · refine (same_lens a1 a2 n1 n2 c1 c2 w hl).mono ?_
    rintro e w' ⟨rfl, hd⟩
    exact ⟨by rw [decide_eq_false (fun e => hl (by rw [← e1, ← e2, e]))], hd⟩
end Go.Proofs.YtbohdmconeebeaaDoor

namespace Go.Proofs.YtbohdmconeebeaaDoor
open Go.RowKit
set_option maxRecDepth 100000

theorem most_any (n : Nat) (w : World) (hl : n ≤ 1000000000) :
    Calls Tryd.prog 43 #[.int .i64 n] w fun e w' => e = .returned (.int .i64 ((n + max 1 ((n + 253) / 254) : Nat) : Int)) ∧ w' = w := by
  have h0 : ¬ (n : Int) < 0 := by omega
  go_enter Tryd.func43, Tryd.ntmps43
  go_wp2
  go_ret
  exact ⟨ret_int (by omega), rfl⟩
theorem most_neg (n : Int) (w : World) (hl : n < 0) :
    Calls Tryd.prog 43 #[.int .i64 n] w fun e w' => e = .returned (.int .i64 0) ∧ w' = w := by
  go_enter Tryd.func43, Tryd.ntmps43
  go_wp2
  go_ret
  exact ⟨rfl, rfl⟩

theorem enc0 : Cb.enc [] = [1] := by rw [Cb.enc_last (fun c hc => by simp at hc) (by simp)]; rfl
theorem enc1 : Cb.enc [0] = [1, 1] := by
  rw [show ([0] : List Int) = [] ++ 0 :: [] from rfl, Cb.enc_nought (fun c hc => by simp at hc) (by simp), enc0]; rfl
theorem enc3 : Cb.enc [5, 0, 6] = [2, 5, 2, 6] := by
  rw [show ([5, 0, 6] : List Int) = [5] ++ 0 :: [6] from rfl, Cb.enc_nought (fun c hc => by simp at hc; omega) (by simp), Cb.enc_last (fun c hc => by simp at hc; omega) (by simp)]; rfl

end Go.Proofs.YtbohdmconeebeaaDoor

namespace Go.Proofs.YtbohdmconeebeaaDoor
open Go.RowKit
set_option maxRecDepth 100000

/-- so many bytes on the wire -/
def wireZ (n : Int) : Int := if n < 1 ∨ 242 < n then 0 else n + 15
def roomZ (m : Int) : Int := if m < 16 then 0 else if m - 15 < 242 then m - 15 else 242
theorem wire_any (n : Int) (w : World) : Calls Tryd.prog 28 #[.int .i64 n] w fun e w' => e = .returned (.int .i64 (wireZ n)) ∧ w' = w := by
  by_cases h1 : n < 1
  · have hz : wireZ n = 0 := by unfold wireZ; rw [if_pos (.inl h1)]
    rw [hz]
    clear hz
    go_enter Tryd.func28, Tryd.ntmps28
    go_wp2
    go_ret
    exact ⟨rfl, rfl⟩
  · by_cases h2 : 242 < n
    · have hz : wireZ n = 0 := by unfold wireZ; rw [if_pos (.inr h2)]
      rw [hz]
      clear hz
      go_enter Tryd.func28, Tryd.ntmps28
      go_wp2
      go_ret
      exact ⟨rfl, rfl⟩
    · have hz : wireZ n = n + 15 := by unfold wireZ; rw [if_neg (by omega)]
      rw [hz]
      clear hz
      obtain ⟨m, rfl⟩ : ∃ m : Nat, n = (m : Int) := ⟨n.toNat, by omega⟩
      have hm : m + 12 + max 1 ((m + 12 + 253) / 254) = m + 13 := by omega
      have K := most_any (m + 12) w (by omega)
      rw [hm] at K
      clear hm
      go_enter Tryd.func28, Tryd.ntmps28
      go_wp2_with fail
      refine K.mono ?_
      rintro e w1 ⟨rfl, rfl⟩
      clear K
      go_wp2
      go_ret
      refine ⟨ret_int ?_, rfl⟩
      push_cast
      omega
theorem room_any (m : Int) (hm : m ≤ 9223372036854775807) (w : World) : Calls Tryd.prog 29 #[.int .i64 m] w fun e w' => e = .returned (.int .i64 (roomZ m)) ∧ w' = w := by
  have K := wire_any 1 w
  rw [show wireZ 1 = 16 from rfl] at K
  by_cases h1 : m < 16
  · have hz : roomZ m = 0 := by unfold roomZ; rw [if_pos h1]
    rw [hz]
    clear hz
    go_enter Tryd.func29, Tryd.ntmps29
    go_wp2_with fail
    refine K.mono ?_
    rintro e w1 ⟨rfl, rfl⟩
    clear K
    go_wp2
    go_ret
    exact ⟨rfl, rfl⟩
  · by_cases h2 : m - 15 < 242
    · have hz : roomZ m = m - 15 := by unfold roomZ; rw [if_neg h1, if_pos h2]
      rw [hz]
      have h3 : ¬ 242 < m - 16 + 1 := by omega
      clear hz
      go_enter Tryd.func29, Tryd.ntmps29
      go_wp2_with fail
      refine K.mono ?_
      rintro e w1 ⟨rfl, rfl⟩
      clear K
      go_wp2
      go_ret
      refine ⟨ret_int ?_, rfl⟩
      omega
    · have hz : roomZ m = 242 := by unfold roomZ; rw [if_neg h1, if_neg h2]
      rw [hz]
      clear hz
      go_enter Tryd.func29, Tryd.ntmps29
      go_wp2_with fail
      refine K.mono ?_
      rintro e w1 ⟨rfl, rfl⟩
      clear K
      go_wp2
      go_ret
      refine ⟨ret_int ?_, rfl⟩
      omega
end Go.Proofs.YtbohdmconeebeaaDoor

namespace Go.Proofs.YtbohdmconeebeaaDoor
open Go.RowKit Go.Shelf
set_option maxRecDepth 100000
attribute [local go_sem] Oper.semAt_some

/-- the frame of the chapter's examples -/
def fr7 (b : Nat) : Fr := ⟨1, 1, 0, 0, 1, some ⟨b, 0, none⟩, 1, [7]⟩
theorem fr7_chk (b : Nat) : (fr7 b).chk = 0 := rfl
theorem fr7_wrap (b : Nat) : (Fc.wrap ([fr7 b].map Fr.seg)).length = 16 := by
  have h := Fr.seg_len (fr7_chk b)
  rw [List.map_cons, List.map_nil, Fc.wrap_one]
  simp only [List.length_append, List.length_singleton, h]
  rfl
/-- what the slots hold whose values are known by what they are good for -/
def FRk (b : Nat) (q : Tmp) (x : Value) (W : World) : Prop :=
  if q = 8 then ∃ c, x = .pointer (some ⟨c, 0, none⟩) ∧ CodAt W W.heap.size c
  else if q = 10 then ∃ a, x = .slice a 1 1 ∧ FrsAt W W.heap.size a [fr7 b]
  else if q = 11 ∨ q = 7 then ∃ A c, x = .tuple #[.slice A 16 c, .int .i64 0]
  else if q = 12 ∨ q = 2 then ∃ A c, x = .slice A 16 c
  else x = .int .i64 0
theorem FRk.later {b : Nat} {q : Tmp} {x : Value} {W W' : World} (hh : FRk b q x W) (hb : Below W.heap.size W W') : FRk b q x W' := by
  unfold FRk at *
  split
  · rename_i h1
    rw [if_pos h1] at hh
    obtain ⟨c, e, hg⟩ := hh
    exact ⟨c, e, (hg.below hb).mono hb.size⟩
  · rename_i h1
    rw [if_neg h1] at hh
    split
    · rename_i h2
      rw [if_pos h2] at hh
      obtain ⟨a, e, hg⟩ := hh
      exact ⟨a, e, (hg.below hb).mono hb.size⟩
    · rename_i h2
      rw [if_neg h2] at hh
      exact hh

set_option maxHeartbeats 4000000 in
theorem fknown_any (w : World) : Calls Tryd.prog 14 #[] w fun e w' => e = .returned (.bool true) ∧ Below w.heap.size w w' := by
  obtain ⟨w1, hw1⟩ : ∃ w1, (w.alloc (.cells #[.int .u8 7] 5)).alloc (.cells #[.int .i64 1, .int .i64 1, .int .u32 0, .int .i64 0, .int .i64 1, .slice (some ⟨w.heap.size, 0, none⟩) 1 1] 31) = w1 := ⟨_, rfl⟩
  have hb1 : Below w.heap.size w w1 := by rw [← hw1]; exact ((Below.refl _ w).alloc (Nat.le_refl _) _).alloc (by simp) _
  have hs1 : w1.heap.size = w.heap.size + 2 := by rw [← hw1]; simp
  have hbox : w1.heap[w.heap.size + 1]? = some (.cells (frC 1 1 0 0 1 (.slice (some ⟨w.heap.size, 0, none⟩) 1 1)) 31 (0, 0)) := by
    rw [← hw1]
    have := World.alloc_heap_new (w.alloc (.cells #[.int .u8 7] 5)) (.cells (frC 1 1 0 0 1 (.slice (some ⟨w.heap.size, 0, none⟩) 1 1)) 31)
    rwa [World.size_alloc] at this
  have hpay : Nums .u8 w1 w1.heap.size (some ⟨w.heap.size, 0, none⟩) [7] := by
    rw [← hw1]
    exact ((Nums.new .u8 w 5 [7] #[.int .u8 7] rfl).below ((Below.refl (w.heap.size + 1) _).alloc (by simp) _)).mono (by simp)
  have hload : ∀ W, Below w1.heap.size w1 W → (Instr.loadAt 31 (.pointer (some ⟨w.heap.size + 1, 0, none⟩))).run Tryd.prog W = .ok (.agg (frC 1 1 0 0 1 (.slice (some ⟨w.heap.size, 0, none⟩) 1 1))) W := fun W hW => by
    obtain ⟨d0, d1, d2, d3, d4, d5⟩ := fr_block ((hW.block _ (by omega)).trans hbox)
    simp [Instr.loadAt, go_sem, d0, d1, d2, d3, d4, d5, frC]
  have HW1 := Lib.hid hw1
  have HB1 := Lib.hid hb1
  clear hw1 hb1
  go_enter Tryd.func14, Tryd.ntmps14
  go_wp2
  rw [HW1.out]
  refine wp_region_F 37 [8, 10, 11, 7, 12, 13, 2, 3] (FRk w.heap.size) (fun W => Below w1.heap.size w1 W) (by kernel_rfl) (by kernel_rfl) (by rfl) (by simp) (fun W W' h hb => h.trans (hb.mono h.size)) (fun q x W W' h hb => h.later hb) (Below.refl _ _).drew ?_
  refine wpF_callsrc 8 (f := 4) (args := #[]) (by simp) rfl rfl rfl (fun x => by first | rfl | (simp [go_sem]; done)) (fun W hW => (fnew_any W).mono fun e W' ⟨he, hc, hb, _⟩ => ⟨_, he, by unfold FRk; rw [if_pos rfl]; exact ⟨_, rfl, hc⟩, hb⟩) ?_
  simp only [Act.put, List.setIfInBounds_toArray, List.set_cons_succ, List.set_cons_zero]
  refine wpF_load (.agg (frC 1 1 0 0 1 (.slice (some ⟨w.heap.size, 0, none⟩) 1 1))) rfl (by rfl) (by rfl) (by rfl) hload ?_
  simp only [Act.put, List.setIfInBounds_toArray, List.set_cons_succ, List.set_cons_zero]
  refine wpF_src 10 (by simp) rfl rfl rfl (fun W hW => ⟨.slice (some ⟨W.heap.size, 0, none⟩) 1 1, W.alloc (.cells (fr7 w.heap.size).cs 31), ?_, ?_, (Below.refl _ _).alloc (Nat.le_refl _) _⟩) ?_
  · simp [go_sem, frC, fr7, Fr.cs]
  · unfold FRk
    rw [if_neg (by decide), if_pos rfl]
    have hB := hW.trans ((Below.refl W.heap.size W).alloc (Nat.le_refl _) (.cells (fr7 w.heap.size).cs 31) |>.mono hW.size)
    refine ⟨_, rfl, fun f hf => ?_, fun j f hj => ?_⟩
    · obtain rfl : f = fr7 w.heap.size := by simpa using hf
      exact ⟨Int.le_refl 0, show (0 : Int) ≤ 4294967295 by decide, Nat.le_refl 1, show 1 ≤ 9223372036854775807 by decide, (fun z hz => by
        obtain rfl : z = 7 := by simpa [fr7] using hz
        decide : Bytes [7]), (hpay.below hB).mono hB.size⟩
    · rcases j with _ | j
      · obtain rfl : fr7 w.heap.size = f := by simpa using hj
        refine ⟨W.heap.size, 0, rfl, by simp, fun q u hq => ?_⟩
        rw [World.cell?_alloc_at _ _ _ _ rfl]
        simpa using hq
      · simp at hj
  simp only [Act.put, List.setIfInBounds_toArray, List.set_cons_succ, List.set_cons_zero]
  refine wpF_mixcall 11 [8, 10] (f := 13) (fun xs => #[xs 8, xs 10]) (by simp) rfl (by kernel_rfl) (by kernel_rfl) (fun xs => by rfl) (fun xs W => by first | rfl | (simp [fill, Act.put, Act.eval, go_sem]; done)) (fun xs W hW hx => ?_) ?_
  · have h8 := hx 8 (by simp)
    have h10 := hx 10 (by simp)
    unfold FRk at h8 h10
    rw [if_pos rfl] at h8
    rw [if_neg (by decide), if_pos rfl] at h10
    obtain ⟨c, e8, hc⟩ := h8
    obtain ⟨a, e10, ha⟩ := h10
    rw [e8, e10]
    refine (fpack_any c a 1 1 [fr7 w.heap.size] W hc rfl (Nat.le_refl _) (by decide) ha).mono fun e W' hr => ?_
    rcases hr with ⟨h, _⟩ | ⟨_, v, he, hm⟩
    · exact absurd rfl h
    · obtain ⟨A, cc, rfl, _, _⟩ := hm.slice
      rw [fr7_wrap] at he
      exact ⟨_, he, by unfold FRk; rw [if_neg (by decide), if_neg (by decide), if_pos (by decide)]; exact ⟨A, cc, rfl⟩, hm.2⟩
  simp only [Act.put, List.setIfInBounds_toArray, List.set_cons_succ, List.set_cons_zero]
  refine wpF_mix 7 [11] (by simp) rfl (by kernel_rfl) (by kernel_rfl) (fun xs => by rfl) (fun xs W hW hx => ⟨xs 11, W, ?_, ?_, Below.refl _ _⟩) ?_
  · simp [execOp, fill, Act.put, Act.eval, go_sem]
  · have := hx 11 (by simp)
    unfold FRk at this ⊢
    simpa using this
  simp only [Act.put, List.setIfInBounds_toArray, List.set_cons_succ, List.set_cons_zero]
  refine wpF_mix 12 [7] (by simp) rfl (by kernel_rfl) (by kernel_rfl) (fun xs => by rfl) (fun xs W hW hx => ?_) ?_
  · have := hx 7 (by simp)
    unfold FRk at this
    rw [if_neg (by decide), if_neg (by decide), if_pos (by decide)] at this
    obtain ⟨A, c, e7⟩ := this
    refine ⟨.slice A 16 c, W, ?_, ?_, Below.refl _ _⟩
    · simp [execOp, fill, Act.put, Act.eval, e7, go_sem]
    · unfold FRk; rw [if_neg (by decide), if_neg (by decide), if_neg (by decide), if_pos (by decide)]; exact ⟨A, c, rfl⟩
  simp only [Act.put, List.setIfInBounds_toArray, List.set_cons_succ, List.set_cons_zero]
  refine wpF_mix 13 [7] (by simp) rfl (by kernel_rfl) (by kernel_rfl) (fun xs => by rfl) (fun xs W hW hx => ?_) ?_
  · have := hx 7 (by simp)
    unfold FRk at this
    rw [if_neg (by decide), if_neg (by decide), if_pos (by decide)] at this
    obtain ⟨A, c, e7⟩ := this
    refine ⟨.int .i64 0, W, ?_, ?_, Below.refl _ _⟩
    · simp [execOp, fill, Act.put, Act.eval, e7, go_sem]
    · unfold FRk; rw [if_neg (by decide), if_neg (by decide), if_neg (by decide), if_neg (by decide)]
  simp only [Act.put, List.setIfInBounds_toArray, List.set_cons_succ, List.set_cons_zero]
  refine wpF_mix 2 [12] (by simp) rfl (by kernel_rfl) (by kernel_rfl) (fun xs => by rfl) (fun xs W hW hx => ⟨xs 12, W, ?_, ?_, Below.refl _ _⟩) ?_
  · simp [execOp, fill, Act.put, Act.eval, go_sem]
  · have := hx 12 (by simp)
    unfold FRk at this ⊢
    simpa using this
  simp only [Act.put, List.setIfInBounds_toArray, List.set_cons_succ, List.set_cons_zero]
  refine wpF_mix 3 [13] (by simp) rfl (by kernel_rfl) (by kernel_rfl) (fun xs => by rfl) (fun xs W hW hx => ⟨xs 13, W, ?_, ?_, Below.refl _ _⟩) ?_
  · simp [execOp, fill, Act.put, Act.eval, go_sem]
  · have := hx 13 (by simp)
    unfold FRk at this ⊢
    simpa using this
  simp only [Act.put, List.setIfInBounds_toArray, List.set_cons_succ, List.set_cons_zero]
  intro xs W hW hx
  have h2 := hx 2 (by simp)
  have h3 := hx 3 (by simp)
  unfold FRk at h2 h3
  rw [if_neg (by decide), if_neg (by decide), if_neg (by decide), if_pos (by decide)] at h2
  rw [if_neg (by decide), if_neg (by decide), if_neg (by decide), if_neg (by decide)] at h3
  obtain ⟨A, c, e2⟩ := h2
  simp only [fill, Act.put, List.setIfInBounds_toArray, List.set_cons_succ, List.set_cons_zero]
  rw [e2, h3]
  have HF := Lib.hid (HB1.out.trans (hW.mono HB1.out.size))
  clear hx e2 h3 hload hpay hbox hs1
  generalize xs 8 = x8
  generalize xs 10 = x10
  generalize xs 11 = x11
  generalize xs 7 = x7
  generalize xs 12 = x12
  generalize xs 13 = x13
  go_wp2_with fail
  refine (wire_any 1 _).mono ?_
  rintro e w2 ⟨rfl, rfl⟩
  rw [show wireZ 1 = 16 from rfl]
  go_wp2_with fail
  refine (room_any 16 (by decide) _).mono ?_
  rintro e w2 ⟨rfl, rfl⟩
  rw [show roomZ 16 = 1 from rfl]
  go_wp2_with fail
  refine (room_any 257 (by decide) _).mono ?_
  rintro e w2 ⟨rfl, rfl⟩
  rw [show roomZ 257 = 242 from rfl]
  go_wp2_with fail
  refine (room_any 15 (by decide) _).mono ?_
  rintro e w2 ⟨rfl, rfl⟩
  rw [show roomZ 15 = 0 from rfl]
  go_wp2
  go_ret
  exact ⟨rfl, HF.out⟩
end Go.Proofs.YtbohdmconeebeaaDoor

namespace Go.Proofs.YtbohdmconeebeaaDoor
open Go.RowKit Go.Shelf
set_option maxRecDepth 100000
attribute [local go_sem] Oper.semAt_some

/-- are frames the same -/
def sameZ (v k s i c v' k' s' i' c' : Int) (xs ys : List Int) : Bool := decide (v = v' ∧ k = k' ∧ s = s' ∧ i = i' ∧ c = c' ∧ xs = ys)
theorem ret_bool {a b : Bool} (h : a = b) : Ending.returned (.bool a) = Ending.returned (.bool b) := by rw [h]
theorem two_frames {w w0 : World} {v k s i c v' k' s' i' c' : Int} {p p' : Value} {t : TypeId} (hw : (w.alloc (.cells (frC v k s i c p) t)).alloc (.cells (frC v' k' s' i' c' p') t) = w0) :
    Below w.heap.size w w0 ∧ w0.heap[w.heap.size]? = some (.cells (frC v k s i c p) t (0, 0)) ∧ w0.heap[w.heap.size + 1]? = some (.cells (frC v' k' s' i' c' p') t (0, 0)) := by
  subst hw
  refine ⟨((Below.refl _ w).alloc (Nat.le_refl _) _).alloc (by simp) _, ?_, ?_⟩
  · exact (Below.heap_alloc _ _ _ (by simp)).trans (World.alloc_heap_new _ _)
  · have := World.alloc_heap_new (w.alloc (.cells (frC v k s i c p) t)) (.cells (frC v' k' s' i' c' p') t)
    rwa [World.size_alloc] at this

set_option maxHeartbeats 2000000 in
theorem fsame_any (v k s i c v' k' s' i' c' : Int) (B : Nat) (A A' : Option Addr) (n cp n' cp' : Nat) (xs ys : List Int) (w : World) (hn : xs.length = n) (hn' : ys.length = n') (hB : B ≤ w.heap.size) (hx : Bytes xs) (hy : Bytes ys) (h1 : Nums .u8 w B A xs) (h2 : Nums .u8 w B A' ys) :
    Calls Tryd.prog 9 #[frV v k s i c (.slice A n cp), frV v' k' s' i' c' (.slice A' n' cp')] w fun e w' => e = .returned (.bool (sameZ v k s i c v' k' s' i' c' xs ys)) ∧ Below w.heap.size w w' := by
  obtain ⟨w0, hw⟩ : ∃ w0, (w.alloc (.cells (frC v k s i c (.slice A n cp)) 31)).alloc (.cells (frC v' k' s' i' c' (.slice A' n' cp')) 31) = w0 := ⟨_, rfl⟩
  obtain ⟨hb, q1, q2⟩ := two_frames hw
  obtain ⟨d0, d1, d2, d3, d4, d5⟩ := fr_block q1
  obtain ⟨e0, e1, e2, e3, e4, e5⟩ := fr_block q2
  have hb' := hb.mono hB
  have K := equal_any B A A' n cp n' cp' xs ys w0 hn hn' hx hy (h1.below hb') (h2.below hb')
  have HW := Lib.hid hw
  have HB := Lib.hid hb
  unfold frV
  have HF1 : Hid (frC v k s i c (.slice A n cp) = #[.int .i64 v, .int .i64 k, .int .u32 s, .int .i64 i, .int .i64 c, .slice A n cp]) := rfl
  have HF2 : Hid (frC v' k' s' i' c' (.slice A' n' cp') = #[.int .i64 v', .int .i64 k', .int .u32 s', .int .i64 i', .int .i64 c', .slice A' n' cp']) := rfl
  clear hw q1 q2 hb hb' h1 h2
  by_cases hh : v = v' ∧ k = k' ∧ s = s' ∧ i = i' ∧ c = c'
  · obtain ⟨rfl, rfl, rfl, rfl, rfl⟩ := hh
    have hz : sameZ v k s i c v k s i c xs ys = decide (xs = ys) := by simp [sameZ]
    rw [hz]
    clear hz
    rw [HF1.out, HF2.out] at HW ⊢
    go_enter Tryd.func9, Tryd.ntmps9
    go_wp2_with fail
    rw [HW.out]
    go_wp2_with fail
    refine K.mono ?_
    rintro e w1 ⟨rfl, rfl⟩
    go_wp2
    go_ret
    exact ⟨rfl, HB.out⟩
  · have hz : sameZ v k s i c v' k' s' i' c' xs ys = false := by
      unfold sameZ
      rw [decide_eq_false_iff_not]
      rintro ⟨rfl, rfl, rfl, rfl, rfl, _⟩
      exact hh ⟨rfl, rfl, rfl, rfl, rfl⟩
    rw [hz]
    have HH := Lib.hid hh
    clear hz hh K
    rw [HF1.out, HF2.out]
    clear HF1 HF2 HW HB
    go_enter Tryd.func9, Tryd.ntmps9
    go_wp2_with (exact absurd ⟨by assumption, by assumption, by assumption, by assumption, by assumption⟩ HH.out)
    all_goals
      go_ret
      exact ⟨rfl, ((Below.refl _ w).alloc (Nat.le_refl _) _).alloc (by simp) _⟩

set_option maxHeartbeats 2000000 in
theorem rfsame_any (v k s i c v' k' s' i' c' : Int) (B : Nat) (A A' : Option Addr) (n cp n' cp' : Nat) (xs ys : List Int) (w : World) (hn : xs.length = n) (hn' : ys.length = n') (hl : n ≤ 9223372036854775807) (hB : B ≤ w.heap.size) (h1 : Nums .u8 w B A xs) (h2 : Nums .u8 w B A' ys) :
    Calls Tryd.prog 12 #[frV v k s i c (.slice A n cp), frV v' k' s' i' c' (.slice A' n' cp')] w fun e w' => e = .returned (.bool (sameZ v k s i c v' k' s' i' c' xs ys)) ∧ Below w.heap.size w w' := by
  obtain ⟨w0, hw⟩ : ∃ w0, (w.alloc (.cells (frC v k s i c (.slice A n cp)) 35)).alloc (.cells (frC v' k' s' i' c' (.slice A' n' cp')) 35) = w0 := ⟨_, rfl⟩
  obtain ⟨hb, q1, q2⟩ := two_frames hw
  obtain ⟨d0, d1, d2, d3, d4, d5⟩ := fr_block q1
  obtain ⟨e0, e1, e2, e3, e4, e5⟩ := fr_block q2
  have hb' := hb.mono hB
  have K := same_any B A A' n n' cp cp' xs ys w0 hn hn' hl (h1.below hb') (h2.below hb')
  have HW := Lib.hid hw
  have HB := Lib.hid hb
  unfold frV
  have HF1 : Hid (frC v k s i c (.slice A n cp) = #[.int .i64 v, .int .i64 k, .int .u32 s, .int .i64 i, .int .i64 c, .slice A n cp]) := rfl
  have HF2 : Hid (frC v' k' s' i' c' (.slice A' n' cp') = #[.int .i64 v', .int .i64 k', .int .u32 s', .int .i64 i', .int .i64 c', .slice A' n' cp']) := rfl
  clear hw q1 q2 hb hb' h1 h2
  by_cases hh : v = v' ∧ k = k' ∧ s = s' ∧ i = i' ∧ c = c'
  · obtain ⟨rfl, rfl, rfl, rfl, rfl⟩ := hh
    have hz : sameZ v k s i c v k s i c xs ys = decide (xs = ys) := by simp [sameZ]
    rw [hz]
    clear hz
    rw [HF1.out, HF2.out] at HW ⊢
    go_enter Tryd.func12, Tryd.ntmps12
    go_wp2_with fail
    rw [HW.out]
    go_wp2_with fail
    refine K.mono ?_
    rintro e w1 ⟨rfl, m, hm⟩
    have HB2 : Hid (Below w.heap.size w w1) := by rw [hm]; exact below_drewN HB.out m
    clear hm
    go_wp2
    go_ret
    exact ⟨rfl, HB2.out⟩
  · have hz : sameZ v k s i c v' k' s' i' c' xs ys = false := by
      unfold sameZ
      rw [decide_eq_false_iff_not]
      rintro ⟨rfl, rfl, rfl, rfl, rfl, _⟩
      exact hh ⟨rfl, rfl, rfl, rfl, rfl⟩
    rw [hz]
    have HH := Lib.hid hh
    clear hz hh K
    rw [HF1.out, HF2.out]
    clear HF1 HF2 HW HB
    go_enter Tryd.func12, Tryd.ntmps12
    go_wp2_with (exact absurd ⟨by assumption, by assumption, by assumption, by assumption, by assumption⟩ HH.out)
    all_goals
      go_ret
      exact ⟨rfl, ((Below.refl _ w).alloc (Nat.le_refl _) _).alloc (by simp) _⟩
end Go.Proofs.YtbohdmconeebeaaDoor

namespace Go.Proofs.YtbohdmconeebeaaDoor
open Go.ChangeShapes Go.WideShapes Go.RowKit
set_option maxRecDepth 100000

section
variable {H : Type} {enc : TypeId × Value → H} {w : World} {base : Nat} {spare : Nat → Bool} {held : Bool}
theorem open_head {r : Reach} {b0 : Nat} {x : Value} {d : DataW H} {p : List MemPlace} (hv : Value.okWide Tryd.prog w r b0 28 x) (h : DataW.Trod enc Tryd.prog w base spare held 28 x d p) :
    ∃ v k s i c : Int, x = hdV v k s i c ∧ (Lit.int .i64 v).wf = true ∧ (Lit.int .i64 k).wf = true ∧ (Lit.int .u32 s).wf = true ∧ (Lit.int .i64 i).wf = true ∧ (Lit.int .i64 c).wf = true := by
  obtain ⟨⟨cs⟩, rfl, hsz⟩ := okWide_struct Tryd.underlying28 hv
  have h5 : Tryd.prog.cellsOf 28 = 5 := by kernel_rfl
  rw [h5] at hsz
  obtain ⟨fuel, hf⟩ := h
  obtain ⟨xs, n, _, _, _, hlen, hg⟩ := DataW.trod_struct Tryd.underlying28 hf
  have one : ∀ (t : TypeId) (q : Nat) (kd : IntKind), Tryd.prog.underlying t = some (.int kd) → q < xs.length → DataW.trod enc Tryd.prog w base spare held n t ((cs.drop q).take 1) = xs[q]? → ∃ z, cs[q]? = some (.int kd z) ∧ (Lit.int kd z).wf = true := fun t q kd ht hq e => by
    rw [List.getElem?_eq_getElem hq] at e
    obtain ⟨z, e1, _, hz⟩ := DataW.trod_int ht e
    refine ⟨z, ?_, hz⟩
    have := congrArg (·[0]?) e1
    simpa [List.getElem?_take, List.getElem?_drop] using this
  have hl : xs.length = 5 := hlen
  have g0 := hg 0 _ rfl
  have g1 := hg 1 _ rfl
  have g2 := hg 2 _ rfl
  have g3 := hg 3 _ rfl
  have g4 := hg 4 _ rfl
  simp only [Value.cells] at g0 g1 g2 g3 g4
  obtain ⟨v, a0, r0⟩ := one 3 0 .i64 Tryd.underlying3 (by omega) g0
  obtain ⟨k, a1, r1⟩ := one 3 1 .i64 Tryd.underlying3 (by omega) g1
  obtain ⟨s, a2, r2⟩ := one 26 2 .u32 Tryd.underlying26 (by omega) g2
  obtain ⟨i, a3, r3⟩ := one 3 3 .i64 Tryd.underlying3 (by omega) g3
  obtain ⟨c, a4, r4⟩ := one 3 4 .i64 Tryd.underlying3 (by omega) g4
  refine ⟨v, k, s, i, c, ?_, r0, r1, r2, r3, r4⟩
  match cs, hsz, a0, a1, a2, a3, a4 with
  | [y0, y1, y2, y3, y4], _, a0, a1, a2, a3, a4 =>
    simp at a0 a1 a2 a3 a4
    subst a0 a1 a2 a3 a4
    rfl
end
end Go.Proofs.YtbohdmconeebeaaDoor

namespace Go.Proofs.YtbohdmconeebeaaDoor
open Go.RowKit Go.ChangeShapes Go.WideShapes Go.Deep
set_option maxRecDepth 100000

def i64Ok (z : Int) : Prop := -9223372036854775808 ≤ z ∧ z ≤ 9223372036854775807
/-- its numbers are numbers of its kinds -/
structure Fr.Wf (f : Fr) : Prop where
  v : i64Ok f.v
  k : i64Ok f.k
  i : i64Ok f.i
  c : i64Ok f.c
section
variable {H : Type} {enc : TypeId × Value → H} {w : World}
theorem row_of {T E : TypeId} {k : IntKind} {fuel : Nat} {v : Value} {x : DataW H × List MemPlace} (ht : Tryd.prog.underlying T = some (.slice E)) (he : Tryd.prog.underlying E = some (.int k)) (hc : Tryd.prog.cellsOf E = 1)
    (h : DataW.trod enc Tryd.prog w 0 (fun _ => true) true fuel T [v] = some x) : ∃ a n c es, v = .slice a n c ∧ es.length = n ∧ n ≤ c ∧ Nums k w w.heap.size a es ∧ ∀ z ∈ es, (Lit.int k z).wf = true := by
  rcases open_ints ht he hc h with ⟨hcs, _⟩ | ⟨a, l, c, zs, hcs, _, hl, hm, hz, _, hcell, hwz⟩
  · injection hcs with hcs
    exact ⟨none, 0, 0, [], hcs, rfl, Nat.le_refl _, Nums.nil, fun z hz => by cases hz⟩
  · injection hcs with hcs
    obtain ⟨es, h1, h2, h3, h4, h5⟩ := IsRow.elems (k := k) (w := w) (a := some a) (len := l) (cap := c) (zs := zs) (.inr ⟨_, rfl, hl, hm, by simpa using hz, hcell, hwz⟩)
    exact ⟨some a, l, c, es, hcs, h1, h2, h4, h5⟩
theorem row_short {T E : TypeId} {k : IntKind} {fuel : Nat} {v : Value} {x : DataW H × List MemPlace} (ht : Tryd.prog.underlying T = some (.slice E)) (he : Tryd.prog.underlying E = some (.int k)) (hc : Tryd.prog.cellsOf E = 1)
    (h : DataW.trod enc Tryd.prog w 0 (fun _ => true) true fuel T [v] = some x) : ∃ a n c, v = .slice a n c ∧ c ≤ maxLen := by
  rcases open_ints ht he hc h with ⟨hcs, _⟩ | ⟨a, l, c, zs, hcs, _, hl, hm, hz, _, hcell, hwz⟩
  · injection hcs with hcs
    exact ⟨none, 0, 0, hcs, Nat.zero_le _⟩
  · injection hcs with hcs
    exact ⟨some a, l, c, hcs, hm⟩
/-- a head's cells -/
theorem head_of {fuel : Nat} {cs : List Value} {x : DataW H × List MemPlace} (h : DataW.trod enc Tryd.prog w 0 (fun _ => true) true fuel 28 cs = some x) :
    ∃ v k s i c : Int, cs = [.int .i64 v, .int .i64 k, .int .u32 s, .int .i64 i, .int .i64 c] ∧ 0 ≤ s ∧ s ≤ 4294967295 ∧ i64Ok v ∧ i64Ok k ∧ i64Ok i ∧ i64Ok c := by
  obtain ⟨xs, n, _, _, hlen, hxl, hf⟩ := DataW.trod_struct Tryd.underlying28 h
  have h5 : Tryd.prog.cellsOf 28 = 5 := by kernel_rfl
  have k0 : Tryd.prog.cellsOf 3 = 1 := by kernel_rfl
  have k1 : Tryd.prog.cellsOf 26 = 1 := by kernel_rfl
  rw [h5] at hlen
  match cs, hlen with
  | [c0, c1, c2, c3, c4], _ =>
    have hx : ∀ i, i < 5 → ∃ y, xs[i]? = some y := fun i hi => ⟨_, List.getElem?_eq_getElem (by rw [hxl]; exact hi)⟩
    obtain ⟨y0, e0⟩ := hx 0 (by decide)
    obtain ⟨y1, e1⟩ := hx 1 (by decide)
    obtain ⟨y2, e2⟩ := hx 2 (by decide)
    obtain ⟨y3, e3⟩ := hx 3 (by decide)
    obtain ⟨y4, e4⟩ := hx 4 (by decide)
    have f0 : DataW.trod enc Tryd.prog w 0 (fun _ => true) true n 3 (([c0, c1, c2, c3, c4].drop 0).take (Tryd.prog.cellsOf 3)) = some y0 := (hf 0 _ rfl).trans e0
    rw [k0] at f0
    have f1 : DataW.trod enc Tryd.prog w 0 (fun _ => true) true n 3 (([c0, c1, c2, c3, c4].drop 1).take (Tryd.prog.cellsOf 3)) = some y1 := (hf 1 _ rfl).trans e1
    rw [k0] at f1
    have f2 : DataW.trod enc Tryd.prog w 0 (fun _ => true) true n 26 (([c0, c1, c2, c3, c4].drop 2).take (Tryd.prog.cellsOf 26)) = some y2 := (hf 2 _ rfl).trans e2
    rw [k1] at f2
    have f3 : DataW.trod enc Tryd.prog w 0 (fun _ => true) true n 3 (([c0, c1, c2, c3, c4].drop 3).take (Tryd.prog.cellsOf 3)) = some y3 := (hf 3 _ rfl).trans e3
    rw [k0] at f3
    have f4 : DataW.trod enc Tryd.prog w 0 (fun _ => true) true n 3 (([c0, c1, c2, c3, c4].drop 4).take (Tryd.prog.cellsOf 3)) = some y4 := (hf 4 _ rfl).trans e4
    rw [k0] at f4
    obtain ⟨v, g0, _, hv⟩ := DataW.trod_int Tryd.underlying3 f0
    obtain ⟨k, g1, _, hk⟩ := DataW.trod_int Tryd.underlying3 f1
    obtain ⟨s, g2, _, hs⟩ := DataW.trod_int Tryd.underlying26 f2
    obtain ⟨i, g3, _, hi⟩ := DataW.trod_int Tryd.underlying3 f3
    obtain ⟨c, g4, _, hc⟩ := DataW.trod_int Tryd.underlying3 f4
    injection g0 with g0
    injection g1 with g1
    injection g2 with g2
    injection g3 with g3
    injection g4 with g4
    subst g0 g1 g2 g3 g4
    have hr : 0 ≤ s ∧ s ≤ 4294967295 := by
      have h := hs
      simp [Lit.wf] at h
      exact h
    exact ⟨v, k, s, i, c, rfl, hr.1, hr.2, bounds_i64 hv, bounds_i64 hk, bounds_i64 hi, bounds_i64 hc⟩
/-- a frame's cells -/
theorem fr_of {fuel : Nat} {cs : List Value} {x : DataW H × List MemPlace} (h : DataW.trod enc Tryd.prog w 0 (fun _ => true) true fuel 31 cs = some x) :
    ∃ f : Fr, cs = f.cs.toList ∧ f.At w w.heap.size ∧ f.Wf := by
  obtain ⟨xs, n, _, _, hlen, hxl, hf⟩ := DataW.trod_struct Tryd.underlying31 h
  have h6 : Tryd.prog.cellsOf 31 = 6 := by kernel_rfl
  have k0 : Tryd.prog.cellsOf 28 = 5 := by kernel_rfl
  have k1 : Tryd.prog.cellsOf 29 = 1 := by kernel_rfl
  rw [h6] at hlen
  match cs, hlen with
  | [c0, c1, c2, c3, c4, c5], _ =>
    have hx : ∀ i, i < 2 → ∃ y, xs[i]? = some y := fun i hi => ⟨_, List.getElem?_eq_getElem (by rw [hxl]; exact hi)⟩
    obtain ⟨y0, e0⟩ := hx 0 (by decide)
    obtain ⟨y1, e1⟩ := hx 1 (by decide)
    have f0 : DataW.trod enc Tryd.prog w 0 (fun _ => true) true n 28 (([c0, c1, c2, c3, c4, c5].drop 0).take (Tryd.prog.cellsOf 28)) = some y0 := (hf 0 _ rfl).trans e0
    rw [k0] at f0
    have f1 : DataW.trod enc Tryd.prog w 0 (fun _ => true) true n 29 (([c0, c1, c2, c3, c4, c5].drop 5).take (Tryd.prog.cellsOf 29)) = some y1 := (hf 1 _ rfl).trans e1
    rw [k1] at f1
    obtain ⟨v, k, s, i, c, g0, hs0, hs1, hv, hk, hi, hc⟩ := head_of f0
    obtain ⟨a, m, cp, zs, rfl, l1, l2, l3, l4⟩ := row_of Tryd.underlying29 Tryd.underlying5 (by kernel_rfl) f1
    obtain ⟨a2, m2, cp2, q1, q2⟩ := row_short Tryd.underlying29 Tryd.underlying5 (by kernel_rfl) f1
    injection q1 with q1 q3 q4
    subst q1 q3 q4
    simp only [List.drop_zero, List.take_succ_cons, List.take_zero, List.cons.injEq, and_true] at g0
    obtain ⟨rfl, rfl, rfl, rfl, rfl⟩ := g0
    subst l1
    exact ⟨⟨v, k, s, i, c, a, cp, zs⟩, rfl, ⟨hs0, hs1, l2, by unfold maxLen at q2; simp only; omega, bytes_of l4, l3⟩, ⟨hv, hk, hi, hc⟩⟩
theorem open_frame {r : Reach} {b0 : Nat} {x : Value} {d : DataW H} {p : List MemPlace} (hv : Value.okWide Tryd.prog w r b0 31 x) (h : DataW.Trod enc Tryd.prog w 0 (fun _ => true) true 31 x d p) :
    ∃ f : Fr, x = .agg f.cs ∧ f.At w w.heap.size ∧ f.Wf := by
  obtain ⟨⟨cs⟩, rfl, hsz⟩ := okWide_struct Tryd.underlying31 hv
  obtain ⟨fuel, hf⟩ := h
  obtain ⟨f, e, h1, h2⟩ := fr_of hf
  simp only [Value.cells] at e
  refine ⟨f, ?_, h1, h2⟩
  rw [e]
theorem frs_of {fuel : Nat} {A : Option Addr} {len cap : Nat} {x : DataW H × List MemPlace} (h : DataW.trod enc Tryd.prog w 0 (fun _ => true) true fuel 22 [.slice A len cap] = some x) :
    ∃ fs : List Fr, fs.length = len ∧ len ≤ 9223372036854775807 ∧ len ≤ cap ∧ FrsAt w w.heap.size A fs ∧ ∀ f ∈ fs, f.Wf := by
  rcases open_slice Tryd.underlying22 h with ⟨hcs, _⟩ | ⟨a, l, c, m, n, D, Pl, hcs, _, hl, hm, hmm, _, hi⟩
  · injection hcs with hcs
    injection hcs with h1 h2 h3
    subst h1 h2 h3
    exact ⟨[], rfl, by decide, Nat.le_refl _, ⟨fun f hf => by simp at hf, fun j f hj => by simp at hj⟩, fun f hf => by simp at hf⟩
  · injection hcs with hcs
    injection hcs with h1 h2 h3
    subst h1 h2 h3
    have h6 : Tryd.prog.cellsOf 31 = 6 := by kernel_rfl
    have hmc : m = cap := by simpa using hmm
    have key : ∀ i, ∃ f : Fr, i < len → f.At w w.heap.size ∧ f.Wf ∧ ∃ b o, some a = some (⟨b, o, none⟩ : Addr) ∧ b < w.heap.size ∧ ∀ (q : Nat) (u : Value), f.cs[q]? = some u → w.cell? ⟨b, o + i * 6 + q, none⟩ = some u := by
      intro i
      by_cases hil : i < len
      · obtain ⟨cs', hc', ht'⟩ := hi i (by omega)
        rw [h6] at hc'
        obtain ⟨f, rfl, hat, hwf⟩ := fr_of ht'
        obtain ⟨_, _, hcell⟩ := World.cells?_some hc'
        obtain ⟨cs0, hc0, ht0⟩ := hi 0 (by omega)
        rw [h6] at hc0
        obtain ⟨f0, rfl, _⟩ := fr_of ht0
        have hz := (World.cells?_some hc0).2.2 0 (by decide)
        have hadd : ∀ a : Addr, a.add 0 = a := fun a => by unfold Addr.add; rw [if_pos rfl]
        rw [Nat.zero_mul, hadd, hadd] at hz
        obtain ⟨b, o, sp⟩ := a
        have hsp : sp = none := World.cell?_spot hz
        subst hsp
        have hcj : ∀ (j : Nat) v, f.cs[j]? = some v → w.cell? ⟨b, o + i * 6 + j, none⟩ = some v := fun j v hv => by
          have hj : j < 6 := (Array.getElem?_eq_some_iff.1 hv).1
          have h0 := hcell j hj
          rw [Addr.add_lit, Addr.add_lit, Array.getElem?_toList, hv] at h0
          exact h0
        exact ⟨f, fun _ => ⟨hat, hwf, b, o, rfl, block_of_cell (hcj 0 _ rfl), hcj⟩⟩
      · exact ⟨⟨0, 0, 0, 0, 0, none, 0, []⟩, fun h => absurd h hil⟩
    obtain ⟨g, hg⟩ := Classical.axiomOfChoice key
    have hall : ∀ (i : Nat) f, ((List.range len).map g)[i]? = some f → i < len ∧ f = g i := fun i f hd => by
      rw [List.getElem?_map] at hd
      obtain ⟨j, hj, rfl⟩ := Option.map_eq_some_iff.1 hd
      have hil : i < len := by
        rcases Nat.lt_or_ge i len with h | h
        · exact h
        · rw [List.getElem?_eq_none (by simpa using h)] at hj; simp at hj
      rw [List.getElem?_range hil] at hj
      injection hj with hj
      exact ⟨hil, by rw [hj]⟩
    refine ⟨(List.range len).map g, by simp, by unfold maxLen at hm; omega, by omega, ⟨fun f hf => ?_, fun j f hj => ?_⟩, fun f hf => ?_⟩
    · obtain ⟨i, hi, rfl⟩ := List.mem_iff_getElem.1 hf
      obtain ⟨h1, h2⟩ := hall i _ (List.getElem?_eq_getElem hi)
      rw [h2]; exact (hg i h1).1
    · obtain ⟨h1, rfl⟩ := hall j f hj
      exact (hg j h1).2.2
    · obtain ⟨i, hi, rfl⟩ := List.mem_iff_getElem.1 hf
      obtain ⟨h1, h2⟩ := hall i _ (List.getElem?_eq_getElem hi)
      rw [h2]; exact (hg i h1).2.1
end
end Go.Proofs.YtbohdmconeebeaaDoor

namespace Go.Proofs.YtbohdmconeebeaaDoor
open Go.RowKit Go.Deep
set_option maxRecDepth 100000

/-- block b is a lens of the bytes zs, at place p, with error e; its bytes lie in a block from lo on, below b -/
def LensAt (w : World) (lo b : Nat) (zs : List Int) (p e : Nat) : Prop :=
  ∃ A cap, w.heap[b]? = some (.cells #[.slice A zs.length cap, .int .i64 p, .int .i64 e] 131 (0, 0)) ∧ NumsIn .u8 w lo b A zs ∧ zs.length ≤ cap ∧ p ≤ zs.length ∧ lo ≤ b
section
variable {w w' : World} {lo b : Nat} {zs : List Int} {p e p' e' : Nat}
theorem LensAt.lt (h : LensAt w lo b zs p e) : b < w.heap.size := by
  obtain ⟨A, cap, hb, _⟩ := h
  exact (Array.getElem?_eq_some_iff.1 hb).1
theorem LensAt.lo_le (h : LensAt w lo b zs p e) : lo ≤ b := by
  obtain ⟨A, cap, _, _, _, _, h⟩ := h
  exact h
theorem LensAt.place (h : LensAt w lo b zs p e) : p ≤ zs.length := by
  obtain ⟨A, cap, _, _, _, h, _⟩ := h
  exact h
theorem LensAt.keeps (h : LensAt w lo b zs p e) (hk : Keeps lo (b + 1) w w') : LensAt w' lo b zs p e := by
  obtain ⟨A, cap, hb, hn, h1, h2, h3⟩ := h
  exact ⟨A, cap, (hk.2 b h3 (Nat.lt_succ_self b)).trans hb, hn.keeps ⟨hk.1, fun k h4 h5 => hk.2 k h4 (by omega)⟩, h1, h2, h3⟩
theorem LensAt.below (h : LensAt w lo b zs p e) (hb : Below w.heap.size w w') : LensAt w' lo b zs p e := by
  have hl := h.lt
  exact h.keeps ⟨hb.size, fun k _ h2 => hb.block k (by omega)⟩
theorem LensAt.off {S : Nat → Prop} (h : LensAt w lo b zs p e) (hf : Off S w w') (hS : ∀ k, lo ≤ k → k ≤ b → ¬ S k) : LensAt w' lo b zs p e := by
  have hl := h.lt
  exact h.keeps ⟨hf.size, fun k h1 h2 => hf.block k (by omega) (hS k h1 (by omega))⟩
theorem LensAt.open (h : LensAt w lo b zs p e) : ∃ A cap, w.heap[b]? = some (.cells #[.slice A zs.length cap, .int .i64 p, .int .i64 e] 131 (0, 0)) ∧ w.cell? ⟨b, 0, none⟩ = some (.slice A zs.length cap) ∧ w.cell? ⟨b, 1, none⟩ = some (.int .i64 p) ∧ w.cell? ⟨b, 2, none⟩ = some (.int .i64 e) ∧
    w.frozen? ⟨b, 1, none⟩ = false ∧ w.frozen? ⟨b, 2, none⟩ = false ∧ NumsIn .u8 w lo b A zs ∧ zs.length ≤ cap ∧ p ≤ zs.length ∧ lo ≤ b := by
  obtain ⟨A, cap, hb, hn, h1, h2, h3⟩ := h
  exact ⟨A, cap, hb, by simp [World.cell?, hb], by simp [World.cell?, hb], by simp [World.cell?, hb], by simp [World.frozen?, hb], by simp [World.frozen?, hb], hn, h1, h2, h3⟩
/-- its place moves -/
theorem LensAt.move (h : LensAt w lo b zs p e) (hp : p' ≤ zs.length) : LensAt (w.setCell ⟨b, 1, none⟩ (.int .i64 p')) lo b zs p' e := by
  obtain ⟨A, cap, hb, hn, h1, h2, h3⟩ := h
  refine ⟨A, cap, by rw [setCell_at hb]; simp, hn.keeps ⟨by simp [World.setCell], fun k h4 h5 => Below.heap_setCell _ _ _ _ (by simp; omega)⟩, h1, hp, h3⟩
/-- it has an error -/
theorem LensAt.fail (h : LensAt w lo b zs p e) (e' : Nat) : LensAt (w.setCell ⟨b, 2, none⟩ (.int .i64 e')) lo b zs p e' := by
  obtain ⟨A, cap, hb, hn, h1, h2, h3⟩ := h
  refine ⟨A, cap, by rw [setCell_at hb]; simp, hn.keeps ⟨by simp [World.setCell], fun k h4 h5 => Below.heap_setCell _ _ _ _ (by simp; omega)⟩, h1, h2, h3⟩
end

/-- slices.Clone of bytes -/
theorem cloneK_any (a : Option Addr) (n cap : Nat) (zs : List Int) (w : World) (hn : zs.length = n) (hl : n ≤ 1000000000) (h1 : Nums .u8 w w.heap.size a zs) :
    Calls Tryd.prog 44 #[.slice a n cap] w fun e w' => ∃ v, e = .returned v ∧ MadeK 5 .u8 w w' zs v := by
  subst hn
  obtain ⟨i0, hi, hz0, hz1, hz2⟩ := info_parts byteInfo
  cases a with
  | none =>
    have : zs = [] := by
      apply Classical.byContradiction
      intro hn
      obtain ⟨b, off, e, _⟩ := h1 hn
      cases e
    subst this
    have hq := fun w => Lib.run_eql_slice_nil (P := Tryd.prog) w 29 5 none 0 cap 0 0 Tryd.underlying29
    go_enter Tryd.func44, Tryd.ntmps44
    go_wp2
    go_ret
    exact ⟨_, rfl, MadeK.nil _ _ (Below.refl _ _)⟩
  | some x =>
    have hq := fun w => Lib.run_eql_slice_nil (P := Tryd.prog) w 29 5 (some x) zs.length cap 0 0 Tryd.underlying29
    have hnews : ∀ j u, (zs.map (Value.int .u8))[j]? = some u → (w.alloc (.cells #[] 5)).cell? (x.add j) = some u := by
      intro j u hj
      rw [List.getElem?_map] at hj
      cases hc : zs[j]? with
      | none => rw [hc] at hj; simp at hj
      | some c =>
        rw [hc] at hj
        simp only [Option.map_some, Option.some.injEq] at hj
        subst hj
        obtain ⟨b, off, e, hb, hcell⟩ := h1.open hc
        injection e with e
        subst e
        have := (World.cell?_alloc_lt w (.cells #[] 5) ⟨b, off + j, none⟩ hb).trans hcell
        by_cases h0 : j = 0
        · subst h0; simpa [Addr.add] using this
        · simpa [Addr.add, h0] using this
    have hown : (w.alloc (.cells #[] 5)).ownsRow w.heap.size 5 1 (.slice (some ⟨w.heap.size, 0, none⟩) 0 0) 0 [] :=
      ⟨rfl, .inr ⟨w.heap.size, 0, #[], rfl, Nat.le_refl _, heap_alloc_new w _, Nat.le_refl _, by simp, rfl, rfl⟩⟩
    go_enter Tryd.func44, Tryd.ntmps44
    go_wp2_with (at_builtin; refine wpList_append_own _ rfl (.tmp 5) (.tmp 6) 29 rfl w.heap.size 5 i0 (.int .u8 0) 1 1 Tryd.underlying29 hi hz0 hz1 hz2 rfl (by decide) _ _ _ rfl hown x zs.length cap (zs.map (Value.int .u8)) rfl (by simp) hnews ?_ ?_ ?_ ?_ ?_; (intro u hu; simp at hu; obtain ⟨c, _, rfl⟩ := hu; rfl); (unfold maxLen; omega); omega; (simp); intro v' w1 hown1 hgrow1 _)
    go_ret
    refine ⟨_, rfl, by simpa using hown1, ?_⟩
    exact ((Below.refl w.heap.size w).alloc (Nat.le_refl _) _).grown hgrow1 (by simp) (fun g hk => by have hk : some w.heap.size = some g := hk; injection hk with hk; omega)

theorem lens_new (w w1 : World) (zs : List Int) (A : Option Addr) (c : Nat) (h : MadeK 5 .u8 w w1 zs (.slice A zs.length c)) (hc : zs.length ≤ c) :
    LensAt (w1.alloc (.cells #[.slice A zs.length c, .int .i64 0, .int .i64 0] 131)) w.heap.size w1.heap.size zs 0 0 :=
  ⟨A, c, heap_alloc_new w1 _, h.numsIn.keeps (Keeps.of_below ((Below.refl _ w1).alloc (Nat.le_refl _) _)), hc, Nat.zero_le _, h.2.size⟩
theorem lnew_any (a : Option Addr) (n cap : Nat) (zs : List Int) (w : World) (hn : zs.length = n) (hl : n ≤ 1000000000) (h1 : Nums .u8 w w.heap.size a zs) :
    Calls Tryd.prog 79 #[.slice a n cap] w fun e w' => ∃ b, e = .returned (.pointer (some ⟨b, 0, none⟩)) ∧ LensAt w' w.heap.size b zs 0 0 ∧ Below w.heap.size w w' := by
  subst hn
  have HC := cloneK_any a _ cap zs w rfl hl h1
  clear h1
  go_enter Tryd.func79, Tryd.ntmps79
  go_wp2_with (go_at_call 44; refine HC.mono ?_; rintro e w1 ⟨v, rfl, hm⟩; obtain ⟨A, c, rfl, hc, _⟩ := hm.slice; have HM := Lib.hid hm; clear hm)
  go_ret
  exact ⟨_, rfl, lens_new w w1 zs A c HM.out hc, HM.out.2.alloc HM.out.2.size _⟩

section
variable (lo b : Nat) (zs : List Int) (p e : Nat) (w : World)
theorem lerr_any (h : LensAt w lo b zs p e) : Calls Tryd.prog 95 #[.pointer (some ⟨b, 0, none⟩)] w fun r w' => r = .returned (.int .i64 e) ∧ w = w' := by
  obtain ⟨A, cap, _, c0, c1, c2, _⟩ := h.open
  clear h
  go_enter Tryd.func95, Tryd.ntmps95
  go_wp2
  go_ret
  exact ⟨rfl, rfl⟩
/-- what End tells -/
def endOf (zs : List Int) (p e : Nat) : Nat := if e ≠ 0 then e else if p < zs.length then 3 else 0
end

theorem lerr_nil (w : World) : Calls Tryd.prog 95 #[.pointer none] w fun r w' => r = .returned (.int .i64 1) ∧ w = w' := by
  go_enter Tryd.func95, Tryd.ntmps95
  go_wp2
  go_ret
  exact ⟨rfl, rfl⟩
/-- the first n bytes -/
theorem part_ok (a : Option Addr) (len cap : Nat) (n : Int) (w : World) (h0 : 0 ≤ n) (h1 : n ≤ len) (hc : len ≤ cap) :
    Calls Tryd.prog 93 #[.slice a len cap, .int .i64 n] w fun e w' => e = .returned (.tuple #[.slice a n.toNat n.toNat, .int .i64 0]) ∧ w = w' := by
  have h2 : ¬ (len : Int) < n := by omega
  have h3 : ¬ n < 0 := by omega
  have h4 : n ≤ (cap : Int) := by omega
  go_enter Tryd.func93, Tryd.ntmps93
  go_wp2
  go_ret2
  exact ⟨by simp, rfl⟩
theorem part_neg (a : Option Addr) (len cap : Nat) (n : Int) (w : World) (h0 : n < 0) :
    Calls Tryd.prog 93 #[.slice a len cap, .int .i64 n] w fun e w' => e = .returned (.tuple #[.slice none 0 0, .int .i64 5]) ∧ w = w' := by
  go_enter Tryd.func93, Tryd.ntmps93
  go_wp2
  go_ret2
  exact ⟨rfl, rfl⟩
theorem part_more (a : Option Addr) (len cap : Nat) (n : Int) (w : World) (h1 : (len : Int) < n) :
    Calls Tryd.prog 93 #[.slice a len cap, .int .i64 n] w fun e w' => e = .returned (.tuple #[.slice none 0 0, .int .i64 4]) ∧ w = w' := by
  have h3 : ¬ n < 0 := by omega
  go_enter Tryd.func93, Tryd.ntmps93
  go_wp2
  go_ret2
  exact ⟨rfl, rfl⟩
end Go.Proofs.YtbohdmconeebeaaDoor

namespace Go.Proofs.YtbohdmconeebeaaDoor
open Go.RowKit
set_option maxRecDepth 100000
section
variable (lo b : Nat) (zs : List Int) (p e : Nat) (w : World)
end
end Go.Proofs.YtbohdmconeebeaaDoor

namespace Go.Proofs.YtbohdmconeebeaaDoor
open Go.RowKit
set_option maxRecDepth 100000
section
variable (lo b : Nat) (zs : List Int) (p e : Nat) (w : World)
end
end Go.Proofs.YtbohdmconeebeaaDoor

namespace Go.Proofs.YtbohdmconeebeaaDoor
open Go.RowKit
set_option maxRecDepth 100000
section
variable (lo b : Nat) (zs : List Int) (p e : Nat) (w : World)
theorem rdW_err (fv : Value) (h : LensAt w lo b zs p e) (he : e ≠ 0) :
    Calls Tryd.prog 91 #[.pointer (some ⟨b, 0, none⟩), fv] w fun r w' => r = .returned (.int .u32 0) ∧ w = w' := by
  have HE := lerr_any lo b zs p e w h
  have h3 : ¬ (e : Int) = 0 := by omega
  have h4 : ((e : Int) != 0) = true := by simp; omega
  clear h he
  go_enter Tryd.func91, Tryd.ntmps91
  go_wp2_with (go_at_call 95; refine HE.mono ?_; rintro r w2 ⟨rfl, rfl⟩)
  go_ret
  exact ⟨rfl, rfl⟩
theorem rdW_nil (fv : Value) : Calls Tryd.prog 91 #[.pointer none, fv] w fun r w' => r = .returned (.int .u32 0) ∧ w = w' := by
  go_enter Tryd.func91, Tryd.ntmps91
  go_wp2_with (go_at_call 95; refine (lerr_nil _).mono ?_; rintro r w2 ⟨rfl, rfl⟩)
  go_ret
  exact ⟨rfl, rfl⟩
set_option maxHeartbeats 2000000 in
theorem rdW_ok (c0 : Nat) (h : LensAt w lo b zs p 0) (hl : zs.length ≤ 1000000000) (size : Nat) (hs : p + size ≤ zs.length) (K : Value → World → Prop)
    (HC : ∀ n A cap, Nums .u8 (w.drewN n) b A (zs.drop p) → zs.length - p ≤ cap → Calls Tryd.prog 92 #[.slice A (zs.length - p) cap, .pointer (some ⟨c0, 0, none⟩)] (w.drewN n) fun r w' => ∃ v, r = .returned (.tuple #[v, .int .i64 size, .int .i64 0]) ∧ Below w.heap.size w w' ∧ K v w') :
    Calls Tryd.prog 91 #[.pointer (some ⟨b, 0, none⟩), .func (.func 92) #[] #[.pointer (some ⟨c0, 0, none⟩)]] w fun r w' => ∃ v w1, r = .returned v ∧ K v w1 ∧ Below w.heap.size w w1 ∧ w' = w1.setCell ⟨b, 1, none⟩ (.int .i64 (p + size)) := by
  have HE := lerr_any lo b zs p 0 w h
  have HW := Lib.hid h
  obtain ⟨A, cap, hb, c0, c1, c2, f1, f2, hn, hlc, hp, hlo⟩ := h.open
  have hnd := hn.nums.drop (i := p) hlc
  have hsz := h.lt
  have HB : Hid (∀ w1, Below w.heap.size w w1 → w1.cell? ⟨b, 1, none⟩ = some (.int .i64 p) ∧ w1.frozen? ⟨b, 1, none⟩ = false) := fun w1 hb1 => by
    obtain ⟨_, _, _, _, c1, c2, f1, f2, _⟩ := (HW.out.below hb1).open
    exact ⟨c1, f1⟩
  have hp1 : (p : Int) ≤ (zs.length : Int) := by omega
  have hp2 : (zs.length : Int) ≤ (cap : Int) := by omega
  obtain ⟨A', hA'⟩ : ∃ A', (if cap = p then A else Option.map (fun x => x.add p) A) = A' := ⟨_, rfl⟩
  rw [hA'] at hnd
  have HC1 := HC 1 A' (cap - p) (hnd.kept fun _ _ => rfl) (by omega)
  clear h hn HC
  go_enter Tryd.func91, Tryd.ntmps91
  go_wp2_with (go_at_call 95; refine HE.mono ?_; rintro r w2 ⟨rfl, rfl⟩)
  go_region_with (go_at_call 92; refine HC1.mono ?_; rintro r w3 ⟨v, rfl, hb3, hK⟩; obtain ⟨d1, g1⟩ := HB.out _ hb3)
  all_goals go_wp2
  all_goals go_ret
  all_goals exact ⟨_, _, rfl, hK, hb3, rfl⟩
set_option maxHeartbeats 2000000 in
theorem rdW_bad (c0 : Nat) (h : LensAt w lo b zs p 0) (_hl : zs.length ≤ 1000000000) (err : Nat) (he : err ≠ 0) (K : Value → World → Prop)
    (HC : ∀ n A cap, Nums .u8 (w.drewN n) b A (zs.drop p) → zs.length - p ≤ cap → Calls Tryd.prog 92 #[.slice A (zs.length - p) cap, .pointer (some ⟨c0, 0, none⟩)] (w.drewN n) fun r w' => ∃ v s, r = .returned (.tuple #[v, .int .i64 s, .int .i64 err]) ∧ Below w.heap.size w w' ∧ K v w') :
    Calls Tryd.prog 91 #[.pointer (some ⟨b, 0, none⟩), .func (.func 92) #[] #[.pointer (some ⟨c0, 0, none⟩)]] w fun r w' => r = .returned (.int .u32 0) ∧ ∃ v w1, K v w1 ∧ Below w.heap.size w w1 ∧ w' = w1.setCell ⟨b, 2, none⟩ (.int .i64 err) := by
  have HE := lerr_any lo b zs p 0 w h
  have HW := Lib.hid h
  obtain ⟨A, cap, hb, c0, c1, c2, f1, f2, hn, hlc, hp, hlo⟩ := h.open
  have hnd := hn.nums.drop (i := p) hlc
  have hsz := h.lt
  have HB : Hid (∀ w1, Below w.heap.size w w1 → w1.cell? ⟨b, 2, none⟩ = some (.int .i64 (0 : Nat)) ∧ w1.frozen? ⟨b, 2, none⟩ = false) := fun w1 hb1 => by
    obtain ⟨_, _, _, _, c1, c2, f1, f2, _⟩ := (HW.out.below hb1).open
    exact ⟨c2, f2⟩
  have hp1 : (p : Int) ≤ (zs.length : Int) := by omega
  have hp2 : (zs.length : Int) ≤ (cap : Int) := by omega
  obtain ⟨A', hA'⟩ : ∃ A', (if cap = p then A else Option.map (fun x => x.add p) A) = A' := ⟨_, rfl⟩
  rw [hA'] at hnd
  have HC1 := HC 1 A' (cap - p) (hnd.kept fun _ _ => rfl) (by omega)
  have h3 : ¬ (err : Int) = 0 := by omega
  have h4 : ((err : Int) != 0) = true := by simp; omega
  clear h hn HC he
  go_enter Tryd.func91, Tryd.ntmps91
  go_wp2_with (go_at_call 95; refine HE.mono ?_; rintro r w2 ⟨rfl, rfl⟩)
  go_region_with (go_at_call 92; refine HC1.mono ?_; rintro r w3 ⟨v, s, rfl, hb3, hK⟩; obtain ⟨d1, g1⟩ := HB.out _ hb3)
  all_goals go_wp2
  all_goals go_ret
  all_goals exact ⟨rfl, _, _, hK, hb3, rfl⟩
end
end Go.Proofs.YtbohdmconeebeaaDoor

namespace Go.Proofs.YtbohdmconeebeaaDoor
open Go.RowKit Go.Shelf
set_option maxRecDepth 100000
attribute [local go_sem] Oper.semAt_some

/-- a place and a byte, as the closure hands them on -/
abbrev PB := { x : Nat × Int // x.1 ≤ 1000000 ∧ 0 ≤ x.2 ∧ x.2 ≤ 255 }
def bytesOf (l : List PB) : List Int := l.map fun x => x.1.2
theorem bytesOf_append (a b : List PB) : bytesOf (a ++ b) = bytesOf a ++ bytesOf b := by simp [bytesOf]
theorem bytesOf_length (a : List PB) : (bytesOf a).length = a.length := by simp [bytesOf]
theorem back_more {zs : List Int} {k : Nat} {c : Int} (h : zs[k]? = some c) : (zs.drop k).reverse = (zs.drop (k + 1)).reverse ++ [c] := by
  have hk : k < zs.length := (List.getElem?_eq_some_iff.1 h).1
  rw [List.getElem?_eq_getElem hk] at h
  injection h with h
  rw [List.drop_eq_getElem_cons hk, List.reverse_cons, h]

theorem NumsS.kept {k : IntKind} {S : Nat → Prop} {A B : World} {a : Option Addr} {zs : List Int} (h : NumsS k A S a zs) (hk : KeepS S A B) : NumsS k B S a zs := fun hn => by
  obtain ⟨b, off, e, h1, hc⟩ := h hn
  exact ⟨b, off, e, h1, fun j c hj => (hk.cell (p := ⟨b, off + j, none⟩) h1).trans (hc j c hj)⟩
theorem NumsS.open {k : IntKind} {S : Nat → Prop} {w : World} {a : Option Addr} {zs : List Int} (h : NumsS k w S a zs) {j : Nat} {c : Int} (hj : zs[j]? = some c) : ∃ b off, a = some ⟨b, off, none⟩ ∧ S b ∧ w.cell? ⟨b, off + j, none⟩ = some (.int k c) := by
  obtain ⟨b, off, e, hb, hc⟩ := h (by intro e; subst e; simp at hj)
  exact ⟨b, off, e, hb, hc j c hj⟩
theorem Nums.toS {k : IntKind} {S : Nat → Prop} {w : World} {B : Nat} {a : Option Addr} {zs : List Int} (h : Nums k w B a zs) (hS : ∀ b, b < B → S b) : NumsS k w S a zs := fun hn => by
  obtain ⟨b, off, e, hb, hc⟩ := h hn
  exact ⟨b, off, e, hS b hb, hc⟩

set_option maxHeartbeats 2000000 in
theorem back_in (n : Nat) (hn : 1 ≤ n) (l Bs c : Nat) (S : Nat → Prop) (A : Option Addr) (zs : List Int) (hl : zs.length ≤ 1000000) (hz : ∀ c ∈ zs, 0 ≤ c ∧ c ≤ 255) (hS : S Bs) (J Jx : List PB → World → Prop)
    (hY : ∀ pre x W, J pre W → pre.length < zs.length → YieldAt Fence.wide (n - 1) Tryd.prog l #[.int .i64 (x.1.1 : Int), .int .u8 x.1.2] W fun e W' =>
      (e = .returned (.bool true) ∧ J (pre ++ [x]) W' ∧ KeepS S W W') ∨ (e = .returned (.bool false) ∧ Jx (pre ++ [x]) W'))
    (W : World) (hBs : W.cell? ⟨Bs, 0, none⟩ = some (.slice A zs.length c)) (hN : NumsS .u8 W S A zs) (h0 : J [] W) :
    CallsIn Fence.wide n Tryd.prog 96 #[.func (.yield l) #[] #[], .pointer (some ⟨Bs, 0, none⟩)] W fun e W' => (∃ v, e = .returned v) ∧
      ((∃ ys, bytesOf ys = zs.reverse ∧ J ys W') ∨ (∃ pre, (bytesOf pre <+: zs.reverse ∧ pre ≠ []) ∧ Jx pre W')) := by
  refine callsIn_of_wp Tryd.func96 rfl trivial ?_ rfl
  simp only [Tryd.ntmps96, List.size_toArray, List.length_cons, List.length_nil, Nat.reduceAdd, Nat.reduceSub, Array.replicate_succ, Array.replicate_zero, List.push_toArray, List.append_toArray, List.nil_append, List.cons_append]
  gi_wp2
  gi_loopw [3] (fun i wr => ∃ (k : Nat) (z : Int) (pre : List PB), k ≤ zs.length ∧ i = .int .i64 z ∧ z = (k : Int) - 1 ∧ bytesOf pre = (zs.drop k).reverse ∧ J pre wr ∧ KeepS S W wr)
    (fun i _ => (intOf i + 1).toNat)
  case atStart => exact ⟨zs.length, _, [], Nat.le_refl _, rfl, by first | rfl | go_num, by simp [bytesOf], h0, KeepS.refl _ _⟩
  case round =>
    obtain ⟨k, z, pre, hk, rfl, hzk, hpre, hJ, hkp⟩ := hrel
    have hbox := (hkp.cell (p := ⟨Bs, 0, none⟩) hS).trans hBs
    have hNr := hN.kept hkp
    cases k with
    | zero =>
      have hz0 : ¬ 0 ≤ z := by omega
      clear hzk
      gi_wp2
      go_end0
      exact ⟨⟨_, rfl⟩, .inl ⟨_, by simpa using hpre, hJ⟩⟩
    | succ k =>
      obtain rfl : z = (k : Int) := by omega
      obtain ⟨c1, hc⟩ : ∃ c, zs[k]? = some c := ⟨_, List.getElem?_eq_getElem (by omega)⟩
      obtain ⟨b1, o1, rfl, hb1, hc1⟩ := hNr.open hc
      have hcb := hz c1 (List.mem_of_getElem? hc)
      have hkl : (k : Int) < (zs.length : Int) := by omega
      have hx : k ≤ 1000000 ∧ 0 ≤ c1 ∧ c1 ≤ 255 := ⟨by omega, hcb.1, hcb.2⟩
      have hcnt : pre.length < zs.length := by
        have h2 := congrArg List.length hpre
        rw [bytesOf_length, List.length_reverse, List.length_drop] at h2
        omega
      have HM : Hid (bytesOf (pre ++ [(⟨(k, c1), hx⟩ : PB)]) = (zs.drop k).reverse) := by
        show _ = _
        rw [bytesOf_append, hpre, back_more hc]; rfl
      have HP : Hid (bytesOf (pre ++ [(⟨(k, c1), hx⟩ : PB)]) <+: zs.reverse ∧ pre ++ [(⟨(k, c1), hx⟩ : PB)] ≠ []) :=
        ⟨by rw [HM.out]; exact ⟨(zs.take k).reverse, by rw [← List.reverse_append, List.take_append_drop]⟩, by simp⟩
      obtain ⟨fn, tmps, assign, body, hy, hR⟩ := hY pre ⟨(k, c1), hx⟩ wr hJ hcnt
      dsimp only at hy
      clear hpre hzk hc hz
      gi_wp2
      refine hR.mono ?_
      rintro e W3 (⟨rfl, hJ3, hk3⟩ | ⟨rfl, hJx3⟩)
      · gi_wp2
        go_roundw
        case rel => exact ⟨k, _, _, by omega, rfl, by first | rfl | go_num, HM.out, hJ3, hkp.trans hk3⟩
        case measure => simp [intOf]
      · gi_wp2
        refine bodyPost_ret (results_none rfl _ _ _) rfl ?_
        exact ⟨⟨_, rfl⟩, .inr ⟨_, HP.out, hJx3⟩⟩

theorem back_stops (n : Nat) (hn : 1 ≤ n) (S : Nat → Prop) (w : World) (zs : List Int) (Bs c : Nat) (A : Option Addr) (hl : zs.length ≤ 1000000) (hz : ∀ c ∈ zs, 0 ≤ c ∧ c ≤ 255) (hS : ∀ k, S k → k < w.heap.size) (hB : S Bs) (hbox : w.cell? ⟨Bs, 0, none⟩ = some (.slice A zs.length c)) (hnum : NumsS .u8 w S A zs) :
    SeqStopsK Fence.wide n Tryd.prog 96 #[.pointer (some ⟨Bs, 0, none⟩)] (fun x : PB => #[Value.int .i64 (x.1.1 : Int), Value.int .u8 x.1.2]) (KeepS S) (fun ys => bytesOf ys = zs.reverse) (fun pre => bytesOf pre <+: zs.reverse ∧ pre ≠ []) zs.length w := fun l J Jx W hW _ _ hY h0 =>
  back_in n hn l Bs c S A zs hl hz hB J Jx hY W ((hW.cell (p := ⟨Bs, 0, none⟩) (hS Bs hB)).trans hbox) (hnum.kept (KeepS.of_below hW hS)) h0
theorem kept_t {S : Nat → Prop} {A B C : World} (h : KeepS S A B) (k : KeepS S B C) : KeepS S A C := h.trans k
theorem kept_b {S : Nat → Prop} {w : World} (hS : ∀ k, S k → k < w.heap.size) (W : World) (l : Nat) (o o' : Obj) (hl : w.heap.size ≤ l) (_ho : W.heap[l]? = some o) (_h1 : o.isCells = false) (_h2 : o.isWalk = false) : KeepS S W (W.putObj l o') := by
  refine ⟨by simp [World.putObj], fun k h2 => ?_⟩
  have := hS k h2
  simp only [World.putObj]
  rw [Array.getElem?_setIfInBounds]
  rw [if_neg (by omega)]
theorem kept_set {S : Nat → Prop} {W W' : World} {C : Nat} (h : KeepS S W W') (hC : ¬ S C) (o : Nat) (v : Value) : KeepS S W (W'.setCell ⟨C, o, none⟩ v) :=
  h.trans ⟨by simp [World.setCell], fun k h1 => Below.heap_setCell W' ⟨C, o, none⟩ v k (fun e => hC (by subst e; exact h1))⟩

/-- slices.Backward -/
theorem back_any (a : Option Addr) (n cap : Nat) (w : World) :
    Calls Tryd.prog 94 #[.slice a n cap] w fun e w' => e = .returned (.func (.func 96) #[] #[.pointer (some ⟨w.heap.size, 0, none⟩)]) ∧ w' = w.alloc (.cells #[.slice a n cap] 29) := by
  go_enter Tryd.func94, Tryd.ntmps94
  go_wp2
  go_ret
  exact ⟨rfl, rfl⟩
end Go.Proofs.YtbohdmconeebeaaDoor

namespace Go.Proofs.YtbohdmconeebeaaDoor
open Go.RowKit
set_option maxRecDepth 100000

/-- what Get answers -/
def GetR (r : Nat × Nat × Nat) (e : Ending) : Prop := e = .returned (.tuple #[.int .u64 r.1, .int .i64 r.2.1, .int .i64 r.2.2])
theorem GetR.of {r : Nat × Nat × Nat} {a b c : Int} (ha : a = r.1) (hb : b = r.2.1) (hc : c = r.2.2) : GetR r (.returned (.tuple #[.int .u64 a, .int .i64 b, .int .i64 c])) := by
  subst ha hb hc; rfl

theorem split_at {zs p r : List Int} {k : Nat} {c : Int} (hs : zs = p ++ r) (hp : p.length = k) (hc : zs[k]? = some c) : ∃ r', r = c :: r' ∧ zs = (p ++ [c]) ++ r' := by
  subst hs hp
  rw [List.getElem?_append_right (Nat.le_refl _), Nat.sub_self] at hc
  cases r with
  | nil => simp at hc
  | cons d r => simp at hc; subst hc; exact ⟨r, rfl, by simp⟩

/-- the bytes p have come, all of them high -/
def Come (zs : List Int) (k : Nat) (X : Int) : Prop := ∃ p r, zs = p ++ r ∧ p.length = k ∧ (∀ c ∈ p, 128 ≤ c) ∧ X = Vi.val p
theorem come_nil (zs : List Int) : Come zs 0 0 := ⟨[], zs, rfl, rfl, by simp, rfl⟩
theorem come_more {zs : List Int} {k : Nat} {X c : Int} (hz : ∀ c ∈ zs, 0 ≤ c ∧ c ≤ 255) (h : Come zs k X) (hk : k ≤ 8) (hc : zs[k]? = some c) (h1 : 128 ≤ c) : Come zs (k + 1) (bits .or .u64 X (IntKind.u64.wrap (c % 128 * 2 ^ (7 * k)))) := by
  obtain ⟨p, r, hs, hp, ha, rfl⟩ := h
  obtain ⟨r', rfl, hs'⟩ := split_at hs hp hc
  have hv := Vi.val_lt p
  have hcb := hz c (by rw [hs]; simp)
  refine ⟨p ++ [c], r', hs', by simp [hp], ?_, ?_⟩
  · intro d hd
    simp only [List.mem_append, List.mem_singleton] at hd
    rcases hd with hd | rfl
    · exact ha d hd
    · exact h1
  · have hj := Vi.or_join (Vi.val p) (c.toNat % 128) k (by rw [← hp]; exact hv) (by omega) (by omega) (by omega)
    rw [show ((c.toNat % 128 : Nat) : Int) = c % 128 by omega] at hj
    rw [hj, Vi.val_append, hp]
    simp [Vi.val]
/-- the last byte -/
theorem come_last {zs : List Int} {k : Nat} {X c : Int} (hz : ∀ c ∈ zs, 0 ≤ c ∧ c ≤ 255) (h : Come zs k X) (hk : k ≤ 9) (hc : zs[k]? = some c) (h1 : c < 128) (h9 : k = 9 → c ≤ 1) (h0 : k = 0 ∨ c ≠ 0) :
    ((Vi.get zs).1 : Int) = bits .or .u64 X (IntKind.u64.wrap (c % 128 * 2 ^ (7 * k))) ∧ (Vi.get zs).2.1 = k + 1 ∧ (Vi.get zs).2.2 = 0 := by
  obtain ⟨p, r, hs, hp, ha, rfl⟩ := h
  obtain ⟨r', rfl, hs'⟩ := split_at hs hp hc
  have hv := Vi.val_lt p
  have hcb := hz c (by rw [hs]; simp)
  have hj := Vi.or_join (Vi.val p) (c.toNat % 128) k (by rw [← hp]; exact hv) hk (by omega) (by omega)
  rw [show ((c.toNat % 128 : Nat) : Int) = c % 128 by omega] at hj
  have hva : Vi.val (p ++ [c]) = Vi.val p + 128 ^ k * (c.toNat % 128) := by rw [Vi.val_append, hp]; simp [Vi.val]
  have hlt : Vi.val (p ++ [c]) < 18446744073709551616 := by
    by_cases h : k = 9
    · have := h9 h
      subst h
      rw [hp] at hv
      rw [hva]
      have e9 : (128 : Nat) ^ 9 = 9223372036854775808 := by decide
      rw [e9] at hv ⊢
      omega
    · have hv2 := Vi.val_lt (p ++ [c])
      have hle : (p ++ [c]).length ≤ 9 := by simp; omega
      have h9' : 128 ^ (p ++ [c]).length ≤ 128 ^ 9 := Nat.pow_le_pow_right (by decide) hle
      have e9 : (128 : Nat) ^ 9 = 9223372036854775808 := by decide
      omega
  rw [hs, Vi.get_ok ha (by omega) h1 hlt (by omega), hj, hva, hp]
  exact ⟨rfl, rfl, rfl⟩
theorem come_bad {zs : List Int} {k : Nat} {X c : Int} (h : Come zs k X) (hk : k ≤ 9) (hc : zs[k]? = some c) (h1 : c < 128) (hb : (k = 9 ∧ 1 < c) ∨ (0 < k ∧ c = 0)) : Vi.get zs = (0, 0, 3) := by
  obtain ⟨p, r, hs, hp, ha, rfl⟩ := h
  obtain ⟨r', rfl, hs'⟩ := split_at hs hp hc
  rw [hs]
  refine Vi.get_bad ha (by omega) h1 ?_
  rcases hb with ⟨h9, hc1⟩ | ⟨hk0, hc0⟩
  · left
    rw [Vi.val_append, hp, h9]
    have e9 : (128 : Nat) ^ 9 = 9223372036854775808 := by decide
    rw [e9]
    simp only [Vi.val]
    omega
  · exact .inr ⟨by omega, hc0⟩
theorem come_long {zs : List Int} {X c : Int} (h : Come zs 9 X) (hc : zs[9]? = some c) (h1 : 128 ≤ c) : Vi.get zs = (0, 0, 3) := by
  obtain ⟨p, r, hs, hp, ha, rfl⟩ := h
  obtain ⟨r', rfl, hs'⟩ := split_at hs hp hc
  rw [hs']
  refine Vi.get_long ?_ (by simp [hp])
  intro d hd
  simp only [List.mem_append, List.mem_singleton] at hd
  rcases hd with hd | rfl
  · exact ha d hd
  · exact h1
theorem come_end {zs : List Int} {X : Int} {k : Nat} (h : Come zs k X) (hk : k ≤ 9) (hl : k = zs.length) : Vi.get zs = (0, 0, 4) := by
  obtain ⟨p, r, hs, hp, ha, rfl⟩ := h
  have : r = [] := by
    apply List.eq_nil_of_length_eq_zero
    have := congrArg List.length hs
    simp at this; omega
  subst this
  rw [List.append_nil] at hs
  subst hs
  exact Vi.get_end ha (by omega)

end Go.Proofs.YtbohdmconeebeaaDoor

namespace Go.Proofs.YtbohdmconeebeaaDoor
open Go.RowKit
set_option maxRecDepth 100000


theorem u64_not (y : Int) (h0 : 0 ≤ y) (h1 : y ≤ 18446744073709551615) : bits .xor .u64 18446744073709551615 y = 18446744073709551615 - y := by
  obtain ⟨m, rfl⟩ := Int.eq_ofNat_of_zero_le h0
  have h := u64_xor_nat 18446744073709551615 m (by omega) (by omega)
  have e : 18446744073709551615 ^^^ m = 18446744073709551615 - m := by
    have hx := congrArg BitVec.toNat (BitVec.xor_allOnes (x := BitVec.ofNat 64 m))
    rw [BitVec.toNat_xor, BitVec.toNat_not, BitVec.toNat_allOnes, BitVec.toNat_ofNat, Nat.mod_eq_of_lt (by omega)] at hx
    rw [Nat.xor_comm]
    exact hx
  rw [e] at h
  rw [show (18446744073709551615 : Int) = ((18446744073709551615 : Nat) : Int) from rfl, h]
  omega

theorem zig_val (n : Int) (h0 : n < 0) (h1 : -9223372036854775808 ≤ n) : bits .xor .u64 IntKind.u64.max (IntKind.u64.wrap (IntKind.u64.wrap n * 2)) = -2 * n - 1 := by
  rw [show IntKind.u64.max = 18446744073709551615 from rfl, u64_not _ (by rw [IntKind.wrap_u64]; omega) (by rw [IntKind.wrap_u64]; omega), IntKind.wrap_u64, IntKind.wrap_u64]
  omega

end Go.Proofs.YtbohdmconeebeaaDoor

namespace Go.Proofs.YtbohdmconeebeaaDoor
open Go.RowKit

/-- the number of bytes, the lowest one first -/
def le : List Int → Int
  | [] => 0
  | c :: l => c + 256 * le l
theorem le_bound : ∀ {l : List Int}, (∀ c ∈ l, 0 ≤ c ∧ c ≤ 255) → 0 ≤ le l ∧ le l < 256 ^ l.length
  | [], _ => by simp [le]
  | c :: l, h => by
    have h1 := le_bound (l := l) fun d hd => h d (by simp [hd])
    have h2 := h c (by simp)
    simp only [le, List.length_cons, Int.pow_succ]
    omega
theorem le_bound4 {l : List Int} (h : ∀ c ∈ l, 0 ≤ c ∧ c ≤ 255) {n : Nat} (hl : l.length = n) (hn : n ≤ 4) : 0 ≤ le l ∧ le l ≤ 4294967295 := by
  have h1 := le_bound h
  rw [hl] at h1
  have h2 : (256 : Int) ^ n ≤ 4294967296 := by
    match n, hn with
    | 0, _ => decide
    | 1, _ => decide
    | 2, _ => decide
    | 3, _ => decide
    | 4, _ => decide
  omega
theorem le_bound2 {l : List Int} (h : ∀ c ∈ l, 0 ≤ c ∧ c ≤ 255) {n : Nat} (hl : l.length = n) (hn : n ≤ 2) : 0 ≤ le l ∧ le l ≤ 65535 := by
  have h1 := le_bound h
  rw [hl] at h1
  have h2 : (256 : Int) ^ n ≤ 65536 := by
    match n, hn with
    | 0, _ => decide
    | 1, _ => decide
    | 2, _ => decide
  omega
theorem le_bound1 {l : List Int} (h : ∀ c ∈ l, 0 ≤ c ∧ c ≤ 255) (hl : l.length = 1) : 0 ≤ le l ∧ le l ≤ 255 := by
  have h1 := le_bound h
  rw [hl] at h1
  have h2 : (256 : Int) ^ 1 = 256 := by decide
  omega
/-- the next byte below: shifted, and or -/
theorem or_shift (N c : Int) (h0 : 0 ≤ N) (h1 : N < 16777216) (c0 : 0 ≤ c) (c1 : c ≤ 255) : bits .or .u32 (IntKind.u32.wrap (N * 256)) c = c + 256 * N := by
  obtain ⟨m, rfl⟩ := Int.eq_ofNat_of_zero_le h0
  obtain ⟨d, rfl⟩ := Int.eq_ofNat_of_zero_le c0
  have e : IntKind.u32.wrap ((m : Int) * 256) = ((m * 256 : Nat) : Int) := by rw [IntKind.wrap_u32]; omega
  rw [e, u32_or_nat _ _ (by omega) (by omega)]
  have h : m * 256 ||| d = m * 256 + d := by
    rw [show m * 256 = m <<< 8 by rw [Nat.shiftLeft_eq], ← Nat.shiftLeft_add_eq_or_of_lt (by omega)]
  rw [h]; omega

/-- a word of n bytes -/
def wordR (l : List Int) (n : Nat) : Int × Nat × Nat := if l.length < n then (0, 0, 4) else (le (l.take n), n, 0)
/-- a number, not above the most -/
def numR (l : List Int) (most : Int) : Int × Nat × Nat :=
  if (Vi.get l).2.2 ≠ 0 then (0, 0, (Vi.get l).2.2) else if most < ((Vi.get l).1 : Int) then (0, 0, 5) else (((Vi.get l).1 : Int), (Vi.get l).2.1, 0)
/-- the signed one of a number -/
def zagZ (n : Int) : Int := if n % 2 = 1 then -(n / 2) - 1 else n / 2
theorem zagZ_range {n : Int} (h0 : 0 ≤ n) (h1 : n ≤ 18446744073709551615) : -9223372036854775808 ≤ zagZ n ∧ zagZ n ≤ 9223372036854775807 := by
  unfold zagZ; split <;> omega
/-- a signed one, between two -/
def sigR (l : List Int) (least most : Int) : Int × Nat × Nat :=
  if (Vi.get l).2.2 ≠ 0 then (0, 0, (Vi.get l).2.2) else if zagZ ((Vi.get l).1 : Int) < least ∨ most < zagZ ((Vi.get l).1 : Int) then (0, 0, 5) else (zagZ ((Vi.get l).1 : Int), (Vi.get l).2.1, 0)
/-- so many bytes -/
def rawR (l : List Int) (n : Int) : List Int × Nat × Nat := if n < 0 then ([], 0, 5) else if (l.length : Int) < n then ([], 0, 4) else (l.take n.toNat, n.toNat, 0)
/-- bytes, behind how many they are -/
def fldR (l : List Int) (most : Int) : List Int × Nat × Nat :=
  if (Vi.get l).2.2 ≠ 0 then ([], 0, (Vi.get l).2.2) else if max most 0 < ((Vi.get l).1 : Int) then ([], 0, 6) else if l.length - (Vi.get l).2.1 < (Vi.get l).1 then ([], 0, 4)
  else ((l.drop (Vi.get l).2.1).take (Vi.get l).1, (Vi.get l).2.1 + (Vi.get l).1, 0)

section
variable {l : List Int}
theorem wordR_le (n : Nat) : (wordR l n).2.1 ≤ l.length := by unfold wordR; split <;> simp <;> omega
theorem numR_le (most : Int) : (numR l most).2.1 ≤ l.length := by
  have := (Vi.get_le l).2.2.1
  unfold numR; split
  · simp
  · split
    · simp
    · exact this
theorem sigR_le (least most : Int) : (sigR l least most).2.1 ≤ l.length := by
  have := (Vi.get_le l).2.2.1
  unfold sigR; split
  · simp
  · split
    · simp
    · exact this
theorem rawR_le (n : Int) : (rawR l n).2.1 ≤ l.length := by 
  unfold rawR; split
  · simp
  · split
    · simp
    · show n.toNat ≤ l.length
      omega
theorem fldR_le (most : Int) : (fldR l most).2.1 ≤ l.length := by
  have := (Vi.get_le l).2.2.1
  unfold fldR; split
  · simp
  · split
    · simp
    · split
      · simp
      · show (Vi.get l).2.1 + (Vi.get l).1 ≤ l.length
        omega
end
end Go.Proofs.YtbohdmconeebeaaDoor

namespace Go.Proofs.YtbohdmconeebeaaDoor
open Go.RowKit
set_option maxRecDepth 100000

end Go.Proofs.YtbohdmconeebeaaDoor

namespace Go.Proofs.YtbohdmconeebeaaDoor
open Go.RowKit
set_option maxRecDepth 100000

/-- what a read's closure hands on: where nothing is wrong, the value and its bytes' number -/
def ClosI (k : IntKind) (x : Int × Nat × Nat) (r : Ending) : Prop :=
  ∃ (v s : Int), r = .returned (.tuple #[.int k v, .int .i64 s, .int .i64 x.2.2]) ∧ (x.2.2 = 0 → v = x.1 ∧ s = x.2.1)
theorem ClosI.bad {k : IntKind} {x : Int × Nat × Nat} {v s : Int} {e : Int} (h : x.2.2 ≠ 0) (he : e = x.2.2) : ClosI k x (.returned (.tuple #[.int k v, .int .i64 s, .int .i64 e])) := by
  subst he; exact ⟨v, s, rfl, fun h0 => absurd h0 h⟩
theorem ClosI.ok {k : IntKind} {x : Int × Nat × Nat} {v s : Int} {e : Int} (hv : v = x.1) (hs : s = x.2.1) (he : e = x.2.2) : ClosI k x (.returned (.tuple #[.int k v, .int .i64 s, .int .i64 e])) := by
  subst he; exact ⟨v, s, rfl, fun _ => ⟨hv, hs⟩⟩

section
variable (B : Nat) (a : Option Addr) (n cap c : Nat) (l : List Int) (w : World)
/-- what a closure that makes bytes hands on -/
def ClosB (x : List Int × Nat × Nat) (w : World) (r : Ending) (w' : World) : Prop :=
  ∃ (v : Value) (s : Int), r = .returned (.tuple #[v, .int .i64 s, .int .i64 x.2.2]) ∧ MadeK 5 .u8 w w' x.1 v ∧ (x.2.2 = 0 → s = x.2.1)
theorem ClosB.mk {x : List Int × Nat × Nat} {w w' : World} {v : Value} {s e : Int} (hm : MadeK 5 .u8 w w' x.1 v) (he : e = x.2.2) (hs : x.2.2 = 0 → s = x.2.1) : ClosB x w (.returned (.tuple #[v, .int .i64 s, .int .i64 e])) w' := by
  subst he; exact ⟨v, s, rfl, hm, hs⟩
end
end Go.Proofs.YtbohdmconeebeaaDoor

namespace Go.Proofs.YtbohdmconeebeaaDoor
open Go.RowKit Go.Shelf
set_option maxRecDepth 100000
attribute [local go_sem] Oper.semAt_some

theorem le_snoc_rev (L : List Int) (c : Int) : le (L ++ [c]).reverse = c + 256 * le L.reverse := by simp [le]
theorem bytesOf_bound (pre : List PB) : ∀ c ∈ (bytesOf pre).reverse, 0 ≤ c ∧ c ≤ 255 := by
  intro c hc
  simp only [bytesOf, List.mem_reverse, List.mem_map] at hc
  obtain ⟨x, _, rfl⟩ := hc
  exact x.2.2

set_option maxHeartbeats 4000000 in
/-- what the loop over the bytes that part gave makes: for those of a word, and for none -/
theorem wordc_go (a : Option Addr) (n cap c : Nat) (z : List Int) (m e : Int) (az : Option Addr) (nz cz : Nat) (w : World) (hcl : c < w.heap.size) (hc : w.cell? ⟨c, 0, none⟩ = some (.int .i64 m))
    (HP : ∀ w, Calls Tryd.prog 93 #[.slice a n cap, .int .i64 m] w fun r w' => r = .returned (.tuple #[.slice az nz cz, .int .i64 e]) ∧ w = w')
    (hzn : z.length = nz) (hz4 : nz ≤ 4) (hzb : ∀ x ∈ z, 0 ≤ x ∧ x ≤ 255) (hzm : Nums .u8 w w.heap.size az z) :
    Calls Tryd.prog 92 #[.slice a n cap, .pointer (some ⟨c, 0, none⟩)] w fun r w' => r = .returned (.tuple #[.int .u32 (le z), .int .i64 nz, .int .i64 e]) ∧ Below w.heap.size w w' := by
  refine (callsIn_wide (n := 3)).1 ?_
  refine callsIn_of_wp_marks Tryd.func92 rfl trivial ?_ rfl
  simp only [Tryd.ntmps92, List.size_toArray, List.length_cons, List.length_nil, Nat.reduceAdd, Nat.reduceSub, Array.replicate_succ, Array.replicate_zero, List.push_toArray, List.append_toArray, List.nil_append, List.cons_append]
  have hW0 : Below w.heap.size w (w.alloc (.cells #[.int .u32 0] 26)) := (Below.refl _ w).alloc (Nat.le_refl _) _
  have bC := Boxed.new w 26 (.int .u32 0)
  have hcW : (w.alloc (.cells #[.int .u32 0] 26)).cell? ⟨c, 0, none⟩ = some (.int .i64 m) := (hW0.cell (p := ⟨c, 0, none⟩) hcl).trans hc
  have hsz : (w.alloc (.cells #[.int .u32 0] 26)).heap.size = w.heap.size + 1 := by simp
  have hzW : Nums .u8 (w.alloc (.cells #[.int .u32 0] 26)) w.heap.size az z := hzm.below hW0
  gi_wp2_with fail
  refine ⟨trivial, ?_⟩
  generalize w.alloc (.cells #[.int .u32 0] 26) = W0 at *
  refine (callsIn_wide.2 (HP W0)).mono ?_
  rintro e w1 ⟨rfl, rfl⟩
  gi_wp2_with fail
  refine ⟨trivial, ?_⟩
  refine (callsIn_wide.2 (back_any az nz cz W0)).mono ?_
  rintro e w1 ⟨rfl, rfl⟩
  gi_wp2_with fail
  have hb1 : Below W0.heap.size W0 (W0.alloc (.cells #[.slice az nz cz] 29)) := (Below.refl _ W0).alloc (Nat.le_refl _) _
  have hbox : (W0.alloc (.cells #[.slice az nz cz] 29)).cell? ⟨W0.heap.size, 0, none⟩ = some (.slice az z.length cz) := by rw [hzn]; simp
  have kC := bC.alloc (.cells #[.slice az nz cz] 29)
  have hz1 := hzW.below (hb1.mono (by omega))
  have hs1 : (W0.alloc (.cells #[.slice az nz cz] 29)).heap.size = w.heap.size + 2 := by simp; omega
  have hbw := hW0.trans (hb1.mono hW0.size)
  generalize W0.alloc (.cells #[.slice az nz cz] 29) = w1 at *
  rw [hsz] at hbox
  refine wpIn_rangeFunc_ownG rfl (by omega) (gf := 96) (lb := #[.pointer (some ⟨(w.heap.size + 1), 0, none⟩)]) rfl trivial (enters_of Tryd.func96 (by kernel_rfl) rfl)
    (back_stops _ (by decide) (fun k => k < w.heap.size ∨ k = (w.heap.size + 1)) w1 z (w.heap.size + 1) cz az (by omega) hzb (by omega) (.inr rfl) hbox (hz1.toS (fun b hb => .inl hb))) kept_t (kept_b (by omega)) (Below.refl _ _) (fun _ => rfl)
    (fun pre W => Boxed W w.heap.size 26 (.int .u32 (le (bytesOf pre).reverse)) ∧ Below w.heap.size w W)
    (fun _ _ _ => False)
    (OwnFrom.and (Own.from (boxed_own _ _ _) _) (ownFrom_below (Nat.le_refl _) (by omega)))
    (fun _ _ _ _ _ hs _ _ => hs)
    ⟨kC, hbw⟩
    ?a1 ?assign ?body ?done ?stop
  case assign =>
    intro l x W K hK
    gi_wp2
    exact hK
  case body =>
    rintro l pre x W ⟨hC, hB⟩ hcnt
    obtain ⟨⟨x1, x2⟩, hx1, hx2, hx3⟩ := x
    simp only at hx1 hx2 hx3
    have hcC := hC.cell
    have hfC := hC.frozen
    have hN0 := le_bound (bytesOf_bound pre)
    have hlen : (bytesOf pre).reverse.length ≤ 3 := by rw [List.length_reverse, bytesOf_length]; omega
    have hN1 : le (bytesOf pre).reverse < 16777216 := by
      have h2 : (256 : Int) ^ (bytesOf pre).reverse.length ≤ 16777216 := by
        generalize (bytesOf pre).reverse.length = q at hlen
        match q, hlen with
        | 0, _ => decide
        | 1, _ => decide
        | 2, _ => decide
        | 3, _ => decide
      omega
    have hnext : Hid (le (bytesOf (pre ++ [(⟨(x1, x2), hx1, hx2, hx3⟩ : PB)])).reverse = bits .or .u32 (IntKind.u32.wrap (le (bytesOf pre).reverse * 256)) x2) := by
      show _ = _
      rw [or_shift _ _ hN0.1 hN1 hx2 hx3, bytesOf_append, show bytesOf [(⟨(x1, x2), hx1, hx2, hx3⟩ : PB)] = [x2] from rfl, le_snoc_rev]
    have hfin := Lib.hid (show KeepsFrom w1.heap.size W (W.setCell ⟨w.heap.size, 0, none⟩ (.int .u32 (bits .or .u32 (IntKind.u32.wrap (le (bytesOf pre).reverse * 256)) x2))) ∧ KeepS (fun k => k < w.heap.size ∨ k = (w.heap.size + 1)) W (W.setCell ⟨w.heap.size, 0, none⟩ (.int .u32 (bits .or .u32 (IntKind.u32.wrap (le (bytesOf pre).reverse * 256)) x2))) ∧ Boxed (W.setCell ⟨w.heap.size, 0, none⟩ (.int .u32 (bits .or .u32 (IntKind.u32.wrap (le (bytesOf pre).reverse * 256)) x2))) w.heap.size 26 (.int .u32 (bits .or .u32 (IntKind.u32.wrap (le (bytesOf pre).reverse * 256)) x2)) ∧ Below w.heap.size w (W.setCell ⟨w.heap.size, 0, none⟩ (.int .u32 (bits .or .u32 (IntKind.u32.wrap (le (bytesOf pre).reverse * 256)) x2))) from
      ⟨(KeepsOthers.setCell _ _ _).from _, kept_set (KeepS.refl _ _) (by omega) _ _, hC.set _, hB.setCell (p := ⟨w.heap.size, 0, none⟩) (Nat.le_refl _) _⟩)
    clear hC hB kC hbw hzm hzW hz1 hN0 hN1 hlen hcnt
    generalize le (bytesOf pre).reverse = N at *
    gi_wp2
    exact ⟨hfin.out.1, hfin.out.2.1, by rw [hnext.out]; exact hfin.out.2.2.1, hfin.out.2.2.2⟩
  case done =>
    rintro D ys W hD hY ⟨hC, hB⟩ hK
    rw [hY, List.reverse_reverse] at hC
    have hcC := hC.cell
    have hBK := hB.trans (belowK_b (w := w) (Nat.le_refl _) W D _ (.deferred none) (by omega) hK rfl rfl)
    clear hY hC kC
    gi_wp2
    refine ⟨by simp, .inl ⟨_, _, rfl, run_takeDeferred hK, ?_⟩⟩
    exact ⟨_, results_tmp3 rfl _ _ _, rfl, hBK⟩
  case stop =>
    rintro D c pre W _ _ h _
    exact h.elim

theorem wordc_any (a : Option Addr) (n cap c : Nat) (l : List Int) (m : Nat) (w : World) (hn : l.length = n) (hnc : n ≤ cap) (hm : m ≤ 4) (hz : ∀ x ∈ l, 0 ≤ x ∧ x ≤ 255) (h1 : Nums .u8 w w.heap.size a l) (hcl : c < w.heap.size) (hc : w.cell? ⟨c, 0, none⟩ = some (.int .i64 m)) :
    Calls Tryd.prog 92 #[.slice a n cap, .pointer (some ⟨c, 0, none⟩)] w fun r w' => ClosI .u32 (wordR l m) r ∧ Below w.heap.size w w' := by
  by_cases hmore : n < m
  · have HR : wordR l m = (0, 0, 4) := by unfold wordR; rw [if_pos (by omega)]
    refine (wordc_go a n cap c [] m 4 none 0 0 w hcl hc (fun w => part_more a n cap m w (by omega)) rfl (by decide) (by simp) Nums.nil).mono ?_
    rintro r w' ⟨rfl, hb⟩
    exact ⟨ClosI.bad (by rw [HR]; decide) (by rw [HR]; rfl), hb⟩
  · have HR : wordR l m = (le (l.take m), m, 0) := by unfold wordR; rw [if_neg (by omega)]
    refine (wordc_go a n cap c (l.take m) m 0 a m m w hcl hc (fun w => by have h := part_ok a n cap m w (by omega) (by omega) hnc; rwa [Int.toNat_natCast] at h) (by rw [List.length_take]; omega) hm (fun x hx => hz x (List.mem_of_mem_take hx)) (h1.take m)).mono ?_
    rintro r w' ⟨rfl, hb⟩
    exact ⟨by rw [HR]; exact ClosI.ok rfl rfl rfl, hb⟩
end Go.Proofs.YtbohdmconeebeaaDoor

namespace Go.Proofs.YtbohdmconeebeaaDoor
open Go.RowKit
set_option maxRecDepth 100000

/-- place and error behind a read -/
def placeOf (p e : Nat) (size : Nat) : Nat := if e = 0 then p + size else p
def errOf (e err : Nat) : Nat := if e = 0 then err else e
def ansI (e : Nat) (x : Int) : Int := if e = 0 then x else 0
def ansB (e : Nat) (L : List Int) : List Int := if e = 0 then L else []
/-- what a read that answers a number leaves -/
def ReadI (k : IntKind) (lo b : Nat) (zs : List Int) (p e : Nat) (x : Int × Nat × Nat) (w : World) (r : Ending) (w' : World) : Prop :=
  r = .returned (.int k (ansI e x.1)) ∧ LensAt w' lo b zs (placeOf p e x.2.1) (errOf e x.2.2) ∧ Off (fun j => j = b) w w'
/-- what a read that answers bytes leaves -/
def ReadB (lo b : Nat) (zs : List Int) (p e : Nat) (x : List Int × Nat × Nat) (w : World) (r : Ending) (w' : World) : Prop :=
  (∃ A c, r = .returned (.slice A (ansB e x.1).length c) ∧ (ansB e x.1).length ≤ c ∧ NumsIn .u8 w' w.heap.size w'.heap.size A (ansB e x.1)) ∧ LensAt w' lo b zs (placeOf p e x.2.1) (errOf e x.2.2) ∧ Off (fun j => j = b) w w'

section
variable {k : IntKind} {lo b : Nat} {zs : List Int} {p e : Nat} {x : Int × Nat × Nat} {y : List Int × Nat × Nat} {w w0 w' : World} {r : Ending}
theorem ReadI.later (h : ReadI k lo b zs p e x w r w') (hb : Below w0.heap.size w0 w) : ReadI k lo b zs p e x w0 r w' :=
  ⟨h.1, h.2.1, (Off.of_below hb).trans h.2.2 fun _ _ h => h⟩
theorem ReadB.later (h : ReadB lo b zs p e y w r w') (hb : Below w0.heap.size w0 w) : ReadB lo b zs p e y w0 r w' := by
  obtain ⟨⟨A, c, h1, h2, h3⟩, h4, h5⟩ := h
  exact ⟨⟨A, c, h1, h2, h3.lower hb.size⟩, h4, (Off.of_below hb).trans h5 fun _ _ h => h⟩
theorem ReadI.err (h : LensAt w lo b zs p e) (he : e ≠ 0) : ReadI k lo b zs p e x w (.returned (.int k 0)) w :=
  ⟨by simp [ansI, he], by simpa [placeOf, errOf, he] using h, Off.refl _ _⟩
theorem ReadB.err (h : LensAt w lo b zs p e) (he : e ≠ 0) : ReadB lo b zs p e y w (.returned (.slice none 0 0)) w :=
  ⟨⟨none, 0, by simp [ansB, he], by simp [ansB, he], fun hn => absurd (by simp [ansB, he]) hn⟩, by simpa [placeOf, errOf, he] using h, Off.refl _ _⟩
theorem ReadI.ok {w1 : World} (h : LensAt w lo b zs p 0) (h0 : x.2.2 = 0) (hs : p + x.2.1 ≤ zs.length) (hb : Below w.heap.size w w1) : ReadI k lo b zs p 0 x w (.returned (.int k x.1)) (w1.setCell ⟨b, 1, none⟩ (.int .i64 (p + x.2.1))) := by
  refine ⟨by simp [ansI], ?_, (Off.of_below (S := fun j => j = b) hb).setCell (p := ⟨b, 1, none⟩) rfl _⟩
  have := (h.below hb).move hs
  rw [Int.natCast_add] at this
  simpa [placeOf, errOf, h0] using this
theorem ReadI.bad {w1 : World} (h : LensAt w lo b zs p 0) (h0 : x.1 = 0) (h1 : x.2.1 = 0) (hb : Below w.heap.size w w1) : ReadI k lo b zs p 0 x w (.returned (.int k 0)) (w1.setCell ⟨b, 2, none⟩ (.int .i64 x.2.2)) := by
  refine ⟨by simp [ansI, h0], ?_, (Off.of_below (S := fun j => j = b) hb).setCell (p := ⟨b, 2, none⟩) rfl _⟩
  have := (h.below hb).fail x.2.2
  simpa [placeOf, errOf, h1] using this
theorem NumsIn.set {w1 : World} {A : Option Addr} {L : List Int} {s : Nat} (h : NumsIn .u8 w1 s w1.heap.size A L) (hb : b < s) (o : Nat) (v : Value) : NumsIn .u8 (w1.setCell ⟨b, o, none⟩ v) s (w1.setCell ⟨b, o, none⟩ v).heap.size A L := by
  have h2 := h.keeps (B := w1.setCell ⟨b, o, none⟩ v) ⟨by simp [World.setCell], fun k h4 h5 => Below.heap_setCell _ _ _ _ (by simp; omega)⟩
  exact h2.mono (by simp [World.setCell])
theorem ReadB.ok {w1 : World} {v : Value} (h : LensAt w lo b zs p 0) (h0 : y.2.2 = 0) (hs : p + y.2.1 ≤ zs.length) (hm : MadeK 5 .u8 w w1 y.1 v) : ReadB lo b zs p 0 y w (.returned v) (w1.setCell ⟨b, 1, none⟩ (.int .i64 (p + y.2.1))) := by
  refine ⟨?_, ?_, (Off.of_below (S := fun j => j = b) hm.2).setCell (p := ⟨b, 1, none⟩) rfl _⟩
  · obtain ⟨A, c, rfl, hc, _⟩ := hm.slice
    exact ⟨A, c, by simp [ansB], by simpa [ansB] using hc, by simpa [ansB] using hm.numsIn.set h.lt 1 _⟩
  · have := (h.below hm.2).move hs
    rw [Int.natCast_add] at this
    simpa [placeOf, errOf, h0] using this
theorem ReadB.bad {w1 : World} (h : LensAt w lo b zs p 0) (h0 : y.1 = []) (h1 : y.2.1 = 0) (hb : Below w.heap.size w w1) : ReadB lo b zs p 0 y w (.returned (.slice none 0 0)) (w1.setCell ⟨b, 2, none⟩ (.int .i64 y.2.2)) := by
  refine ⟨⟨none, 0, by simp [ansB, h0], by simp [ansB, h0], fun hn => absurd (by simp [ansB, h0]) hn⟩, ?_, (Off.of_below (S := fun j => j = b) hb).setCell (p := ⟨b, 2, none⟩) rfl _⟩
  have := (h.below hb).fail y.2.2
  simpa [placeOf, errOf, h1] using this
end
theorem numR_err {l : List Int} {m : Int} (h : (numR l m).2.2 ≠ 0) : (numR l m).1 = 0 ∧ (numR l m).2.1 = 0 := by
  revert h; unfold numR; split; (intro _; exact ⟨rfl, rfl⟩); split; (intro _; exact ⟨rfl, rfl⟩); intro h; exact absurd rfl h
theorem sigR_err {l : List Int} {m1 m : Int} (h : (sigR l m1 m).2.2 ≠ 0) : (sigR l m1 m).1 = 0 ∧ (sigR l m1 m).2.1 = 0 := by
  revert h; unfold sigR; split; (intro _; exact ⟨rfl, rfl⟩); split; (intro _; exact ⟨rfl, rfl⟩); intro h; exact absurd rfl h
theorem wordR_err {l : List Int} {m : Nat} (h : (wordR l m).2.2 ≠ 0) : (wordR l m).1 = 0 ∧ (wordR l m).2.1 = 0 := by
  revert h; unfold wordR; split; (intro _; exact ⟨rfl, rfl⟩); intro h; exact absurd rfl h
theorem rawR_err {l : List Int} {m : Int} (h : (rawR l m).2.2 ≠ 0) : (rawR l m).1 = [] ∧ (rawR l m).2.1 = 0 := by
  revert h; unfold rawR; split; (intro _; exact ⟨rfl, rfl⟩); split; (intro _; exact ⟨rfl, rfl⟩); intro h; exact absurd rfl h
theorem fldR_err {l : List Int} {m : Int} (h : (fldR l m).2.2 ≠ 0) : (fldR l m).1 = [] ∧ (fldR l m).2.1 = 0 := by
  revert h; unfold fldR; split; (intro _; exact ⟨rfl, rfl⟩); split; (intro _; exact ⟨rfl, rfl⟩); split; (intro _; exact ⟨rfl, rfl⟩); intro h; exact absurd rfl h
theorem drop_fit {zs : List Int} {p s : Nat} (h : s ≤ (zs.drop p).length) (hp : p ≤ zs.length) : p + s ≤ zs.length := by rw [List.length_drop] at h; omega
theorem drop_bytes {zs : List Int} (hz : ∀ x ∈ zs, 0 ≤ x ∧ x ≤ 255) (p : Nat) : ∀ x ∈ zs.drop p, 0 ≤ x ∧ x ≤ 255 := fun x hx => hz x (List.mem_of_mem_drop hx)

section
variable (lo b : Nat) (zs : List Int) (p e : Nat) (w : World)
theorem rdW_any (c m : Nat) (hm : m ≤ 4) (h : LensAt w lo b zs p e) (hl : zs.length ≤ 1000000000) (hz : ∀ x ∈ zs, 0 ≤ x ∧ x ≤ 255) (hcl : c < w.heap.size) (hc : w.cell? ⟨c, 0, none⟩ = some (.int .i64 m)) :
    Calls Tryd.prog 91 #[.pointer (some ⟨b, 0, none⟩), .func (.func 92) #[] #[.pointer (some ⟨c, 0, none⟩)]] w fun r w' => ReadI .u32 lo b zs p e (wordR (zs.drop p) m) w r w' := by
  by_cases he : e = 0
  · subst he
    have HC : ∀ n A cap, Nums .u8 (w.drewN n) b A (zs.drop p) → zs.length - p ≤ cap → Calls Tryd.prog 92 #[.slice A (zs.length - p) cap, .pointer (some ⟨c, 0, none⟩)] (w.drewN n) fun r w' => ClosI .u32 (wordR (zs.drop p) m) r ∧ Below w.heap.size w w' := fun n A cap hn hcp =>
      (wordc_any A (zs.length - p) cap c (zs.drop p) m (w.drewN n) (by simp) hcp hm (drop_bytes hz p) (hn.mono (Nat.le_of_lt h.lt)) hcl hc).mono fun r w' ⟨h1, h2⟩ => ⟨h1, (below_drewN (Below.refl _ _) n).trans h2⟩
    by_cases h0 : (wordR (zs.drop p) m).2.2 = 0
    · refine (rdW_ok lo b zs p w c h hl (wordR (zs.drop p) m).2.1 (drop_fit (wordR_le m) h.place) (fun v _ => v = .int .u32 (wordR (zs.drop p) m).1) (fun n A cap hn hc2 => (HC n A cap hn hc2).mono ?_)).mono ?_
      · rintro r w' ⟨⟨v, s, rfl, hv⟩, hb⟩
        obtain ⟨rfl, rfl⟩ := hv h0
        exact ⟨_, by rw [h0]; rfl, hb, rfl⟩
      · rintro r w' ⟨v, w1, rfl, rfl, hb, rfl⟩
        exact ReadI.ok h h0 (drop_fit (wordR_le m) h.place) hb
    · refine (rdW_bad lo b zs p w c h hl (wordR (zs.drop p) m).2.2 h0 (fun _ _ => True) (fun n A cap hn hc2 => (HC n A cap hn hc2).mono ?_)).mono ?_
      · rintro r w' ⟨⟨v, s, rfl, _⟩, hb⟩
        exact ⟨_, _, rfl, hb, trivial⟩
      · rintro r w' ⟨rfl, v, w1, _, hb, rfl⟩
        exact ReadI.bad h (wordR_err h0).1 (wordR_err h0).2 hb
  · refine (rdW_err lo b zs p e w _ h he).mono ?_
    rintro r w' ⟨rfl, rfl⟩
    exact ReadI.err h he
end
end Go.Proofs.YtbohdmconeebeaaDoor

namespace Go.Proofs.YtbohdmconeebeaaDoor
open Go.RowKit
set_option maxRecDepth 100000
theorem ansI_range {e : Nat} {x a b : Int} (h0 : a ≤ x) (h1 : x ≤ b) (ha : a ≤ 0) (hb : 0 ≤ b) : a ≤ ansI e x ∧ ansI e x ≤ b := by
  unfold ansI; split <;> omega
theorem wordR_range {l : List Int} (hz : ∀ x ∈ l, 0 ≤ x ∧ x ≤ 255) {m : Nat} (hm : m ≤ 4) : 0 ≤ (wordR l m).1 ∧ (wordR l m).1 ≤ 4294967295 := by
  unfold wordR; split
  · simp
  · exact le_bound4 (fun x hx => hz x (List.mem_of_mem_take hx)) (n := m) (by rw [List.length_take]; omega) hm
theorem wordR_range2 {l : List Int} (hz : ∀ x ∈ l, 0 ≤ x ∧ x ≤ 255) : 0 ≤ (wordR l 2).1 ∧ (wordR l 2).1 ≤ 65535 := by
  unfold wordR; split
  · simp
  · exact le_bound2 (fun x hx => hz x (List.mem_of_mem_take hx)) (n := 2) (by rw [List.length_take]; omega) (by decide)
theorem wordR_range1 {l : List Int} (hz : ∀ x ∈ l, 0 ≤ x ∧ x ≤ 255) : 0 ≤ (wordR l 1).1 ∧ (wordR l 1).1 ≤ 255 := by
  unfold wordR; split
  · simp
  · exact le_bound1 (fun x hx => hz x (List.mem_of_mem_take hx)) (by rw [List.length_take]; omega)
section
variable (lo b : Nat) (zs : List Int) (p e : Nat) (w : World)
theorem lword_any (m : Nat) (hm : m ≤ 4) (h : LensAt w lo b zs p e) (hl : zs.length ≤ 1000000000) (hz : ∀ x ∈ zs, 0 ≤ x ∧ x ≤ 255) :
    Calls Tryd.prog 88 #[.pointer (some ⟨b, 0, none⟩), .int .i64 m] w fun r w' => ReadI .u32 lo b zs p e (wordR (zs.drop p) m) w r w' := by
  have hb : Below w.heap.size w (w.alloc (.cells #[.int .i64 m] 3)) := (Below.refl _ w).alloc (Nat.le_refl _) _
  have HC := (rdW_any lo b zs p e (w.alloc (.cells #[.int .i64 m] 3)) w.heap.size m hm (h.below hb) hl hz (by simp) (by simp)).mono fun r w' hr => hr.later hb
  clear h hb hz
  go_enter Tryd.func88, Tryd.ntmps88
  go_wp2_with (go_at_call 91; refine HC.mono ?_; rintro r w2 ⟨rfl, hr1, hr2⟩)
  go_ret
  exact ⟨rfl, hr1, hr2⟩
theorem lu8_any (h : LensAt w lo b zs p e) (hl : zs.length ≤ 1000000000) (hz : ∀ x ∈ zs, 0 ≤ x ∧ x ≤ 255) :
    Calls Tryd.prog 80 #[.pointer (some ⟨b, 0, none⟩)] w fun r w' => ReadI .u8 lo b zs p e (wordR (zs.drop p) 1) w r w' := by
  have HC := lword_any lo b zs p e w 1 (by decide) h hl hz
  have hr := wordR_range1 (drop_bytes hz p)
  have hr' := ansI_range (e := e) hr.1 hr.2 (by decide) (by decide)
  obtain ⟨X, hX⟩ : ∃ X, ansI e (wordR (zs.drop p) 1).1 = X := ⟨_, rfl⟩
  unfold ReadI at HC ⊢
  rw [hX] at HC hr' ⊢
  clear h hz hr hX
  go_enter Tryd.func80, Tryd.ntmps80
  go_wp2_with (go_at_call 88; refine HC.mono ?_; rintro r w2 ⟨rfl, hr1, hr2⟩)
  go_ret
  exact ⟨rfl, hr1, hr2⟩
theorem lu32_any (h : LensAt w lo b zs p e) (hl : zs.length ≤ 1000000000) (hz : ∀ x ∈ zs, 0 ≤ x ∧ x ≤ 255) :
    Calls Tryd.prog 81 #[.pointer (some ⟨b, 0, none⟩)] w fun r w' => ReadI .u32 lo b zs p e (wordR (zs.drop p) 4) w r w' := by
  have HC := lword_any lo b zs p e w 4 (by decide) h hl hz
  clear h hz
  go_enter Tryd.func81, Tryd.ntmps81
  go_wp2_with (go_at_call 88; refine HC.mono ?_; rintro r w2 ⟨rfl, hr1, hr2⟩)
  go_ret
  exact ⟨rfl, hr1, hr2⟩
end
theorem lword_nil (w : World) (m : Int) : Calls Tryd.prog 88 #[.pointer none, .int .i64 m] w fun r w' => r = .returned (.int .u32 0) ∧ Below w.heap.size w w' := by
  go_enter Tryd.func88, Tryd.ntmps88
  go_wp2_with (go_at_call 91; refine (rdW_nil _ _).mono ?_; rintro r w2 ⟨rfl, rfl⟩)
  go_ret
  exact ⟨rfl, (Below.refl _ w).alloc (Nat.le_refl _) _⟩
theorem lu8_nil (w : World) : Calls Tryd.prog 80 #[.pointer none] w fun r w' => r = .returned (.int .u8 0) ∧ Below w.heap.size w w' := by
  go_enter Tryd.func80, Tryd.ntmps80
  go_wp2_with (go_at_call 88; refine (lword_nil _ 1).mono ?_; rintro r w2 ⟨rfl, hb⟩)
  go_ret
  exact ⟨rfl, hb⟩
theorem lu32_nil (w : World) : Calls Tryd.prog 81 #[.pointer none] w fun r w' => r = .returned (.int .u32 0) ∧ Below w.heap.size w w' := by
  go_enter Tryd.func81, Tryd.ntmps81
  go_wp2_with (go_at_call 88; refine (lword_nil _ 4).mono ?_; rintro r w2 ⟨rfl, hb⟩)
  go_ret
  exact ⟨rfl, hb⟩
end Go.Proofs.YtbohdmconeebeaaDoor

namespace Go.Proofs.YtbohdmconeebeaaDoor
open Go.RowKit
set_option maxRecDepth 100000

/-- the head of bytes, and what is wrong -/
def prs : List Int → (Int × Int × Int × Int × Int) × Int
  | [z0, z1, z2, z3, z4, z5, z6, z7] => if chk z0 z1 z6 z7 = 0 then ((z0, z1, le [z2, z3, z4, z5], z6, z7), 0) else ((0, 0, 0, 0, 0), chk z0 z1 z6 z7)
  | zs => ((0, 0, 0, 0, 0), if zs.length < 8 then 13 else 3)
def hdP (x : Int × Int × Int × Int × Int) : Value := hdV x.1 x.2.1 x.2.2.1 x.2.2.2.1 x.2.2.2.2
theorem prs_8 (z0 z1 z2 z3 z4 z5 z6 z7 : Int) : prs [z0, z1, z2, z3, z4, z5, z6, z7] = if chk z0 z1 z6 z7 = 0 then ((z0, z1, le [z2, z3, z4, z5], z6, z7), 0) else ((0, 0, 0, 0, 0), chk z0 z1 z6 z7) := rfl
theorem prs_short {zs : List Int} (h : zs.length < 8) : prs zs = ((0, 0, 0, 0, 0), 13) := by
  unfold prs
  split
  · simp at h
  · rw [if_pos h]
theorem prs_long {zs : List Int} (h : 8 < zs.length) : prs zs = ((0, 0, 0, 0, 0), 3) := by
  unfold prs
  split
  · simp at h
  · rw [if_neg (by omega)]
theorem eight {zs : List Int} (h : zs.length = 8) : ∃ z0 z1 z2 z3 z4 z5 z6 z7, zs = [z0, z1, z2, z3, z4, z5, z6, z7] := by
  match zs, h with
  | [z0, z1, z2, z3, z4, z5, z6, z7], _ => exact ⟨z0, z1, z2, z3, z4, z5, z6, z7, rfl⟩

/-- five cells written one by one -/
theorem set5 {W : World} {R : Nat} {t : TypeId} {x0 x1 x2 x3 x4 : Value} (y0 y1 y2 y3 y4 : Value) (h : W.heap[R]? = some (.cells #[x0, x1, x2, x3, x4] t (0, 0))) :
    (((((W.setCell ⟨R, 0, none⟩ y0).setCell ⟨R, 1, none⟩ y1).setCell ⟨R, 2, none⟩ y2).setCell ⟨R, 3, none⟩ y3).setCell ⟨R, 4, none⟩ y4).heap[R]? = some (.cells #[y0, y1, y2, y3, y4] t (0, 0)) := by
  have := setCell_at (j := 4) (u := y4) (setCell_at (j := 3) (u := y3) (setCell_at (j := 2) (u := y2) (setCell_at (j := 1) (u := y1) (setCell_at (j := 0) (u := y0) h))))
  simpa using this
theorem below5 {w W : World} {R : Nat} (y0 y1 y2 y3 y4 : Value) (hR : w.heap.size ≤ R) (h : Below w.heap.size w W) :
    Below w.heap.size w (((((W.setCell ⟨R, 0, none⟩ y0).setCell ⟨R, 1, none⟩ y1).setCell ⟨R, 2, none⟩ y2).setCell ⟨R, 3, none⟩ y3).setCell ⟨R, 4, none⟩ y4) :=
  ((((h.setCell (p := ⟨R, 0, none⟩) hR y0).setCell (p := ⟨R, 1, none⟩) hR y1).setCell (p := ⟨R, 2, none⟩) hR y2).setCell (p := ⟨R, 3, none⟩) hR y3).setCell (p := ⟨R, 4, none⟩) hR y4

theorem hparse_short (a : Option Addr) (n cap : Nat) (w : World) (hn : n < 8) :
    Calls Tryd.prog 62 #[.slice a n cap] w fun e w' => e = .returned (.tuple #[hdV 0 0 0 0 0, .int .i64 13]) ∧ Below w.heap.size w w' := by
  have h1 : (n : Int) < 8 := by omega
  go_enter Tryd.func62, Tryd.ntmps62
  go_wp2
  refine bodyPost_ret (v := .tuple #[hdV 0 0 0 0 0, .int .i64 13]) (by simp [results, Tryd.results62, go_sem, hdV]) rfl ⟨rfl, (Below.refl _ w).alloc (Nat.le_refl _) _⟩
theorem hparse_long (a : Option Addr) (n cap : Nat) (w : World) (hn : 8 < n) :
    Calls Tryd.prog 62 #[.slice a n cap] w fun e w' => e = .returned (.tuple #[hdV 0 0 0 0 0, .int .i64 3]) ∧ Below w.heap.size w w' := by
  have h1 : ¬ (n : Int) < 8 := by omega
  have h2 : 8 < (n : Int) := by omega
  go_enter Tryd.func62, Tryd.ntmps62
  go_wp2
  refine bodyPost_ret (v := .tuple #[hdV 0 0 0 0 0, .int .i64 3]) (by simp [results, Tryd.results62, go_sem, hdV]) rfl ⟨rfl, (Below.refl _ w).alloc (Nat.le_refl _) _⟩

section
variable {w : World} {lo b p : Nat} {zs : List Int}
theorem u8_at {z : Int} (h : LensAt w lo b zs p 0) (hl : zs.length ≤ 1000000000) (hz : ∀ x ∈ zs, 0 ≤ x ∧ x ≤ 255) (hp : zs[p]? = some z) :
    Calls Tryd.prog 80 #[.pointer (some ⟨b, 0, none⟩)] w fun r w' => r = .returned (.int .u8 z) ∧ LensAt w' lo b zs (p + 1) 0 ∧ Off (fun j => j = b) w w' := by
  refine (lu8_any lo b zs p 0 w h hl hz).mono fun r w' hr => ?_
  have hlt : p < zs.length := (List.getElem?_eq_some_iff.1 hp).1
  have hw : wordR (zs.drop p) 1 = (z, 1, 0) := by
    unfold wordR
    rw [if_neg (by rw [List.length_drop]; omega), List.drop_eq_getElem_cons hlt]
    have := (List.getElem?_eq_some_iff.1 hp).2
    simp [le, this]
  unfold ReadI at hr
  rw [hw] at hr
  exact hr
theorem u32_at (h : LensAt w lo b zs p 0) (hl : zs.length ≤ 1000000000) (hz : ∀ x ∈ zs, 0 ≤ x ∧ x ≤ 255) (hp : p + 4 ≤ zs.length) :
    Calls Tryd.prog 81 #[.pointer (some ⟨b, 0, none⟩)] w fun r w' => r = .returned (.int .u32 (le ((zs.drop p).take 4))) ∧ LensAt w' lo b zs (p + 4) 0 ∧ Off (fun j => j = b) w w' := by
  refine (lu32_any lo b zs p 0 w h hl hz).mono fun r w' hr => ?_
  have hw : wordR (zs.drop p) 4 = (le ((zs.drop p).take 4), 4, 0) := by
    unfold wordR
    rw [if_neg (by rw [List.length_drop]; omega)]
  unfold ReadI at hr
  rw [hw] at hr
  exact hr
end
end Go.Proofs.YtbohdmconeebeaaDoor

namespace Go.Proofs.YtbohdmconeebeaaDoor
open Go.RowKit
set_option maxRecDepth 100000

/-- between two reads: the lens stands at p, the head so far lies in block B, the result in block R -/
def PSt (w : World) (R lo b B : Nat) (zs : List Int) (p : Nat) (cs : Array Value) (W : World) : Prop :=
  LensAt W lo b zs p 0 ∧ W.heap[B]? = some (.cells cs 28 (0, 0)) ∧ W.heap[R]? = some (.cells #[.int .i64 0, .int .i64 0, .int .u32 0, .int .i64 0, .int .i64 0] 28 (0, 0)) ∧ Below w.heap.size w W
section
variable {w W W' : World} {R lo b B p p' : Nat} {zs : List Int} {cs : Array Value}
theorem PSt.read (h : PSt w R lo b B zs p cs W) (hl : LensAt W' lo b zs p' 0) (ho : Off (fun j => j = b) W W') (hB : B ≠ b) (hR : R ≠ b) (hb : w.heap.size ≤ b) : PSt w R lo b B zs p' cs W' := by
  have l1 : B < W.heap.size := (Array.getElem?_eq_some_iff.1 h.2.1).1
  have l2 : R < W.heap.size := (Array.getElem?_eq_some_iff.1 h.2.2.1).1
  exact ⟨hl, (ho.block B l1 hB).trans h.2.1, (ho.block R l2 hR).trans h.2.2.1, h.2.2.2.trans (ho.below (B := w.heap.size) (fun k hk => by omega) h.2.2.2.size)⟩
theorem PSt.set (h : PSt w R lo b B zs p cs W) (j : Nat) (v : Value) (hbB : b < B) (hR : R ≠ B) (hB : w.heap.size ≤ B) : PSt w R lo b B zs p (cs.setIfInBounds j v) (W.setCell ⟨B, j, none⟩ v) := by
  have ho : Off (fun k => k = B) W (W.setCell ⟨B, j, none⟩ v) := (Off.refl (fun k => k = B) W).setCell (p := ⟨B, j, none⟩) rfl v
  exact ⟨h.1.off ho (fun k _ hk => by omega), setCell_at h.2.1, (Below.heap_setCell _ _ _ _ (by simp only; omega)).trans h.2.2.1, h.2.2.2.setCell (p := ⟨B, j, none⟩) hB v⟩
theorem PSt.cell (h : PSt w R lo b B zs p cs W) {j : Nat} {v : Value} (hv : cs[j]? = some v) : W.cell? ⟨B, j, none⟩ = some v ∧ W.frozen? ⟨B, j, none⟩ = false := by
  have h1 := h.2.1
  constructor
  · simp [World.cell?, h1, hv]
  · simp [World.frozen?, h1]
end

set_option maxHeartbeats 4000000 in
theorem hparse_8 (a : Option Addr) (cap : Nat) (z0 z1 z2 z3 z4 z5 z6 z7 : Int) (w : World) (hz : ∀ x ∈ [z0, z1, z2, z3, z4, z5, z6, z7], 0 ≤ x ∧ x ≤ 255) (h1 : Nums .u8 w w.heap.size a [z0, z1, z2, z3, z4, z5, z6, z7]) :
    Calls Tryd.prog 62 #[.slice a 8 cap] w fun e w' => e = .returned (.tuple #[hdP (prs [z0, z1, z2, z3, z4, z5, z6, z7]).1, .int .i64 (prs [z0, z1, z2, z3, z4, z5, z6, z7]).2]) ∧ Below w.heap.size w w' := by
  obtain ⟨w0, hw0⟩ : ∃ w0, w.alloc (.cells #[.int .i64 0, .int .i64 0, .int .u32 0, .int .i64 0, .int .i64 0] 28) = w0 := ⟨_, rfl⟩
  have hs0 : w0.heap.size = w.heap.size + 1 := by rw [← hw0]; simp
  have hb0 : Below w.heap.size w w0 := by rw [← hw0]; exact (Below.refl _ w).alloc (Nat.le_refl _) _
  have hR0 : w0.heap[w.heap.size]? = some (.cells #[.int .i64 0, .int .i64 0, .int .u32 0, .int .i64 0, .int .i64 0] 28 (0, 0)) := by rw [← hw0]; exact World.alloc_heap_new _ _
  have HN := Lib.hid (lnew_any a 8 cap [z0, z1, z2, z3, z4, z5, z6, z7] w0 rfl (by omega) ((h1.below hb0).mono hb0.size))
  have HW := Lib.hid hw0
  have HZ := Lib.hid hz
  have r0 := hz z0 (by simp); have r1 := hz z1 (by simp); have r6 := hz z6 (by simp); have r7 := hz z7 (by simp)
  clear hw0 hz h1
  go_enter Tryd.func62, Tryd.ntmps62
  go_wp2_with fail
  rw [HW.out]
  refine HN.out.mono ?_
  rintro e w1 ⟨b, rfl, hL, hb1⟩
  have hlo := hL.lo_le
  have hlt := hL.lt
  have hs1 := hb1.size
  have P0 : PSt w w.heap.size w0.heap.size b w1.heap.size [z0, z1, z2, z3, z4, z5, z6, z7] 0 #[.int .i64 0, .int .i64 0, .int .u32 0, .int .i64 0, .int .i64 0] (w1.alloc (.cells #[.int .i64 0, .int .i64 0, .int .u32 0, .int .i64 0, .int .i64 0] 28)) :=
    ⟨hL.below ((Below.refl _ w1).alloc (Nat.le_refl _) _), World.alloc_heap_new _ _, (Below.heap_alloc _ _ _ (by omega)).trans ((hb1.block _ (by omega)).trans hR0), (hb0.trans (hb1.mono (by omega))).alloc (by omega) _⟩
  clear HN HW hL hR0 hb0 hb1
  go_wp2_with fail
  generalize w1.alloc (.cells #[.int .i64 0, .int .i64 0, .int .u32 0, .int .i64 0, .int .i64 0] 28) = V0 at P0 ⊢
  refine (u8_at P0.1 (by simp) HZ.out (z := z0) rfl).mono ?_
  rintro e W0 ⟨rfl, hl, ho⟩
  have R0 := P0.read hl ho (by omega) (by omega) (by omega)
  clear hl ho P0
  obtain ⟨ca0, cb0⟩ := R0.cell (j := 0) (v := .int .i64 0) rfl
  have P1 := R0.set 0 (.int .i64 z0) (by omega) (by omega) (by omega)
  simp only [List.setIfInBounds_toArray, List.set_cons_zero] at P1
  have Q := Lib.hid P1
  clear R0 P1
  go_wp2_with fail
  have P1 := Q.out
  clear Q ca0 cb0
  generalize W0.setCell ⟨w1.heap.size, 0, none⟩ (.int .i64 z0) = V1 at P1 ⊢
  refine (u8_at P1.1 (by simp) HZ.out (z := z1) rfl).mono ?_
  rintro e W1 ⟨rfl, hl, ho⟩
  have R1 := P1.read hl ho (by omega) (by omega) (by omega)
  clear hl ho P1
  obtain ⟨ca1, cb1⟩ := R1.cell (j := 1) (v := .int .i64 0) rfl
  have P2 := R1.set 1 (.int .i64 z1) (by omega) (by omega) (by omega)
  simp only [List.setIfInBounds_toArray, List.set_cons_succ, List.set_cons_zero] at P2
  have Q := Lib.hid P2
  clear R1 P2
  go_wp2_with fail
  have P2 := Q.out
  clear Q ca1 cb1
  generalize W1.setCell ⟨w1.heap.size, 1, none⟩ (.int .i64 z1) = V2 at P2 ⊢
  refine (u32_at P2.1 (by simp) HZ.out (by simp)).mono ?_
  rintro e W2 ⟨rfl, hl, ho⟩
  have R2 := P2.read hl ho (by omega) (by omega) (by omega)
  clear hl ho P2
  obtain ⟨ca2, cb2⟩ := R2.cell (j := 2) (v := .int .u32 0) rfl
  have P3 := R2.set 2 (.int .u32 (le [z2, z3, z4, z5])) (by omega) (by omega) (by omega)
  simp only [List.setIfInBounds_toArray, List.set_cons_succ, List.set_cons_zero] at P3
  have Q := Lib.hid P3
  clear R2 P3
  simp only [List.drop_succ_cons, List.drop_zero, List.take_succ_cons, List.take_zero]
  go_wp2_with fail
  have P3 := Q.out
  clear Q ca2 cb2
  generalize W2.setCell ⟨w1.heap.size, 2, none⟩ (.int .u32 (le [z2, z3, z4, z5])) = V3 at P3 ⊢
  refine (u8_at P3.1 (by simp) HZ.out (z := z6) rfl).mono ?_
  rintro e W3 ⟨rfl, hl, ho⟩
  have R3 := P3.read hl ho (by omega) (by omega) (by omega)
  clear hl ho P3
  obtain ⟨ca3, cb3⟩ := R3.cell (j := 3) (v := .int .i64 0) rfl
  have P4 := R3.set 3 (.int .i64 z6) (by omega) (by omega) (by omega)
  simp only [List.setIfInBounds_toArray, List.set_cons_succ, List.set_cons_zero] at P4
  have Q := Lib.hid P4
  clear R3 P4
  go_wp2_with fail
  have P4 := Q.out
  clear Q ca3 cb3
  generalize W3.setCell ⟨w1.heap.size, 3, none⟩ (.int .i64 z6) = V4 at P4 ⊢
  refine (u8_at P4.1 (by simp) HZ.out (z := z7) rfl).mono ?_
  rintro e W4 ⟨rfl, hl, ho⟩
  have R4 := P4.read hl ho (by omega) (by omega) (by omega)
  clear hl ho P4
  obtain ⟨ca4, cb4⟩ := R4.cell (j := 4) (v := .int .i64 0) rfl
  have e0 := (R4.cell (j := 0) (v := .int .i64 z0) rfl).1
  have e1 := (R4.cell (j := 1) (v := .int .i64 z1) rfl).1
  have e2 := (R4.cell (j := 2) (v := .int .u32 (le [z2, z3, z4, z5])) rfl).1
  have e3 := (R4.cell (j := 3) (v := .int .i64 z6) rfl).1
  have P5 := R4.set 4 (.int .i64 z7) (by omega) (by omega) (by omega)
  simp only [List.setIfInBounds_toArray, List.set_cons_succ, List.set_cons_zero] at P5
  have Q := Lib.hid P5
  clear R4 P5
  go_wp2_with fail
  have P5 := Q.out
  clear Q ca4 cb4 e0 e1 e2 e3
  generalize W4.setCell ⟨w1.heap.size, 4, none⟩ (.int .i64 z7) = V5 at P5 ⊢
  have HC := check_any z0 z1 (le [z2, z3, z4, z5]) z6 z7 V5
  unfold hdV at HC
  refine HC.mono ?_
  rintro e W6 ⟨rfl, hb6⟩
  clear HC
  have l1 : w1.heap.size < V5.heap.size := (Array.getElem?_eq_some_iff.1 P5.2.1).1
  have hB := (hb6.block w1.heap.size (by omega)).trans P5.2.1
  have hR := (hb6.block w.heap.size (by omega)).trans P5.2.2.1
  have HB := Lib.hid (P5.2.2.2.trans (hb6.mono P5.2.2.2.size))
  obtain ⟨d0, d1, d2, d3, d4⟩ : W6.cell? ⟨w1.heap.size, 0, none⟩ = some (.int .i64 z0) ∧ W6.cell? ⟨w1.heap.size, 1, none⟩ = some (.int .i64 z1) ∧ W6.cell? ⟨w1.heap.size, 2, none⟩ = some (.int .u32 (le [z2, z3, z4, z5])) ∧ W6.cell? ⟨w1.heap.size, 3, none⟩ = some (.int .i64 z6) ∧ W6.cell? ⟨w1.heap.size, 4, none⟩ = some (.int .i64 z7) := by
    simp [World.cell?, hB]
  obtain ⟨c0, c1, c2, c3, c4⟩ : W6.cell? ⟨w.heap.size, 0, none⟩ = some (.int .i64 0) ∧ W6.cell? ⟨w.heap.size, 1, none⟩ = some (.int .i64 0) ∧ W6.cell? ⟨w.heap.size, 2, none⟩ = some (.int .u32 0) ∧ W6.cell? ⟨w.heap.size, 3, none⟩ = some (.int .i64 0) ∧ W6.cell? ⟨w.heap.size, 4, none⟩ = some (.int .i64 0) := by
    simp [World.cell?, hR]
  have fz : ∀ j, W6.frozen? ⟨w.heap.size, j, none⟩ = false := fun j => by simp [World.frozen?, hR]
  have f0 := fz 0; have f1 := fz 1; have f2 := fz 2; have f3 := fz 3; have f4 := fz 4
  have hsR : w.heap.size < W6.heap.size := (Array.getElem?_eq_some_iff.1 hR).1
  clear P5 hb6 hB fz
  by_cases h0 : chk z0 z1 z6 z7 = 0
  · have hp : prs [z0, z1, z2, z3, z4, z5, z6, z7] = ((z0, z1, le [z2, z3, z4, z5], z6, z7), 0) := by rw [prs_8, if_pos h0]
    rw [h0]
    clear h0
    go_wp2
    rw [hp]
    have hK := set5 (.int .i64 z0) (.int .i64 z1) (.int .u32 (le [z2, z3, z4, z5])) (.int .i64 z6) (.int .i64 z7) hR
    have hBf := below5 (.int .i64 z0) (.int .i64 z1) (.int .u32 (le [z2, z3, z4, z5])) (.int .i64 z6) (.int .i64 z7) (Nat.le_refl _) HB.out
    generalize ((((W6.setCell ⟨w.heap.size, 0, none⟩ (.int .i64 z0)).setCell ⟨w.heap.size, 1, none⟩ (.int .i64 z1)).setCell ⟨w.heap.size, 2, none⟩ (.int .u32 (le [z2, z3, z4, z5]))).setCell ⟨w.heap.size, 3, none⟩ (.int .i64 z6)).setCell ⟨w.heap.size, 4, none⟩ (.int .i64 z7) = Wf at hK hBf ⊢
    obtain ⟨g0, g1, g2, g3, g4⟩ := hd_block hK
    exact bodyPost_ret (v := .tuple #[hdV z0 z1 (le [z2, z3, z4, z5]) z6 z7, .int .i64 0]) (by simp [results, Tryd.results62, go_sem, hdV, g0, g1, g2, g3, g4]) rfl ⟨rfl, hBf⟩
  · have hp : prs [z0, z1, z2, z3, z4, z5, z6, z7] = ((0, 0, 0, 0, 0), chk z0 z1 z6 z7) := by rw [prs_8, if_neg h0]
    have h1 : (chk z0 z1 z6 z7 != 0) = true := by simpa using h0
    go_wp2
    rw [hp]
    have hK := set5 (.int .i64 0) (.int .i64 0) (.int .u32 0) (.int .i64 0) (.int .i64 0) hR
    have hBf := below5 (.int .i64 0) (.int .i64 0) (.int .u32 0) (.int .i64 0) (.int .i64 0) (Nat.le_refl _) HB.out
    generalize ((((W6.setCell ⟨w.heap.size, 0, none⟩ (.int .i64 0)).setCell ⟨w.heap.size, 1, none⟩ (.int .i64 0)).setCell ⟨w.heap.size, 2, none⟩ (.int .u32 0)).setCell ⟨w.heap.size, 3, none⟩ (.int .i64 0)).setCell ⟨w.heap.size, 4, none⟩ (.int .i64 0) = Wf at hK hBf ⊢
    obtain ⟨g0, g1, g2, g3, g4⟩ := hd_block hK
    exact bodyPost_ret (v := .tuple #[hdV 0 0 0 0 0, .int .i64 (chk z0 z1 z6 z7)]) (by simp [results, Tryd.results62, go_sem, hdV, g0, g1, g2, g3, g4]) rfl ⟨rfl, hBf⟩
end Go.Proofs.YtbohdmconeebeaaDoor

namespace Go.Proofs.YtbohdmconeebeaaDoor
open Go.RowKit
set_option maxRecDepth 100000

set_option maxHeartbeats 8000000 in
theorem rcheck_any (v k s i c : Int) (w : World) :
    Calls Tryd.prog 19 #[hdV v k s i c] w fun e w' => e = .returned (.int .i64 (chk v k i c)) ∧ Below w.heap.size w w' := by
  unfold hdV
  rcases chk_cases v k i c with ⟨h, h1⟩ | ⟨h, h1, h2, h3⟩ | ⟨h, h1, h2, h3, h4, h5⟩ | ⟨h, h1, h2, h3, h4, h5, h6, h7⟩ | ⟨h, h1, h2, h3, h4, h5, h6, h7, h8⟩
  · rw [h]
    have a1 : (v != 1) = true := by simp; omega
    have a2 : (v != 2) = true := by simp; omega
    clear h h1
    go_enter Tryd.func19, Tryd.ntmps19
    go_wp2
    go_ret
    exact ⟨rfl, (Below.refl _ w).alloc (Nat.le_refl _) _⟩
  · rw [h]
    obtain rfl | rfl : v = 1 ∨ v = 2 := by omega
    all_goals
      rcases h3 with h3 | h3
      all_goals
        go_enter Tryd.func19, Tryd.ntmps19
        go_wp2
        all_goals
          go_ret
          exact ⟨rfl, (Below.refl _ w).alloc (Nat.le_refl _) _⟩
  · rw [h]
    obtain rfl | rfl : v = 1 ∨ v = 2 := by omega
    all_goals
      rcases h5 with h5 | h5
      all_goals
        go_enter Tryd.func19, Tryd.ntmps19
        go_wp2
        all_goals
          go_ret
          exact ⟨rfl, (Below.refl _ w).alloc (Nat.le_refl _) _⟩
  · rw [h]
    obtain rfl | rfl : v = 1 ∨ v = 2 := by omega
    all_goals
      rcases h7 with h7 | h7
      all_goals
        go_enter Tryd.func19, Tryd.ntmps19
        go_wp2
        all_goals
          go_ret
          exact ⟨rfl, (Below.refl _ w).alloc (Nat.le_refl _) _⟩
  · rw [h]
    obtain rfl | rfl : v = 1 ∨ v = 2 := by omega
    all_goals
      go_enter Tryd.func19, Tryd.ntmps19
      go_wp2
      all_goals
        go_ret
        exact ⟨rfl, (Below.refl _ w).alloc (Nat.le_refl _) _⟩
end Go.Proofs.YtbohdmconeebeaaDoor

namespace Go.Proofs.YtbohdmconeebeaaDoor
open Go.RowKit
set_option maxRecDepth 100000

end Go.Proofs.YtbohdmconeebeaaDoor

namespace Go.Proofs.YtbohdmconeebeaaDoor
open Go.RowKit
set_option maxRecDepth 100000

theorem hparse_any (a : Option Addr) (n cap : Nat) (zs : List Int) (w : World) (hn : zs.length = n) (hz : Bytes zs) (h1 : Nums .u8 w w.heap.size a zs) :
    Calls Tryd.prog 62 #[.slice a n cap] w fun e w' => e = .returned (.tuple #[hdP (prs zs).1, .int .i64 (prs zs).2]) ∧ Below w.heap.size w w' := by
  subst hn
  rcases Nat.lt_trichotomy zs.length 8 with h | h | h
  · rw [prs_short h]; exact hparse_short a _ cap w h
  · rw [h]
    obtain ⟨z0, z1, z2, z3, z4, z5, z6, z7, rfl⟩ := eight h
    exact hparse_8 a cap z0 z1 z2 z3 z4 z5 z6 z7 w (fun x hx => by have := hz x hx; omega) h1
  · rw [prs_long h]; exact hparse_long a _ cap w h
/-- what is parsed is told by just these bytes -/
theorem prs_ok {zs : List Int} {v k s i c : Int} (hz : Bytes zs) (h : prs zs = ((v, k, s, i, c), 0)) : chk v k i c = 0 ∧ 0 ≤ s ∧ s ≤ 4294967295 ∧ hdB v k s i c = zs ∧ zs.length = 8 := by
  rcases Nat.lt_trichotomy zs.length 8 with h8 | h8 | h8
  · rw [prs_short h8] at h; cases h
  · obtain ⟨z0, z1, z2, z3, z4, z5, z6, z7, rfl⟩ := eight h8
    rw [prs_8] at h
    by_cases h0 : chk z0 z1 z6 z7 = 0
    · rw [if_pos h0] at h
      injection h with h h9
      injection h with e1 h; injection h with e2 h; injection h with e3 h; injection h with e4 e5
      subst e1 e2 e3 e4 e5
      have r2 := hz z2 (by simp); have r3 := hz z3 (by simp); have r4 := hz z4 (by simp); have r5 := hz z5 (by simp)
      simp only [le]
      refine ⟨h0, by omega, by omega, ?_, rfl⟩
      unfold hdB
      simp only [List.cons.injEq, and_true, true_and]
      omega
    · rw [if_neg h0] at h
      injection h with h h9
      exact absurd h9 h0
  · rw [prs_long h8] at h; cases h
end Go.Proofs.YtbohdmconeebeaaDoor

namespace Go.Proofs.YtbohdmconeebeaaDoor
open Go.RowKit
section
variable {P : Program} {l : List Oper} {vs : List Value} {fs : List Tmp} {FS : Tmp → Value → World → Prop} {I : World → Prop} {a0 : Act}
/-- one operation of such a run -/
theorem op_of_F {N : Nat} {Q' : Exit → Act → World → Prop} {K : Act → World → Prop} (hR : RG .any l.toArray N) (hN : N ≤ a0.tmps.size) (hlen : vs.length = l.length) {listed : Array Bool} {b : Act} {w : World} {i : Nat} {o : Oper} {v : Value}
    (h : Inv l vs fs FS I a0 listed b w) (ho2 : l[i]? = some o) (hun : listed.getD i true = false) (hp : ∀ e ∈ o.after, Region.binds .any e = true → listed.getD e.on true = true) (hv : vs[i]? = some v) (hob : Ob P l.toArray I fs FS o v (lex l vs a0 i))
    (hK : ∀ u w', Below w.heap.size w w' → (∀ d, o.dst = some d → (d ∈ fs → FS d u w') ∧ (d ∉ fs → vs[i]? = some u)) → K (b.put o.dst u) w') : Go.wpOp P l.toArray Q' i K b w := by
  have ho : l.toArray[i]? = some o := by simpa using ho2
  have hsel : ∀ cs c, o.op ≠ .select cs c := fun cs c => hR.sel i o cs c ho
  have ag : ∀ d ∈ o.looksAt l.toArray, d ∉ fs → (lex l vs a0 i).tmps[d]? = b.tmps[d]? := fun d hd hf => h.agree hR hN hlen ho2 hun hp hd hf
  unfold Go.wpOp
  simp only [ho]
  rcases hob with ⟨h1, h2, hcalm⟩ | ⟨s, hs, hds, h1, hwt, hsrc⟩ | ⟨s, hs, ⟨j, hj, hje⟩, h1, h2, huse⟩ | ⟨s, R, hs, hds, hRs, h1, hmix⟩
  · have he := exec_agree (ops := l.toArray) hsel fun d hd => ag d hd (h1 d hd)
    have hw := wanted_agree (ops := l.toArray) fun d hd => ag d hd (h1 d hd)
    have kv : ∀ w', Below w.heap.size w w' → K (b.put o.dst v) w' := fun w' hb => hK v w' hb fun d hd => ⟨fun hf => absurd hf (h2 d hd), fun _ => hv⟩
    rcases hcalm with ⟨hwt, hval⟩ | ⟨hwf, rfl⟩
    · rw [hw] at hwt
      rw [if_pos hwt]
      left
      have h3 := hval w h.cls
      rw [he] at h3
      unfold Oper.wp
      generalize (execOp b.eval o).run P w = r at h3
      cases r with
      | ok n w' =>
        cases n <;> simp only [calmUpon] at h3 <;> simp only [Oper.upon]
        case value u => obtain ⟨rfl, rfl⟩ := h3; exact kv _ (Below.refl _ _)
        case skip => obtain ⟨rfl, rfl⟩ := h3; exact kv _ (Below.refl _ _)
        case enter f args =>
          obtain ⟨rfl, hcc⟩ := h3
          exact hcc.mono fun e w'' ⟨he, hb⟩ => by subst he; exact kv _ hb
      | halt x w' => simp only [calmUpon] at h3
    · rw [hw] at hwf
      rw [hwf, if_neg (by simp)]
      exact kv w (Below.refl _ _)
  · have he := exec_agree (ops := l.toArray) hsel fun d hd => ag d hd (h1 d hd)
    have hw := wanted_agree (ops := l.toArray) fun d hd => ag d hd (h1 d hd)
    rw [hw] at hwt
    rw [if_pos hwt]
    left
    have h3 := hsrc w h.cls
    rw [he] at h3
    have kf : ∀ u w', FS s u w' → Below w.heap.size w w' → K (b.put o.dst u) w' := fun u w' hf hb => hK u w' hb fun d hd => by
      obtain rfl : d = s := Option.some.inj (hd.symm.trans hds)
      exact ⟨fun _ => hf, fun hnf => absurd hs hnf⟩
    unfold Oper.wp
    generalize (execOp b.eval o).run P w = r at h3
    cases r with
    | ok n w' =>
      cases n <;> simp only [srcUpon] at h3 <;> simp only [Oper.upon]
      case value u => exact kf u w' h3.1 h3.2
      case enter f args =>
        obtain ⟨rfl, hcc⟩ := h3
        exact hcc.mono fun e w'' ⟨u, he, hf, hb⟩ => by subst he; exact kf u w'' hf hb
    | halt x w' => simp only [srcUpon] at h3
  · obtain ⟨e, hee, heb⟩ := Array.any_eq_true'.1 hje
    simp only [Bool.and_eq_true, beq_iff_eq] at heb
    obtain ⟨hbe, rfl⟩ := heb
    obtain ⟨oj, hoj, hdj⟩ := Option.bind_eq_some_iff.1 hj
    have hoj2 : l[e.on]? = some oj := by simpa using hoj
    obtain ⟨vj, hvj⟩ : ∃ v, vs[e.on]? = some v := ⟨_, List.getElem?_eq_getElem (by rw [hlen]; exact (List.getElem?_eq_some_iff.1 hoj2).1)⟩
    obtain ⟨x, hbx, hfx⟩ := (h.ins e.on oj s vj hoj2 (hp e hee hbe) hdj hvj).1 hs
    have hslt : s < (lex l vs a0 i).tmps.size := by rw [(lex_size l vs a0 i).1]; exact Nat.lt_of_lt_of_le (hR.small _ _ _ hoj hdj) hN
    have ag2 : ∀ d ∈ o.looksAt l.toArray, ((lex l vs a0 i).put (some s) x).tmps[d]? = b.tmps[d]? := fun d hd => by
      by_cases hsd : s = d
      · subst hsd
        rw [put_same x hslt, hbx]
      · rw [put_other x (by simpa using hsd)]
        exact ag d hd fun hf => hsd (h1 d hd hf).symm
    obtain ⟨hwt, h3⟩ := huse x w h.cls hfx
    rw [wanted_agree (ops := l.toArray) ag2] at hwt
    rw [exec_agree (ops := l.toArray) hsel ag2] at h3
    have kv : ∀ w', Below w.heap.size w w' → K (b.put o.dst v) w' := fun w' hb => hK v w' hb fun d hd => ⟨fun hf => absurd hf (h2 d hd), fun _ => hv⟩
    rw [if_pos hwt]
    left
    unfold Oper.wp
    generalize (execOp b.eval o).run P w = r at h3
    cases r with
    | ok n w' =>
      cases n <;> simp only [calmUpon] at h3 <;> simp only [Oper.upon]
      case value u => obtain ⟨rfl, rfl⟩ := h3; exact kv _ (Below.refl _ _)
      case skip => obtain ⟨rfl, rfl⟩ := h3; exact kv _ (Below.refl _ _)
      case enter f args =>
        obtain ⟨rfl, hcc⟩ := h3
        exact hcc.mono fun e w'' ⟨he, hb⟩ => by subst he; exact kv _ hb
    | halt x w' => simp only [calmUpon] at h3

  · have got : ∀ r ∈ R, ∃ x, b.tmps[r]? = some x ∧ FS r x w ∧ r < (lex l vs a0 i).tmps.size := fun r hr => by
      obtain ⟨hrf, j, hj, hje⟩ := hRs r hr
      obtain ⟨e, hee, heb⟩ := Array.any_eq_true'.1 hje
      simp only [Bool.and_eq_true, beq_iff_eq] at heb
      obtain ⟨hbe, rfl⟩ := heb
      obtain ⟨oj, hoj, hdj⟩ := Option.bind_eq_some_iff.1 hj
      have hoj2 : l[e.on]? = some oj := by simpa using hoj
      obtain ⟨vj, hvj⟩ : ∃ v, vs[e.on]? = some v := ⟨_, List.getElem?_eq_getElem (by rw [hlen]; exact (List.getElem?_eq_some_iff.1 hoj2).1)⟩
      obtain ⟨x, hbx, hfx⟩ := (h.ins e.on oj r vj hoj2 (hp e hee hbe) hdj hvj).1 hrf
      exact ⟨x, hbx, hfx, by rw [(lex_size l vs a0 i).1]; exact Nat.lt_of_lt_of_le (hR.small _ _ _ hoj hdj) hN⟩
    have ag2 : ∀ d ∈ o.looksAt l.toArray, (fill R (fun s => b.tmps.getD s undef) (lex l vs a0 i)).tmps[d]? = b.tmps[d]? := fun d hd => by
      by_cases hdR : d ∈ R
      · obtain ⟨x, hbx, _, hlt⟩ := got d hdR
        rw [fill_in R _ _ d hdR hlt, hbx]
        simp [hbx]
      · rw [fill_out R _ _ d hdR]
        exact ag d hd fun hf => hdR (h1 d hd hf)
    obtain ⟨hwt, h3⟩ := hmix (fun s => b.tmps.getD s undef) w h.cls fun r hr => by
      obtain ⟨x, hbx, hfx, _⟩ := got r hr
      simpa [hbx] using hfx
    rw [wanted_agree (ops := l.toArray) ag2] at hwt
    rw [exec_agree (ops := l.toArray) hsel ag2] at h3
    rw [if_pos hwt]
    left
    have kf : ∀ u w', FS s u w' → Below w.heap.size w w' → K (b.put o.dst u) w' := fun u w' hf hb => hK u w' hb fun d hd => by
      obtain rfl : d = s := Option.some.inj (hd.symm.trans hds)
      exact ⟨fun _ => hf, fun hnf => absurd hs hnf⟩
    unfold Oper.wp
    generalize (execOp b.eval o).run P w = r at h3
    cases r with
    | ok n w' =>
      cases n <;> simp only [srcUpon] at h3 <;> simp only [Oper.upon]
      case value u => exact kf u w' h3.1 h3.2
      case enter f args =>
        obtain ⟨rfl, hcc⟩ := h3
        exact hcc.mono fun e w'' ⟨u, he, hf, hb⟩ => by subst he; exact kf u w'' hf hb
    | halt x w' => simp only [srcUpon] at h3

/-- an operation that looks at no memory, in whatever world -/
def purUpon (w : World) (v : Value) : Result Next → Prop
  | .ok (.value u) w' => w' = w ∧ u = v
  | .ok .skip w' => w' = w ∧ v = undef
  | _ => False
def PureOb (P : Program) (ops : Array Oper) (fs : List Tmp) (o : Oper) (v : Value) (a : Act) : Prop :=
  (∀ d ∈ o.looksAt ops, d ∉ fs) ∧ (∀ d, o.dst = some d → d ∉ fs) ∧
  ((Region.wanted o (yielded ops a.tmps) = true ∧ ∀ w, purUpon w v ((execOp a.eval o).run P w)) ∨ (Region.wanted o (yielded ops a.tmps) = false ∧ v = undef))
theorem PureOb.ob {ops : Array Oper} {o : Oper} {v : Value} {a : Act} (h : PureOb P ops fs o v a) : Ob P ops I fs FS o v a := by
  obtain ⟨h1, h2, h3⟩ := h
  refine .inl ⟨h1, h2, h3.imp (fun h => ⟨h.1, fun w _ => ?_⟩) id⟩
  have h4 := h.2 w
  generalize (execOp a.eval o).run P w = r at h4
  cases r with
  | ok n w' =>
    cases n <;> simp only [purUpon] at h4
    case value u => exact h4
    case skip => exact h4
  | halt x w' => simp only [purUpon] at h4
def stUpon (S : World → Prop) : Result Next → Prop
  | .ok (.value _) w' => S w'
  | .ok .skip w' => S w'
  | _ => False
/-- the store -/
def StOb (P : Program) (ops : Array Oper) (I : World → Prop) (fs : List Tmp) (FS : Tmp → Value → World → Prop) (St : (Tmp → Value) → World → World → Prop) (o : Oper) (a : Act) : Prop :=
  o.dst = none ∧ ∀ xs w, I w → (∀ s ∈ fs, FS s (xs s) w) → Region.wanted o (yielded ops (fill fs xs a).tmps) = true ∧ stUpon (St xs w) ((execOp (fill fs xs a).eval o).run P w)
/-- the walk in the text's order: so many operations, the store, the rest -/
def wpFS (P : Program) (ops : Array Oper) (I : World → Prop) (fs : List Tmp) (FS : Tmp → Value → World → Prop) (St : (Tmp → Value) → World → World → Prop) (E : Act → Prop) : Option Nat → List Oper → Act → Prop
  | _, [], a => E a
  | some 0, o :: r, a => StOb P ops I fs FS St o a ∧ wpFS P ops I fs FS St E none r a
  | some (c + 1), o :: r, a => ∃ v, Ob P ops I fs FS o v a ∧ wpFS P ops I fs FS St E (some c) r (a.put o.dst v)
  | none, o :: r, a => ∃ v, PureOb P ops fs o v a ∧ wpFS P ops I fs FS St E none r (a.put o.dst v)
section
variable {ops : Array Oper} {St : (Tmp → Value) → World → World → Prop} {E : Act → Prop}
theorem wpFS_vals0 : ∀ (l : List Oper) (a : Act), wpFS P ops I fs FS St E none l a → ∃ vs : List Value, vs.length = l.length ∧
    (∀ (j : Nat) o v, l[j]? = some o → vs[j]? = some v → PureOb P ops fs o v (lex l vs a j)) ∧ E (lex l vs a l.length)
  | [], a, h => ⟨[], rfl, by simp, h⟩
  | o :: r, a, ⟨v, hob, hr⟩ => by
    obtain ⟨vs, h1, h2, h3⟩ := wpFS_vals0 r _ hr
    refine ⟨v :: vs, by simp [h1], fun j o' v' ho hv => ?_, h3⟩
    cases j with
    | zero =>
      simp only [List.getElem?_cons_zero, Option.some.injEq] at ho hv
      subst ho hv
      exact hob
    | succ j =>
      simp only [List.getElem?_cons_succ] at ho hv
      exact h2 j o' v' ho hv
theorem wpFS_vals : ∀ (k : Nat) (l : List Oper) (a : Act), wpFS P ops I fs FS St E (some k) l a → ∃ vs : List Value, vs.length = l.length ∧
    (∀ (j : Nat) o v, l[j]? = some o → vs[j]? = some v → (j < k → Ob P ops I fs FS o v (lex l vs a j)) ∧ (j = k → StOb P ops I fs FS St o (lex l vs a j)) ∧ (k < j → PureOb P ops fs o v (lex l vs a j))) ∧ E (lex l vs a l.length)
  | _, [], a, h => ⟨[], rfl, by simp, h⟩
  | 0, o :: r, a, ⟨hob, hr⟩ => by
    obtain ⟨vs, h1, h2, h3⟩ := wpFS_vals0 r _ hr
    have hput : a.put o.dst undef = a := by rw [hob.1]; rfl
    refine ⟨undef :: vs, by simp [h1], fun j o' v' ho hv => ?_, ?_⟩
    · cases j with
      | zero =>
        simp only [List.getElem?_cons_zero, Option.some.injEq] at ho hv
        subst ho hv
        exact ⟨by omega, fun _ => hob, by omega⟩
      | succ j =>
        simp only [List.getElem?_cons_succ] at ho hv
        refine ⟨by omega, by omega, fun _ => ?_⟩
        show PureOb P ops fs o' v' (lex r vs (a.put o.dst undef) j)
        rw [hput]
        exact h2 j o' v' ho hv
    · show E (lex r vs (a.put o.dst undef) r.length)
      rw [hput]
      exact h3
  | k + 1, o :: r, a, ⟨v, hob, hr⟩ => by
    obtain ⟨vs, h1, h2, h3⟩ := wpFS_vals k r _ hr
    refine ⟨v :: vs, by simp [h1], fun j o' v' ho hv => ?_, h3⟩
    cases j with
    | zero =>
      simp only [List.getElem?_cons_zero, Option.some.injEq] at ho hv
      subst ho hv
      exact ⟨fun _ => hob, by omega, by omega⟩
    | succ j =>
      simp only [List.getElem?_cons_succ] at ho hv
      obtain ⟨q1, q2, q3⟩ := h2 j o' v' ho hv
      exact ⟨fun h => q1 (by omega), fun h => q2 (by omega), fun h => q3 (by omega)⟩
end
/-- k waits for j, by way of others -/
def reachB (md : Region.Mode) (ops : Array Oper) : Nat → Nat → Nat → Bool
  | 0, _, _ => false
  | f + 1, k, j => match ops[k]? with
    | none => false
    | some o => o.after.any fun e => Region.binds md e && (e.on == j || reachB md ops f e.on j)
theorem reach_listed {listed : Array Bool} {b : Act} {w : World} (h : Inv l vs fs FS I a0 listed b w) : ∀ (f m j : Nat), listed.getD m true = true → reachB .any l.toArray f m j = true → listed.getD j true = true
  | 0, _, _, _, hr => by simp [reachB] at hr
  | f + 1, m, j, hm, hr => by
    unfold reachB at hr
    cases ho : l.toArray[m]? with
    | none => rw [ho] at hr; cases hr
    | some o =>
      rw [ho] at hr
      obtain ⟨e, he, hb⟩ := Array.any_eq_true'.1 hr
      simp only [Bool.and_eq_true, Bool.or_eq_true, beq_iff_eq] at hb
      have h1 := h.down m o (by simpa using ho) hm e he hb.1
      rcases hb.2 with rfl | h2
      · exact h1
      · exact reach_listed h f e.on j h1 h2
theorem reach_ready {listed : Array Bool} {b : Act} {w : World} (h : Inv l vs fs FS I a0 listed b w) {k : Nat} {o : Oper} (ho : l[k]? = some o) (hp : ∀ e ∈ o.after, Region.binds .any e = true → listed.getD e.on true = true) (f j : Nat) (hr : reachB .any l.toArray f k j = true) : listed.getD j true = true := by
  cases f with
  | zero => simp [reachB] at hr
  | succ f =>
    unfold reachB at hr
    have ho' : l.toArray[k]? = some o := by simpa using ho
    rw [ho'] at hr
    obtain ⟨e, he, hb⟩ := Array.any_eq_true'.1 hr
    simp only [Bool.and_eq_true, Bool.or_eq_true, beq_iff_eq] at hb
    have h1 := hp e he hb.1
    rcases hb.2 with rfl | h2
    · exact h1
    · exact reach_listed h f e.on j h1 h2

theorem any_of_FS {N k f : Nat} {Q' : Exit → Act → World → Prop} {St : (Tmp → Value) → World → World → Prop} (hR : RG .any l.toArray N) (hN : N ≤ a0.tmps.size) (hlen : vs.length = l.length) (hI : Closed I) (hF : ∀ s x w w', FS s x w → Below w.heap.size w w' → FS s x w')
    (hob : ∀ (j : Nat) o v, l[j]? = some o → vs[j]? = some v → (j < k → Ob P l.toArray I fs FS o v (lex l vs a0 j)) ∧ (j = k → StOb P l.toArray I fs FS St o (lex l vs a0 j)) ∧ (k < j → PureOb P l.toArray fs o v (lex l vs a0 j)))
    (hk : k < l.length) (hreach : ∀ j, j < k → reachB .any l.toArray f k j = true) (hfs : ∀ s ∈ fs, ∃ (j : Nat) (o : Oper), j < k ∧ l[j]? = some o ∧ o.dst = some s)
    (hQ : ∀ (listed : Array Bool) b W w xs, (∀ j, listed.getD j true = true) → Inv l vs fs FS I a0 listed b W → (∀ s ∈ fs, b.tmps[s]? = some (xs s) ∧ FS s (xs s) W) → St xs W w → Q' .normal b w) :
    ∀ (fuel : Nat) (listed : Array Bool) (b : Act) (W w : World), listed.toList.count false ≤ fuel → Inv l vs fs FS I a0 listed b W →
      ((listed.getD k true = false ∧ w = W) ∨ (listed.getD k true = true ∧ ∃ xs, (∀ s ∈ fs, b.tmps[s]? = some (xs s) ∧ FS s (xs s) W) ∧ St xs W w)) → wpAny P .any l.toArray Q' fuel listed b w
  | 0, listed, b, W, w, hc, h, hp => by
    have hall := count_zero (L := listed) (by omega)
    rcases hp with ⟨h0, _⟩ | ⟨_, xs, hx, hst⟩
    · rw [hall k] at h0; cases h0
    refine ⟨?_, hQ listed b W w xs hall h hx hst⟩
    rw [List.eq_nil_iff_forall_not_mem]
    intro i hi
    have := (mem_ready.1 hi).1
    rw [hall i] at this
    cases this
  | fuel + 1, listed, b, W, w, hc, h, hph => by
    refine ⟨fun h0 => ?_, fun i hi => ?_⟩
    · have hall := ready_all hR h.lsize h0
      rcases hph with ⟨h0, _⟩ | ⟨_, xs, hx, hst⟩
      · rw [hall k] at h0; cases h0
      · exact hQ listed b W w xs hall h hx hst
    obtain ⟨hun, o, ho, hall⟩ := mem_ready.1 hi
    have ho2 : l[i]? = some o := by simpa using ho
    have hp : ∀ e ∈ o.after, Region.binds .any e = true → listed.getD e.on true = true := fun e he hb => by
      have h1 := hall e he hb
      rw [Array.getD_eq_getD_getElem?] at h1 ⊢
      cases hx : listed[e.on]? with
      | none => rfl
      | some y => rw [hx] at h1; simpa using h1
    obtain ⟨v, hv⟩ : ∃ v, vs[i]? = some v := ⟨_, List.getElem?_eq_getElem (by rw [hlen]; exact (List.getElem?_eq_some_iff.1 ho2).1)⟩
    obtain ⟨q1, q2, q3⟩ := hob i o v ho2 hv
    have hcnt := count_set hun
    have hsel : ∀ cs c, o.op ≠ .select cs c := fun cs c => hR.sel i o cs c ho
    have ag : ∀ d ∈ o.looksAt l.toArray, d ∉ fs → (lex l vs a0 i).tmps[d]? = b.tmps[d]? := fun d hd hf => h.agree hR hN hlen ho2 hun hp hd hf
    rcases hph with ⟨hk0, rfl⟩ | ⟨hk1, xs, hx, hst⟩
    · by_cases hik : i = k
      · subst hik
        obtain ⟨hdst, hstore⟩ := q2 rfl
        have got : ∀ s ∈ fs, ∃ x, b.tmps[s]? = some x ∧ FS s x w ∧ s < (lex l vs a0 i).tmps.size := fun s hs => by
          obtain ⟨j, oj, hji, hoj, hdj⟩ := hfs s hs
          obtain ⟨vj, hvj⟩ : ∃ v, vs[j]? = some v := ⟨_, List.getElem?_eq_getElem (by rw [hlen]; exact (List.getElem?_eq_some_iff.1 hoj).1)⟩
          obtain ⟨x, hbx, hfx⟩ := (h.ins j oj s vj hoj (reach_ready h ho2 hp f j (hreach j hji)) hdj hvj).1 hs
          exact ⟨x, hbx, hfx, by rw [(lex_size l vs a0 i).1]; exact Nat.lt_of_lt_of_le (hR.small j oj s (by simpa using hoj) hdj) hN⟩
        have hxs : ∀ s ∈ fs, b.tmps[s]? = some (b.tmps.getD s undef) ∧ FS s (b.tmps.getD s undef) w := fun s hs => by
          obtain ⟨x, hbx, hfx, _⟩ := got s hs
          simpa [hbx] using hfx
        have ag2 : ∀ d ∈ o.looksAt l.toArray, (fill fs (fun s => b.tmps.getD s undef) (lex l vs a0 i)).tmps[d]? = b.tmps[d]? := fun d hd => by
          by_cases hdf : d ∈ fs
          · obtain ⟨x, hbx, _, hlt⟩ := got d hdf
            rw [fill_in fs _ _ d hdf hlt, hbx]
            simp [hbx]
          · rw [fill_out fs _ _ d hdf]
            exact ag d hd hdf
        obtain ⟨hwt, h3⟩ := hstore (fun s => b.tmps.getD s undef) w h.cls fun s hs => (hxs s hs).2
        rw [wanted_agree (ops := l.toArray) ag2] at hwt
        rw [exec_agree (ops := l.toArray) hsel ag2] at h3
        have hin : ∀ u, Inv l vs fs FS I a0 (listed.setIfInBounds i true) (b.put o.dst u) w := fun u => h.next hR hN hI hF ho2 hp (Below.refl _ _) fun d hd => by rw [hdst] at hd; cases hd
        have hput : ∀ u, b.put o.dst u = b := fun u => by rw [hdst]; rfl
        have kk : ∀ u w', St (fun s => b.tmps.getD s undef) w w' → wpAny P .any l.toArray Q' fuel (listed.setIfInBounds i true) (b.put o.dst u) w' := fun u w' hs =>
          any_of_FS hR hN hlen hI hF hob hk hreach hfs hQ fuel _ _ w w' (by omega) (hin u) (.inr ⟨getD_set_same _ _, _, by rw [hput u]; exact hxs, hs⟩)
        unfold Go.wpOp
        simp only [ho]
        rw [if_pos hwt]
        left
        unfold Oper.wp
        generalize (execOp b.eval o).run P w = r at h3
        cases r with
        | ok n w' =>
          cases n <;> simp only [stUpon] at h3 <;> simp only [Oper.upon]
          case value u => exact kk _ _ h3
          case skip => exact kk _ _ h3
        | halt x w' => simp only [stUpon] at h3
      · have hob' : Ob P l.toArray I fs FS o v (lex l vs a0 i) := by
          rcases Nat.lt_or_gt_of_ne hik with hlt | hgt
          · exact q1 hlt
          · exact (q3 hgt).ob
        exact op_of_F hR hN hlen h ho2 hun hp hv hob' fun u w' hb hu =>
          any_of_FS hR hN hlen hI hF hob hk hreach hfs hQ fuel _ _ w' w' (by omega) (h.next hR hN hI hF ho2 hp hb hu) (.inl ⟨by rw [getD_set_far _ hik]; exact hk0, rfl⟩)
    · have hki : k < i := by
        rcases Nat.lt_trichotomy i k with hlt | rfl | hgt
        · rw [reach_listed h f k i hk1 (hreach i hlt)] at hun; cases hun
        · rw [hk1] at hun; cases hun
        · exact hgt
      obtain ⟨h1, h2, h3⟩ := q3 hki
      have he := exec_agree (ops := l.toArray) hsel fun d hd => ag d hd (h1 d hd)
      have hw := wanted_agree (ops := l.toArray) fun d hd => ag d hd (h1 d hd)
      have kv : wpAny P .any l.toArray Q' fuel (listed.setIfInBounds i true) (b.put o.dst v) w :=
        any_of_FS hR hN hlen hI hF hob hk hreach hfs hQ fuel _ _ W w (by omega) (h.next hR hN hI hF ho2 hp (Below.refl _ _) fun d hd => ⟨fun hf => absurd hf (h2 d hd), fun _ => hv⟩)
          (.inr ⟨getD_set_up _ hk1, xs, fun s hs => ⟨by rw [put_other v (fun e => h2 s e hs)]; exact (hx s hs).1, (hx s hs).2⟩, hst⟩)
      unfold Go.wpOp
      simp only [ho]
      rcases h3 with ⟨hwt, hval⟩ | ⟨hwf, rfl⟩
      · rw [hw] at hwt
        rw [if_pos hwt]
        left
        have h4 := hval w
        rw [he] at h4
        unfold Oper.wp
        generalize (execOp b.eval o).run P w = r at h4
        cases r with
        | ok n w' =>
          cases n <;> simp only [purUpon] at h4 <;> simp only [Oper.upon]
          case value u => obtain ⟨rfl, rfl⟩ := h4; exact kv
          case skip => obtain ⟨rfl, rfl⟩ := h4; exact kv
        | halt x w' => simp only [purUpon] at h4
      · rw [hw] at hwf
        rw [hwf, if_neg (by simp)]
        exact kv

/-- ONE WALK IN THE TEXT's ORDER SERVES EVERY ORDER, the store at place k -/
theorem wp_region_FS {id : Nat} {Q : Exit → Act → World → Prop} {a : Act} {w : World} {l : List Oper} (N k f : Nat) (fs : List Tmp) (FS : Tmp → Value → World → Prop) (I : World → Prop) (St : (Tmp → Value) → World → World → Prop) (hm : P.follows .mixedOrders = true) (hB : rgB .any l.toArray N = true)
    (hk : decide (k < l.length) = true) (hreach : ((List.range k).all fun j => reachB .any l.toArray f k j) = true) (hfs : (fs.all fun s => (l.take k).any fun o => o.dst == some s) = true) (hN : N ≤ a.tmps.size) (hI : Closed I) (hF : ∀ s x w w', FS s x w → Below w.heap.size w w' → FS s x w') (hC : I w.drew)
    (h : wpFS P l.toArray I fs FS St (fun a' => ∀ xs W w', I W → (∀ s ∈ fs, FS s (xs s) W) → St xs W w' → Q .normal (fill fs xs a') w') (some k) l a) : (Code.region id l.toArray true).wp P Q a w := by
  have hR := rgB_spec hB
  have hk' : k < l.length := by simpa using hk
  obtain ⟨vs, hlen, hob, hE⟩ := wpFS_vals k l a h
  have hfs' : ∀ s ∈ fs, ∃ (j : Nat) (o : Oper), j < k ∧ l[j]? = some o ∧ o.dst = some s := fun s hs => by
    rw [List.all_eq_true] at hfs
    have h1 := hfs s hs
    rw [List.any_eq_true] at h1
    obtain ⟨o, ho, hd⟩ := h1
    obtain ⟨j, hj, rfl⟩ := List.getElem_of_mem ho
    have hj1 : j < k := by rw [List.length_take] at hj; omega
    have hj2 : j < l.length := by rw [List.length_take] at hj; omega
    exact ⟨j, l[j], hj1, List.getElem?_eq_getElem hj2, by simpa using hd⟩
  refine wp_region_any hm ?_
  refine any_of_FS (l := l) (vs := vs) (fs := fs) (FS := FS) (I := I) (a0 := a) (St := St) (k := k) (f := f) hR hN hlen hI hF hob hk' (fun j hj => by rw [List.all_eq_true] at hreach; exact hreach j (List.mem_range.2 hj)) hfs' ?_ _ _ _ w.drew _ ?_ ?_ ?_
  · intro listed b W w' xs hall hinv hx hst
    have hb : b = fill fs xs (lex l vs a l.length) := by
      have ht : b.tmps = (fill fs xs (lex l vs a l.length)).tmps := by
        apply Array.ext_getElem?
        intro d
        by_cases hd : d ∈ fs
        · have hlt : d < (lex l vs a l.length).tmps.size := by
            rw [(lex_size l vs a l.length).1, ← hinv.size]
            exact (Array.getElem?_eq_some_iff.1 (hx d hd).1).1
          rw [fill_in fs _ _ d hd hlt, (hx d hd).1]
        · rw [fill_out fs _ _ d hd]
          by_cases hwr : ∃ (j : Nat) (oj : Oper), l[j]? = some oj ∧ oj.dst = some d
          · obtain ⟨j, oj, hj, hdj⟩ := hwr
            obtain ⟨v, hv⟩ : ∃ v, vs[j]? = some v := ⟨_, List.getElem?_eq_getElem (by rw [hlen]; exact (List.getElem?_eq_some_iff.1 hj).1)⟩
            have hj' : l.toArray[j]? = some oj := by simpa using hj
            rw [(hinv.ins j oj d v hj (hall j) hdj hv).2 hd]
            exact (lex_in l vs a l.length j oj d v hj (List.getElem?_eq_some_iff.1 hj).1 hv hdj (Nat.lt_of_lt_of_le (hR.small _ _ _ hj' hdj) hN) fun i oi hi _ hne => hR.once i j oi oj d (by simpa using hi) hj' hdj hne).symm
          · rw [lex_out l vs a l.length d fun i oi hi _ hdi => hwr ⟨i, oi, hi, hdi⟩]
            exact hinv.out d fun i oi hi _ hdi => hwr ⟨i, oi, hi, hdi⟩
      have hd : b.defers = (fill fs xs (lex l vs a l.length)).defers := by
        rw [(fill_size ..).2, (lex_size ..).2]
        exact hinv.defers
      cases b
      simp only at ht hd
      rw [Act.mk.injEq]
      exact ⟨ht, hd⟩
    rw [hb]
    exact hE xs W w' hinv.cls (fun s hs => (hx s hs).2) hst
  · simp
  · refine ⟨hC, rfl, rfl, fun _ _ => rfl, fun j o d v hj hlj => ?_, fun j o hj hlj => ?_, by simp⟩
    all_goals
      have hlt := (List.getElem?_eq_some_iff.1 hj).1
      rw [Array.getD_eq_getD_getElem?] at hlj
      simp [hlt] at hlj
  · refine .inl ⟨?_, rfl⟩
    rw [Array.getD_eq_getD_getElem?]
    simp [hk']

/-! ### its steps -/
section
variable {St : (Tmp → Value) → World → World → Prop} {E : Act → Prop} {o : Oper} {rest : List Oper} {a : Act}
/-- any of XQ6's steps: shown of the operation alone, with what follows taken as it comes -/
theorem wpFS_step {k : Nat} (h : wpF P l.toArray I fs FS (fun a' => wpFS P l.toArray I fs FS St E (some k) rest a') [o] a) : wpFS P l.toArray I fs FS St E (some (k + 1)) (o :: rest) a := by
  obtain ⟨v, hob, hr⟩ := h
  exact ⟨v, hob, hr⟩
/-- the store -/
theorem wpFS_store {t : TypeId} {x y : Operand} (ho : o.op = .store t x y) (hd : o.dst = none) (hg : o.guard = none) (ad : Addr) (v : (Tmp → Value) → Value) (hx : ∀ xs, (fill fs xs a).eval x = .pointer (some ad)) (hy : ∀ xs, (fill fs xs a).eval y = v xs)
    (hrun : ∀ xs w, I w → (∀ s ∈ fs, FS s (xs s) w) → ∃ w', (Instr.storeAt t (.pointer (some ad)) (v xs)).run P w = .ok () w' ∧ St xs w w') (h : wpFS P l.toArray I fs FS St E none rest a) : wpFS P l.toArray I fs FS St E (some 0) (o :: rest) a := by
  refine ⟨⟨hd, fun xs w hI hs => ⟨by simp [Region.wanted, hg], ?_⟩⟩, h⟩
  obtain ⟨w', hr, hst⟩ := hrun xs w hI hs
  unfold execOp
  simp only [ho, hx xs, hy xs]
  rw [Sem.run_bind, hr]
  exact hst
/-- behind the store -/
theorem wpFS_pure (hk : kindOf o = 0) (hn : noB l.toArray fs o = true) (h : wpQuiet P l.toArray (fun _ => True) (fun a' => wpFS P l.toArray I fs FS St E none rest a') [o] a) : wpFS P l.toArray I fs FS St E none (o :: rest) a := by
  obtain ⟨h1, h2⟩ := noB_spec hn
  unfold wpQuiet at h
  by_cases hw : Region.wanted o (yielded l.toArray a.tmps) = true
  · simp only [hw, if_true] at h
    obtain ⟨v, hv, hr⟩ := h
    refine ⟨v, ⟨h1, h2, .inl ⟨hw, fun w => ?_⟩⟩, hr⟩
    have h3 := hv w trivial
    have h4 := pure_no_enter (P := P) (kind_pure hk) a.eval w
    unfold Oper.quietAt at h3
    generalize (execOp a.eval o).run P w = r at h3 h4
    cases r with
    | ok n w' =>
      cases n with
      | enter f args => exact absurd rfl (h4 w' f args)
      | value u => exact h3
      | skip => exact h3
      | _ => simp only [Oper.quietUpon] at h3
    | halt x w' => simp only [Oper.quietUpon] at h3
  · simp only [hw] at h
    exact ⟨undef, ⟨h1, h2, .inr ⟨by simpa using hw, rfl⟩⟩, h⟩
end
end
end Go.Proofs.YtbohdmconeebeaaDoor

namespace Go.Proofs.YtbohdmconeebeaaDoor
open Go.RowKit Go.Shelf
set_option maxRecDepth 100000
attribute [local go_sem] Oper.semAt_some

abbrev Hd := Int × Int × Int × Int × Int
def frP (x : Hd × List Int) (p : Value) : Value := frV x.1.1 x.1.2.1 x.1.2.2.1 x.1.2.2.2.1 x.1.2.2.2.2 p
def noFr : Hd × List Int := ((0, 0, 0, 0, 0), [])
/-- the frame of a block -/
def unB (b : List Int) : (Hd × List Int) × Int :=
  if b.length ≤ 12 then (noFr, 13)
  else if Cr.le4 (Cr.sum (b.take (b.length - 4))) = b.drop (b.length - 4) then
    (if (prs (b.take 8)).2 = 0 then (((prs (b.take 8)).1, (b.take (b.length - 4)).drop 8), 0) else (noFr, (prs (b.take 8)).2))
  else (noFr, 11)
/-- what is answered -/
def UnpR (w w' : World) (x : (Hd × List Int) × Int) (e : Ending) : Prop :=
  ∃ A c, e = .returned (.tuple #[frP x.1 (.slice A x.1.2.length c), .int .i64 x.2]) ∧ x.1.2.length ≤ c ∧ NumsS .u8 w' (fun b => w.heap.size ≤ b ∧ b < w'.heap.size) A x.1.2 ∧ Below w.heap.size w w'
theorem UnpR.no {w w' : World} {r : Int} {e : Ending} (he : e = .returned (.tuple #[frV 0 0 0 0 0 (.slice none 0 0), .int .i64 r])) (hb : Below w.heap.size w w') : UnpR w w' (noFr, r) e :=
  ⟨none, 0, he, Nat.le_refl _, NumsS.nil, hb⟩
theorem frInfo : (Tryd.prog.info? 31).map (·.size) = some 6 := by kernel_rfl
theorem fr_one (v k s i c : Int) (A : Option Addr) (n cp : Nat) : (frC v k s i c (.slice A n cp)).all (·.oneCell') = true := by simp [frC, Value.oneCell']
theorem fr_store (w : World) (R : Nat) (old cs : Array Value) (h : w.heap[R]? = some (.cells old 31 (0, 0))) (ho : old.size = 6) (hc : cs.size = 6) (h1 : cs.all (·.oneCell') = true) :
    (Instr.storeAt 31 (.pointer (some ⟨R, 0, none⟩)) (.agg cs)).run Tryd.prog w = .ok () (w.setRow R cs) := by
  simp only [Instr.storeAt, Instr.sureAddr, Sem.run_bind, Sem.run_pure, Result.andThen]
  exact run_storeVar_row w R 31 31 old cs h (by rw [hc]; exact frInfo) (by omega) h1

set_option maxHeartbeats 2000000 in
theorem fopen_short (b : Nat) (a : Option Addr) (n c : Nat) (zs : List Int) (w : World) (hn : zs.length = n) (hs : n ≤ 12) :
    Calls Tryd.prog 48 #[.pointer (some ⟨b, 0, none⟩), .slice a n c] w fun e w' => UnpR w w' (unB zs) e := by
  have e0 : unB zs = (noFr, 13) := by unfold unB; rw [if_pos (by omega)]
  rw [e0]
  have hs' : (n : Int) ≤ 12 := by omega
  clear e0 hn
  go_enter Tryd.func48, Tryd.ntmps48
  go_wp2
  refine bodyPost_ret (v := .tuple #[frV 0 0 0 0 0 (.slice none 0 0), .int .i64 13]) (by simp [results, Tryd.results48, go_sem, frV, frC]) rfl ?_
  exact UnpR.no rfl ((Below.refl _ w).alloc (Nat.le_refl _) _)

/-- what the slots hold whose values are known by what they are good for -/
def FRo (p : Part) (L : List Int) (q : Tmp) (x : Value) (W : World) : Prop :=
  if q = 20 then ∃ a c, x = .slice a 1 c ∧ Parts W W.heap.size a [p]
  else ∃ A c, x = .slice A 4 c ∧ Nums .u8 W W.heap.size A L
theorem FRo.later {p : Part} {L : List Int} {q : Tmp} {x : Value} {W W' : World} (hh : FRo p L q x W) (hb : Below W.heap.size W W') : FRo p L q x W' := by
  unfold FRo at *
  split
  · rename_i h1
    rw [if_pos h1] at hh
    obtain ⟨a, c, e, hg⟩ := hh
    refine ⟨a, c, e, fun p hp => ((hg.1 p hp).below hb).mono hb.size, fun hn => ?_⟩
    obtain ⟨b, off, e2, hc⟩ := hg.2 hn
    refine ⟨b, off, e2, fun j p hj => ?_⟩
    have h3 := hc j p hj
    exact (hb.cell (p := ⟨b, off + j, none⟩) (block_of_cell h3)).trans h3
  · rename_i h1
    rw [if_neg h1] at hh
    obtain ⟨A, c, e, hn⟩ := hh
    exact ⟨A, c, e, (hn.below hb).mono hb.size⟩
/-- .. at its end: a copy of the payload (42), the frame (43) -/
def FRq (R : Nat) (L : List Int) (v k s i d : Int) (q : Tmp) (x : Value) (W : World) : Prop :=
  ∃ A c, x = (if q = 42 then .slice A L.length c else .agg (frC v k s i d (.slice A L.length c))) ∧ L.length ≤ c ∧ NumsS .u8 W (fun b => R < b ∧ b < W.heap.size) A L
theorem FRq.later {R : Nat} {L : List Int} {v k s i d : Int} {q : Tmp} {x : Value} {W W' : World} (hh : FRq R L v k s i d q x W) (hb : Below W.heap.size W W') : FRq R L v k s i d q x W' := by
  obtain ⟨A, c, e, hc, hn⟩ := hh
  exact ⟨A, c, e, hc, (hn.keeps (KeepS.of_below hb fun k hk => hk.2)).more fun k hk => ⟨hk.1, Nat.lt_of_lt_of_le hk.2 hb.size⟩⟩
set_option maxHeartbeats 4000000 in
theorem fopen_long (b : Nat) (a : Option Addr) (n c : Nat) (zs : List Int) (w : World) (hcd : CodAt w w.heap.size b) (hn : zs.length = n) (hc : n ≤ c) (hs : 12 < n) (hl : n ≤ 100000) (hz : Bytes zs) (h1 : Nums .u8 w w.heap.size a zs) :
    Calls Tryd.prog 48 #[.pointer (some ⟨b, 0, none⟩), .slice a n c] w fun e w' => UnpR w w' (unB zs) e := by
  obtain ⟨m, rfl⟩ : ∃ m, n = m + 4 := ⟨n - 4, by omega⟩
  have hT : (zs.take m).length = m := by rw [List.length_take]; omega
  have E0 : zs.length - 4 = m := by omega
  have hd4 : (zs.drop m).length = 4 := by rw [List.length_drop]; omega
  obtain ⟨w0, hw0⟩ : ∃ w0, w.alloc (.cells (frC 0 0 0 0 0 (.slice none 0 0)) 31) = w0 := ⟨_, rfl⟩
  have hb0 : Below w.heap.size w w0 := by rw [← hw0]; exact (Below.refl _ w).alloc (Nat.le_refl _) _
  have hs0 : w0.heap.size = w.heap.size + 1 := by rw [← hw0]; simp
  have hR0 : w0.heap[w.heap.size]? = some (.cells (frC 0 0 0 0 0 (.slice none 0 0)) 31 (0, 0)) := by rw [← hw0]; exact World.alloc_heap_new _ _
  have HW0 := Lib.hid hw0
  have HB0 := Lib.hid hb0
  have HR0 := Lib.hid hR0
  have HS0 := Lib.hid hs0
  have hc0 := (hcd.below hb0).mono hb0.size
  have hn0 := (h1.below hb0).mono hb0.size
  have HP : Hid (Part.At w0 w0.heap.size ⟨a, c, zs.take m⟩) := ⟨by simp only [hT]; omega, by simp only [hT]; omega, hz.take m, hn0.take m⟩
  have hdr := hn0.drop (i := m) (cap := c) (by omega)
  obtain ⟨A', hA⟩ : ∃ A', (if c = m then a else a.map (·.add m)) = A' := ⟨_, rfl⟩
  rw [hA] at hdr
  have HD := Lib.hid hdr
  have HC0 := Lib.hid hc0
  have HN0 := Lib.hid hn0
  have HZ := Lib.hid hz
  have HT := Lib.hid hT
  have HD4 := Lib.hid hd4
  have HE0 := Lib.hid E0
  have HN := Lib.hid hn
  have hi1 : IntKind.i64.wrap ((m + 4 : Nat) - 4 : Int) = (m : Int) := by rw [IntKind.wrap_i64]; omega
  have hm0 : (0 : Int) ≤ (m : Int) := by omega
  have hmc : (m : Int) ≤ (c : Int) := by omega
  have hmn : (m : Int) ≤ ((m + 4 : Nat) : Int) := by omega
  have hnc : ((m + 4 : Nat) : Int) ≤ (c : Int) := by omega
  have hnot : ¬ ((m + 4 : Nat) : Int) ≤ 12 := by omega
  unfold frC at HW0
  clear hw0 hb0 hR0 hs0 hcd h1 hc0 hn0 hdr hz hT hd4 E0 hn
  go_enter Tryd.func48, Tryd.ntmps48
  go_wp2
  rw [HW0.out]
  refine wp_region_F 44 [20, 21] (FRo ⟨a, c, zs.take m⟩ (Cr.le4 (Cr.sum (zs.take m)))) (fun W => Below w0.heap.size w0 W) (by kernel_rfl) (by kernel_rfl) (by rfl) (by simp) (fun W W' h hb => h.trans (hb.mono h.size)) (fun q x W W' h hb => h.later hb) (Below.refl _ _).drew ?_
  repeat (refine wpF_pure rfl rfl ?_; go_big_quiet_step (fail); refine wpQuiet_nil ?_)
  refine wpF_src 20 (by simp) rfl rfl rfl (fun W hW => ⟨.slice (some ⟨W.heap.size, 0, none⟩) 1 1, W.alloc (.cells #[.slice a m c] 29), ?_, ?_, (Below.refl _ _).alloc (Nat.le_refl _) _⟩) ?_
  · simp [go_sem]
  · unfold FRo
    rw [if_pos rfl]
    refine ⟨_, _, rfl, Parts.new 29 _ (fun p hp => ?_) (Nat.le_refl _) (by simp [HT.out]) |> fun h => ⟨fun p hp => (h.1 p hp).mono (by simp), h.2⟩⟩
    obtain rfl : p = ⟨a, c, zs.take m⟩ := by simpa using hp
    exact (HP.out.below hW).mono hW.size
  simp only [Act.put, List.setIfInBounds_toArray, List.set_cons_succ, List.set_cons_zero]
  refine wpF_mixcall 21 [20] (f := 41) (fun xs => #[.pointer (some ⟨b, 0, none⟩), xs 20]) (by simp) rfl (by kernel_rfl) (by kernel_rfl) (fun xs => by rfl) (fun xs W => by first | rfl | (simp [fill, Act.put, Act.eval, go_sem]; done)) (fun xs W hW hx => ?_) ?_
  · have h20 := hx 20 (by simp)
    unfold FRo at h20
    rw [if_pos rfl] at h20
    obtain ⟨a2, cc, e20, hps⟩ := h20
    rw [e20]
    refine (fsum_any W.heap.size b a2 1 cc _ W ((HC0.out.below hW).mono hW.size) rfl (by decide) hps).mono fun e W' ⟨hr, hb⟩ => ?_
    obtain ⟨g2, _, he, hn2⟩ := hr
    refine ⟨_, he, ?_, hb⟩
    unfold FRo
    rw [if_neg (by decide)]
    refine ⟨_, _, rfl, ?_⟩
    simpa [flat] using hn2
  simp only [Act.put, List.setIfInBounds_toArray, List.set_cons_succ, List.set_cons_zero]
  repeat (refine wpF_pure rfl rfl ?_; go_big_quiet_step (fail); refine wpQuiet_nil ?_)
  refine wpF_use 21 5 (f := 21) (fun v => #[v, .slice A' 4 (c - m)]) (.bool (decide (Cr.le4 (Cr.sum (zs.take m)) = zs.drop m))) (by simp) rfl (by kernel_rfl) (by kernel_rfl) (by kernel_rfl) (fun _ => rfl) (fun v x => by first | rfl | (simp [go_sem]; done)) (fun v W hW hv => ?_) ?_
  · unfold FRo at hv
    rw [if_neg (by decide)] at hv
    obtain ⟨A3, c3, rfl, hn3⟩ := hv
    exact (equal_any W.heap.size A3 A' 4 c3 4 (c - m) _ _ W (Cr.le4_len _) HD4.out (le4_bytes _) (HZ.out.drop m) hn3 ((HD.out.below hW).mono hW.size)).mono fun e W' ⟨he, hw⟩ => ⟨he, by rw [hw]; exact Below.refl _ _⟩
  simp only [Act.put, List.setIfInBounds_toArray, List.set_cons_succ, List.set_cons_zero]
  repeat (refine wpF_pure rfl rfl ?_; go_big_quiet_step (fail); refine wpQuiet_nil ?_)
  intro xs W hW hx
  simp only [fill, Act.put, List.setIfInBounds_toArray, List.set_cons_succ, List.set_cons_zero]
  clear hx
  generalize xs 20 = x20
  generalize xs 21 = x21
  have hRW : W.heap[w.heap.size]? = some (.cells (frC 0 0 0 0 0 (.slice none 0 0)) 31 (0, 0)) := (hW.block _ (by rw [HS0.out]; omega)).trans HR0.out
  have hbW := HB0.out.trans (hW.mono HB0.out.size)
  have HUB : Hid (unB zs = if Cr.le4 (Cr.sum (zs.take m)) = zs.drop m then (if (prs (zs.take 8)).2 = 0 then (((prs (zs.take 8)).1, (zs.take m).drop 8), 0) else (noFr, (prs (zs.take 8)).2)) else (noFr, 11)) := by
    show _ = _
    unfold unB
    rw [if_neg (by rw [HN.out]; omega), HE0.out]
  by_cases hsum : Cr.le4 (Cr.sum (zs.take m)) = zs.drop m
  · rw [if_pos hsum] at HUB
    rw [decide_eq_true hsum]
    clear hsum
    have HRW := Lib.hid hRW
    have HBW := Lib.hid hbW
    have K := hparse_any a 8 c (zs.take 8) W (by rw [List.length_take, HN.out]; omega) (HZ.out.take 8) ((HN0.out.take 8).below hW |>.mono hW.size)
    obtain ⟨⟨⟨v, k, s, i, d⟩, er⟩, hP⟩ : ∃ x, prs (zs.take 8) = x := ⟨_, rfl⟩
    rw [hP] at HUB K
    simp only [hdP] at K HUB
    unfold hdV at K
    have h8c : (8 : Int) ≤ (c : Int) := by omega
    have HWW := Lib.hid hW
    clear hRW hbW hP hW
    go_wp2_with fail
    refine K.mono ?_
    rintro e W1 ⟨rfl, hb1⟩
    clear K
    obtain ⟨w2, hw2⟩ : ∃ w2, W1.alloc (.cells #[.int .i64 v, .int .i64 k, .int .u32 s, .int .i64 i, .int .i64 d] 28) = w2 := ⟨_, rfl⟩
    have hs2 : w2.heap.size = W1.heap.size + 1 := by rw [← hw2]; simp
    have hb12 : Below W1.heap.size W1 w2 := by rw [← hw2]; exact (Below.refl _ W1).alloc (Nat.le_refl _) _
    have hbox : w2.heap[W1.heap.size]? = some (.cells #[.int .i64 v, .int .i64 k, .int .u32 s, .int .i64 i, .int .i64 d] 28 (0, 0)) := by rw [← hw2]; exact World.alloc_heap_new _ _
    have hbW2 := hb1.trans (hb12.mono hb1.size)
    have hRlt : w.heap.size < W.heap.size := (Array.getElem?_eq_some_iff.1 HRW.out).1
    have hR2 : w2.heap[w.heap.size]? = some (.cells (frC 0 0 0 0 0 (.slice none 0 0)) 31 (0, 0)) := (hbW2.block _ hRlt).trans HRW.out
    have hB2 := HBW.out.trans (hbW2.mono HBW.out.size)
    have HB02 := Lib.hid (HWW.out.trans (hbW2.mono HWW.out.size))
    have HR2 := Lib.hid hR2
    have HB2 := Lib.hid hB2
    have HW2 := Lib.hid hw2
    have HX := Lib.hid hbox
    have hR2lt : w.heap.size < w2.heap.size := (Array.getElem?_eq_some_iff.1 hR2).1
    clear hw2 hbox hR2 hB2 hbW2 hb12 hb1
    by_cases h0 : er = 0
    · subst h0
      rw [if_pos rfl] at HUB
      obtain ⟨L, hL⟩ : ∃ L, (zs.take m).drop 8 = L := ⟨_, rfl⟩
      have hLl : L.length = m - 8 := by rw [← hL, List.length_drop, HT.out]
      have hLb : Bytes L := by rw [← hL]; exact (HZ.out.take m).drop 8
      obtain ⟨A8, hA8⟩ : ∃ A8, a.map (fun x => ({ block := x.block, off := x.off + 8 } : Addr)) = A8 := ⟨_, rfl⟩
      have hLn : Nums .u8 w2 w2.heap.size A8 L := by
        have hd := (((HN0.out.below HB02.out).mono HB02.out.size).take m).drop (i := 8) (cap := c) (by rw [HT.out]; omega)
        rw [hL] at hd
        obtain ⟨b1, o1, rfl, _⟩ := HN0.out (by intro e; have := HN.out; rw [e] at this; simp at this)
        rw [if_neg (by omega)] at hd
        rw [← hA8]
        simpa [Addr.add] using hd
      have HL := Lib.hid hLl
      have HLN := Lib.hid hLn
      have HLL := Lib.hid hL
      have h8m : (8 : Int) ≤ (m : Int) := by omega
      clear hLb hLn hLl hL
      go_wp2_with fail
      rw [HW2.out]
      have hload : ∀ W, Below w2.heap.size w2 W → (Instr.loadAt 28 (.pointer (some ⟨W1.heap.size, 0, none⟩))).run Tryd.prog W = .ok (.agg #[.int .i64 v, .int .i64 k, .int .u32 s, .int .i64 i, .int .i64 d]) W := fun V hV => by
        obtain ⟨d0, d1, d2, d3, d4⟩ := hd_block ((hV.block W1.heap.size (by rw [hs2]; omega)).trans HX.out)
        simp [Instr.loadAt, go_sem, d0, d1, d2, d3, d4]
      refine wp_region_FS 44 6 4 [42, 43] (FRq w.heap.size L v k s i d) (fun V => Below w2.heap.size w2 V) (fun xs V V' => ∃ A c2, xs 43 = .agg (frC v k s i d (.slice A L.length c2)) ∧ V' = V.setRow w.heap.size (frC v k s i d (.slice A L.length c2))) (by kernel_rfl) (by kernel_rfl) (by rfl) (by kernel_rfl) (by rfl) (by simp) (fun W W' h hb => h.trans (hb.mono h.size)) (fun q x W W' h hb => h.later hb) (Below.refl _ _).drew ?_
      refine wpFS_step (wpF_load (.agg #[.int .i64 v, .int .i64 k, .int .u32 s, .int .i64 i, .int .i64 d]) rfl (by rfl) (by rfl) (by rfl) hload ?_)
      simp only [wpF, Act.put, List.setIfInBounds_toArray, List.set_cons_succ, List.set_cons_zero]
      repeat (refine wpFS_step (wpF_pure rfl rfl ?_); go_big_quiet_step (fail); refine wpQuiet_nil ?_; simp only [wpF])
      refine wpFS_step (wpF_callsrc 42 (f := 44) (args := #[.slice A8 (m - 8) (c - 8)]) (by simp) rfl rfl rfl (fun x => by first | rfl | (simp [go_sem]; done)) (fun V hV => (clone_any A8 (m - 8) (c - 8) L V HL.out (by omega) ((HLN.out.below hV).mono hV.size)).mono fun e V' ⟨x, he, hm⟩ => ?_) ?_)
      · obtain ⟨A, c2, rfl, hc2, _⟩ := hm.slice
        refine ⟨_, he, ⟨A, c2, by rw [if_pos rfl], hc2, (hm.numsS rfl).more fun j hj => ⟨by have := hV.size; omega, hj.2⟩⟩, hm.2⟩
      simp only [wpF, Act.put, List.setIfInBounds_toArray, List.set_cons_succ, List.set_cons_zero]
      refine wpFS_step (wpF_mix 43 [42] (by simp) rfl (by kernel_rfl) (by kernel_rfl) (fun xs => by rfl) (fun xs V hV hx => ?_) ?_)
      · obtain ⟨A, c2, e42, hc2, hn2⟩ := hx 42 (by simp)
        rw [if_pos rfl] at e42
        refine ⟨.agg (frC v k s i d (.slice A L.length c2)), V, ?_, ⟨A, c2, by rw [if_neg (by decide)], hc2, hn2⟩, Below.refl _ _⟩
        simp [execOp, fill, Act.put, Act.eval, e42, frC, go_sem]
      simp only [wpF, Act.put, List.setIfInBounds_toArray, List.set_cons_succ, List.set_cons_zero]
      refine wpFS_store rfl rfl rfl ⟨w.heap.size, 0, none⟩ (fun xs => xs 43) (fun xs => by simp [fill, Act.put, Act.eval]) (fun xs => by simp [fill, Act.put, Act.eval]) (fun xs V hV hx => ?_) ?_
      · obtain ⟨A, c2, e43, hc2, hn2⟩ := hx 43 (by simp)
        rw [if_neg (by decide)] at e43
        refine ⟨_, ?_, A, c2, e43, rfl⟩
        rw [e43]
        exact fr_store V w.heap.size _ _ ((hV.block _ hR2lt).trans HR2.out) rfl rfl (fr_one _ _ _ _ _ _ _ _)
      refine wpFS_pure rfl rfl ?_
      go_big_quiet_step (fail)
      refine wpQuiet_nil ?_
      simp only [wpFS]
      rintro xs V V' hV hx ⟨A, c2, e43, rfl⟩
      obtain ⟨A', c2', e43', hc2, hn2⟩ := hx 43 (by simp)
      rw [if_neg (by decide), e43] at e43'
      obtain ⟨rfl, rfl⟩ : A = A' ∧ c2 = c2' := by simpa [frC] using e43'
      simp only [fill, Act.put, List.setIfInBounds_toArray, List.set_cons_succ, List.set_cons_zero]
      have hfin := setRow_heap V w.heap.size _ (frC v k s i d (.slice A L.length c2)) _ _ ((hV.block _ hR2lt).trans HR2.out)
      have hbf : Below w.heap.size w (V.setRow w.heap.size (frC v k s i d (.slice A L.length c2))) := (HB2.out.trans (hV.mono HB2.out.size)).trans ((Off.setRow (S := fun k => k = w.heap.size) (Off.of_below (Below.refl V.heap.size V)) rfl _).below (fun k hk => by omega) (by have := hV.size; omega))
      have hnf : NumsS .u8 (V.setRow w.heap.size (frC v k s i d (.slice A L.length c2))) (fun b => w.heap.size ≤ b ∧ b < (V.setRow w.heap.size (frC v k s i d (.slice A L.length c2))).heap.size) A L := by
        have hoff := (Off.setRow (S := fun k => k = w.heap.size) (Off.of_below (Below.refl V.heap.size V)) rfl (frC v k s i d (.slice A L.length c2)))
        exact (hn2.keeps (S := _) ⟨hoff.size, fun j hj => hoff.block j hj.2 (by omega)⟩).more fun j hj => ⟨by omega, Nat.lt_of_lt_of_le hj.2 hoff.size⟩
      generalize V.setRow w.heap.size (frC v k s i d (.slice A L.length c2)) = Wf at *
      obtain ⟨d0, d1, d2, d3, d4, d5⟩ := fr_block hfin
      clear hx
      generalize xs 42 = x42
      generalize xs 43 = x43 at *
      go_wp2_with fail
      refine bodyPost_ret (v := .tuple #[frV v k s i d (.slice A L.length c2), .int .i64 0]) (by simp [results, Tryd.results48, go_sem, frV, frC, d0, d1, d2, d3, d4, d5]) rfl ?_
      rw [HUB.out, HLL.out]
      exact ⟨A, c2, rfl, hc2, hnf, hbf⟩
    · rw [if_neg h0] at HUB
      have h1 : (er != 0) = true := by simpa using h0
      have hfin := setRow_heap w2 w.heap.size _ (frC 0 0 0 0 0 (.slice none 0 0)) _ _ HR2.out
      have hbf : Below w.heap.size w (w2.setRow w.heap.size (frC 0 0 0 0 0 (.slice none 0 0))) := HB2.out.trans ((Off.setRow (S := fun k => k = w.heap.size) (Off.of_below (Below.refl w2.heap.size w2)) rfl _).below (fun k hk => by omega) HB2.out.size)
      have HE := Lib.hid h0
      have HR2a : Hid ((W1.alloc (.cells #[.int .i64 v, .int .i64 k, .int .u32 s, .int .i64 i, .int .i64 d] 28)).heap[w.heap.size]? = some (.cells (frC 0 0 0 0 0 (.slice none 0 0)) 31 (0, 0))) := by show _ = _; rw [HW2.out]; exact HR2.out
      clear h0
      go_wp2_with (refine wpList_store_row rfl 31 (.tmp 4) (.tmp 36) rfl w.heap.size (frC 0 0 0 0 0 (.slice none 0 0)) rfl rfl 31 _ HR2a.out frInfo rfl (fr_one _ _ _ _ _ _ _ _) ?_)
      rw [HW2.out]
      generalize w2.setRow w.heap.size (frC 0 0 0 0 0 (.slice none 0 0)) = Wf at *
      obtain ⟨d0, d1, d2, d3, d4, d5⟩ := fr_block hfin
      refine bodyPost_ret (v := .tuple #[frV 0 0 0 0 0 (.slice none 0 0), .int .i64 er]) (by simp [results, Tryd.results48, go_sem, frV, frC, d0, d1, d2, d3, d4, d5]) rfl ?_
      rw [HUB.out]
      exact UnpR.no rfl hbf
  · rw [if_neg hsum] at HUB
    rw [decide_eq_false hsum]
    clear hsum
    have HRW := Lib.hid hRW
    have HBW := Lib.hid hbW
    have hfin := setRow_heap W w.heap.size _ (frC 0 0 0 0 0 (.slice none 0 0)) _ _ hRW
    clear hRW hbW
    go_wp2_with (refine wpList_store_row rfl 31 (.tmp 4) (.tmp 27) rfl w.heap.size (frC 0 0 0 0 0 (.slice none 0 0)) rfl rfl 31 _ HRW.out frInfo rfl (fr_one _ _ _ _ _ _ _ _) ?_)
    have hbf : Below w.heap.size w (W.setRow w.heap.size (frC 0 0 0 0 0 (.slice none 0 0))) := HBW.out.trans ((Off.setRow (S := fun k => k = w.heap.size) (Off.of_below (Below.refl W.heap.size W)) rfl _).below (fun k hk => by omega) HBW.out.size)
    generalize W.setRow w.heap.size (frC 0 0 0 0 0 (.slice none 0 0)) = Wf at *
    obtain ⟨d0, d1, d2, d3, d4, d5⟩ := fr_block hfin
    refine bodyPost_ret (v := .tuple #[frV 0 0 0 0 0 (.slice none 0 0), .int .i64 11]) (by simp [results, Tryd.results48, go_sem, frV, frC, d0, d1, d2, d3, d4, d5]) rfl ?_
    rw [HUB.out]
    exact UnpR.no rfl hbf
theorem fopen_any (b : Nat) (a : Option Addr) (n c : Nat) (zs : List Int) (w : World) (hcd : CodAt w w.heap.size b) (hn : zs.length = n) (hc : n ≤ c) (hl : n ≤ 100000) (hz : Bytes zs) (h1 : Nums .u8 w w.heap.size a zs) :
    Calls Tryd.prog 48 #[.pointer (some ⟨b, 0, none⟩), .slice a n c] w fun e w' => UnpR w w' (unB zs) e := by
  rcases Nat.lt_or_ge 12 n with h | h
  · exact fopen_long b a n c zs w hcd hn hc h hl hz h1
  · exact fopen_short b a n c zs w hn h
end Go.Proofs.YtbohdmconeebeaaDoor

namespace Go.Proofs.YtbohdmconeebeaaDoor
open Go.RowKit Go.Shelf
set_option maxRecDepth 100000
attribute [local go_sem] Oper.semAt_some

/-- the frame of a segment -/
def unS (zs : List Int) : (Hd × List Int) × Int :=
  if 255 < zs.length then (noFr, 2) else match Cb.dec false zs with | none => (noFr, 12) | some b => unB b
theorem dec_shorter {zs x : List Int} (hz : Bytes zs) (h : Cb.dec false zs = some x) : x.length + 1 ≤ zs.length := by
  have := (Cb.dec_iff hz.lt).1 h
  rw [← this]
  exact (Cb.enc_len x).1

theorem enc_mem (l : List Int) : ∀ z ∈ l, z = 0 ∨ z ∈ Cb.enc l := by
  refine Cb.along (p := fun l => ∀ z ∈ l, z = 0 ∨ z ∈ Cb.enc l) ?_ ?_ ?_ l
  · intro b h hl z hz
    rw [Cb.enc_last h hl]
    exact .inr (List.mem_cons_of_mem _ hz)
  · intro b r h hl ih z hz
    rw [Cb.enc_nought h hl]
    rcases List.mem_append.1 hz with hz | hz
    · exact .inr (List.mem_append_left _ (List.mem_cons_of_mem _ hz))
    · rcases List.mem_cons.1 hz with rfl | hz
      · exact .inl rfl
      · exact (ih z hz).imp id fun h => List.mem_append_right _ h
  · intro b r h hl hr ih z hz
    rw [Cb.enc_full h hl hr]
    rcases List.mem_append.1 hz with hz | hz
    · exact .inr (List.mem_append_left _ (List.mem_cons_of_mem _ hz))
    · exact (ih z hz).imp id fun h => List.mem_append_right _ h
theorem decoded_bytes {zs x : List Int} (hz : Bytes zs) (h : Cb.dec false zs = some x) : Bytes x := fun z hm => by
  have he := (Cb.dec_iff hz.lt).1 h
  rcases enc_mem x z hm with rfl | h2
  · decide
  · rw [he] at h2; exact hz z h2

set_option maxHeartbeats 4000000 in
theorem funpack_any (b : Nat) (a : Option Addr) (n c : Nat) (zs : List Int) (w : World) (hcd : CodAt w w.heap.size b) (hn : zs.length = n) (hc : n ≤ c) (hl : n ≤ 1000000) (hz : Bytes zs) (h1 : Nums .u8 w w.heap.size a zs) :
    Calls Tryd.prog 33 #[.pointer (some ⟨b, 0, none⟩), .slice a n c] w fun e w' => UnpR w w' (unS zs) e := by
  by_cases h255 : 255 < n
  · have e0 : unS zs = (noFr, 2) := by unfold unS; rw [if_pos (by omega)]
    rw [e0]
    have hs' : 255 < (n : Int) := by omega
    clear e0 hn h1 hcd
    go_enter Tryd.func33, Tryd.ntmps33
    go_wp2
    refine bodyPost_ret (v := .tuple #[frV 0 0 0 0 0 (.slice none 0 0), .int .i64 2]) (by simp [results, Tryd.results33, go_sem, frV, frC]) rfl ?_
    exact UnpR.no rfl ((Below.refl _ w).alloc (Nat.le_refl _) _)
  · have HU : Hid (unS zs = match Cb.dec false zs with | none => (noFr, 12) | some b => unB b) := by show _ = _; unfold unS; rw [if_neg (by omega)]
    obtain ⟨w0, hw0⟩ : ∃ w0, w.alloc (.cells (frC 0 0 0 0 0 (.slice none 0 0)) 31) = w0 := ⟨_, rfl⟩
    have hb0 : Below w.heap.size w w0 := by rw [← hw0]; exact (Below.refl _ w).alloc (Nat.le_refl _) _
    have hs0 : w0.heap.size = w.heap.size + 1 := by rw [← hw0]; simp
    have hR0 : w0.heap[w.heap.size]? = some (.cells (frC 0 0 0 0 0 (.slice none 0 0)) 31 (0, 0)) := by rw [← hw0]; exact World.alloc_heap_new _ _
    have K := decode_any a n c zs w0 hn hc hl hz ((h1.below hb0).mono hb0.size)
    have hc0 := (hcd.below hb0).mono hb0.size
    have hlt : w.heap.size < w0.heap.size := by omega
    have HW0 := Lib.hid hw0
    have HB0 := Lib.hid hb0
    have HR0 := Lib.hid hR0
    have HC0 := Lib.hid hc0
    have HZ := Lib.hid hz
    have HN := Lib.hid hn
    have hs' : ¬ 255 < (n : Int) := by omega
    unfold frC at HW0
    clear hw0 hb0 hR0 hs0 hc0 hz hn hcd h1
    go_enter Tryd.func33, Tryd.ntmps33
    go_wp2_with fail
    rw [HW0.out]
    refine K.mono ?_
    intro e w1 hr
    clear K
    cases hd : Cb.dec false zs with
    | none =>
      rw [hd] at hr HU
      obtain ⟨rfl, hb1⟩ := hr
      have hR1 := (hb1.block _ hlt).trans HR0.out
      have hB1 := HB0.out.trans (hb1.mono HB0.out.size)
      have hfin := setRow_heap w1 w.heap.size _ (frC 0 0 0 0 0 (.slice none 0 0)) _ _ hR1
      have hbf : Below w.heap.size w (w1.setRow w.heap.size (frC 0 0 0 0 0 (.slice none 0 0))) := hB1.trans ((Off.setRow (S := fun k => k = w.heap.size) (Off.of_below (Below.refl w1.heap.size w1)) rfl _).below (fun k hk => by omega) hB1.size)
      have HR1 := Lib.hid hR1
      clear hR1 hB1 hb1 hd
      go_wp2_with (refine wpList_store_row rfl 31 (.tmp 4) (.tmp 24) rfl w.heap.size (frC 0 0 0 0 0 (.slice none 0 0)) rfl rfl 31 _ HR1.out frInfo rfl (fr_one _ _ _ _ _ _ _ _) ?_)
      generalize w1.setRow w.heap.size (frC 0 0 0 0 0 (.slice none 0 0)) = Wf at *
      obtain ⟨d0, d1, d2, d3, d4, d5⟩ := fr_block hfin
      refine bodyPost_ret (v := .tuple #[frV 0 0 0 0 0 (.slice none 0 0), .int .i64 12]) (by simp [results, Tryd.results33, go_sem, frV, frC, d0, d1, d2, d3, d4, d5]) rfl ?_
      rw [HU.out]
      exact UnpR.no rfl hbf
    | some x =>
      rw [hd] at hr HU
      obtain ⟨vv, rfl, hm⟩ := hr
      obtain ⟨A, c1, rfl, hc1, hn1⟩ := hm.slice
      have hxl := dec_shorter HZ.out hd
      have hxb : Bytes x := decoded_bytes HZ.out hd
      have hR1 := (hm.2.block _ hlt).trans HR0.out
      have hB1 := HB0.out.trans (hm.2.mono HB0.out.size)
      have K2 := fopen_any b A x.length c1 x w1 ((HC0.out.below hm.2).mono hm.2.size) rfl hc1 (by have := HN.out; omega) hxb hn1
      have HR1 := Lib.hid hR1
      have HB1 := Lib.hid hB1
      clear hR1 hB1 hm hd hxb hn1
      go_wp2_with fail
      refine K2.mono ?_
      rintro e w2 ⟨A2, c2, rfl, hc2, hn2, hb2⟩
      clear K2
      obtain ⟨⟨⟨⟨v, k, s, i, d⟩, L⟩, er⟩, hP⟩ : ∃ y, unB x = y := ⟨_, rfl⟩
      rw [hP] at HU hc2 hn2
      simp only [hP, frP, frV] at hc2 hn2 ⊢
      have hlt1 : w.heap.size < w1.heap.size := (Array.getElem?_eq_some_iff.1 HR1.out).1
      have hR2 := (hb2.block _ hlt1).trans HR1.out
      have hB2 := HB1.out.trans (hb2.mono HB1.out.size)
      have hfin := setRow_heap w2 w.heap.size _ (frC v k s i d (.slice A2 L.length c2)) _ _ hR2
      have hoff := (Off.setRow (S := fun k => k = w.heap.size) (Off.of_below (Below.refl w2.heap.size w2)) rfl (frC v k s i d (.slice A2 L.length c2)))
      have hbf : Below w.heap.size w (w2.setRow w.heap.size (frC v k s i d (.slice A2 L.length c2))) := hB2.trans (hoff.below (fun k hk => by omega) hB2.size)
      have hnf : NumsS .u8 (w2.setRow w.heap.size (frC v k s i d (.slice A2 L.length c2))) (fun b => w.heap.size ≤ b ∧ b < (w2.setRow w.heap.size (frC v k s i d (.slice A2 L.length c2))).heap.size) A2 L :=
        (hn2.keeps (S := _) ⟨hoff.size, fun j hj => hoff.block j hj.2 (by omega)⟩).more fun j hj => ⟨by omega, Nat.lt_of_lt_of_le hj.2 hoff.size⟩
      have HR2 := Lib.hid hR2
      clear hR2 hB2 hb2 hoff
      go_wp2_with (refine wpList_store_row rfl 31 (.tmp 4) (.tmp 29) rfl w.heap.size (frC v k s i d (.slice A2 L.length c2)) rfl rfl 31 _ HR2.out frInfo rfl (fr_one _ _ _ _ _ _ _ _) ?_)
      generalize w2.setRow w.heap.size (frC v k s i d (.slice A2 L.length c2)) = Wf at *
      obtain ⟨d0, d1, d2, d3, d4, d5⟩ := fr_block hfin
      refine bodyPost_ret (v := .tuple #[frV v k s i d (.slice A2 L.length c2), .int .i64 er]) (by simp [results, Tryd.results33, go_sem, frV, frC, d0, d1, d2, d3, d4, d5]) rfl ?_
      rw [HU.out]
      exact ⟨A2, c2, rfl, hc2, hnf, hbf⟩
end Go.Proofs.YtbohdmconeebeaaDoor
