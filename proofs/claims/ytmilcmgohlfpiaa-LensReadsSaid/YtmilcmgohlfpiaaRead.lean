/-
  Contracts of the functions of layer 1 that only read bytes: varint.Get.
-/
import Derived.Test.YtmilcmgohlfpiaaRows
import Derived.Test.YtmilcmgohlfpiaaNumGet
import Derived.Test.YtmilcmgohlfpiaaSame
import Derived.WalkLawsBesides
import Derived.BigQuiet
import Derived.Deep.QuietTactic
import Derived.Deep.LoopGhost
import Derived.Lib.Hide
import Derived.WalkMore
namespace Go.Proofs.Ytmilcmgohlfpiaa
open Go.RowKit
set_option maxRecDepth 100000

/-- what Get answers -/
def GetR (r : Nat × Nat × Nat) (e : Ending) : Prop := e = .returned (.tuple #[.int .u64 r.1, .int .i64 r.2.1, .int .i64 r.2.2])
theorem GetR.of {r : Nat × Nat × Nat} {a b c : Int} (ha : a = r.1) (hb : b = r.2.1) (hc : c = r.2.2) : GetR r (.returned (.tuple #[.int .u64 a, .int .i64 b, .int .i64 c])) := by
  subst ha hb hc; rfl

theorem split_at {zs p r : List Int} {k : Nat} {c : Int} (hs : zs = p ++ r) (hp : p.length = k) (hc : zs[k]? = some c) : ∃ r', r = c :: r' ∧ zs = (p ++ [c]) ++ r' := by
  subst hs hp
  rw [List.getElem?_append_right (Nat.le_refl _), Nat.sub_self] at hc
  cases r with
  | nil => simp at hc
  | cons d r => simp at hc; subst hc; exact ⟨r, rfl, by simp⟩

/-- the bytes p have come, all of them high -/
def Come (zs : List Int) (k : Nat) (X : Int) : Prop := ∃ p r, zs = p ++ r ∧ p.length = k ∧ (∀ c ∈ p, 128 ≤ c) ∧ X = Vi.val p
theorem come_nil (zs : List Int) : Come zs 0 0 := ⟨[], zs, rfl, rfl, by simp, rfl⟩
theorem come_more {zs : List Int} {k : Nat} {X c : Int} (hz : ∀ c ∈ zs, 0 ≤ c ∧ c ≤ 255) (h : Come zs k X) (hk : k ≤ 8) (hc : zs[k]? = some c) (h1 : 128 ≤ c) : Come zs (k + 1) (bits .or .u64 X (IntKind.u64.wrap (c % 128 * 2 ^ (7 * k)))) := by
  obtain ⟨p, r, hs, hp, ha, rfl⟩ := h
  obtain ⟨r', rfl, hs'⟩ := split_at hs hp hc
  have hv := Vi.val_lt p
  have hcb := hz c (by rw [hs]; simp)
  refine ⟨p ++ [c], r', hs', by simp [hp], ?_, ?_⟩
  · intro d hd
    simp only [List.mem_append, List.mem_singleton] at hd
    rcases hd with hd | rfl
    · exact ha d hd
    · exact h1
  · have hj := Vi.or_join (Vi.val p) (c.toNat % 128) k (by rw [← hp]; exact hv) (by omega) (by omega) (by omega)
    rw [show ((c.toNat % 128 : Nat) : Int) = c % 128 by omega] at hj
    rw [hj, Vi.val_append, hp]
    simp [Vi.val]
/-- the last byte -/
theorem come_last {zs : List Int} {k : Nat} {X c : Int} (hz : ∀ c ∈ zs, 0 ≤ c ∧ c ≤ 255) (h : Come zs k X) (hk : k ≤ 9) (hc : zs[k]? = some c) (h1 : c < 128) (h9 : k = 9 → c ≤ 1) (h0 : k = 0 ∨ c ≠ 0) :
    ((Vi.get zs).1 : Int) = bits .or .u64 X (IntKind.u64.wrap (c % 128 * 2 ^ (7 * k))) ∧ (Vi.get zs).2.1 = k + 1 ∧ (Vi.get zs).2.2 = 0 := by
  obtain ⟨p, r, hs, hp, ha, rfl⟩ := h
  obtain ⟨r', rfl, hs'⟩ := split_at hs hp hc
  have hv := Vi.val_lt p
  have hcb := hz c (by rw [hs]; simp)
  have hj := Vi.or_join (Vi.val p) (c.toNat % 128) k (by rw [← hp]; exact hv) hk (by omega) (by omega)
  rw [show ((c.toNat % 128 : Nat) : Int) = c % 128 by omega] at hj
  have hva : Vi.val (p ++ [c]) = Vi.val p + 128 ^ k * (c.toNat % 128) := by rw [Vi.val_append, hp]; simp [Vi.val]
  have hlt : Vi.val (p ++ [c]) < 18446744073709551616 := by
    by_cases h : k = 9
    · have := h9 h
      subst h
      rw [hp] at hv
      rw [hva]
      have e9 : (128 : Nat) ^ 9 = 9223372036854775808 := by decide
      rw [e9] at hv ⊢
      omega
    · have hv2 := Vi.val_lt (p ++ [c])
      have hle : (p ++ [c]).length ≤ 9 := by simp; omega
      have h9' : 128 ^ (p ++ [c]).length ≤ 128 ^ 9 := Nat.pow_le_pow_right (by decide) hle
      have e9 : (128 : Nat) ^ 9 = 9223372036854775808 := by decide
      omega
  rw [hs, Vi.get_ok ha (by omega) h1 hlt (by omega), hj, hva, hp]
  exact ⟨rfl, rfl, rfl⟩
theorem come_bad {zs : List Int} {k : Nat} {X c : Int} (h : Come zs k X) (hk : k ≤ 9) (hc : zs[k]? = some c) (h1 : c < 128) (hb : (k = 9 ∧ 1 < c) ∨ (0 < k ∧ c = 0)) : Vi.get zs = (0, 0, 3) := by
  obtain ⟨p, r, hs, hp, ha, rfl⟩ := h
  obtain ⟨r', rfl, hs'⟩ := split_at hs hp hc
  rw [hs]
  refine Vi.get_bad ha (by omega) h1 ?_
  rcases hb with ⟨h9, hc1⟩ | ⟨hk0, hc0⟩
  · left
    rw [Vi.val_append, hp, h9]
    have e9 : (128 : Nat) ^ 9 = 9223372036854775808 := by decide
    rw [e9]
    simp only [Vi.val]
    omega
  · exact .inr ⟨by omega, hc0⟩
theorem come_long {zs : List Int} {X c : Int} (h : Come zs 9 X) (hc : zs[9]? = some c) (h1 : 128 ≤ c) : Vi.get zs = (0, 0, 3) := by
  obtain ⟨p, r, hs, hp, ha, rfl⟩ := h
  obtain ⟨r', rfl, hs'⟩ := split_at hs hp hc
  rw [hs']
  refine Vi.get_long ?_ (by simp [hp])
  intro d hd
  simp only [List.mem_append, List.mem_singleton] at hd
  rcases hd with hd | rfl
  · exact ha d hd
  · exact h1
theorem come_end {zs : List Int} {X : Int} {k : Nat} (h : Come zs k X) (hk : k ≤ 9) (hl : k = zs.length) : Vi.get zs = (0, 0, 4) := by
  obtain ⟨p, r, hs, hp, ha, rfl⟩ := h
  have : r = [] := by
    apply List.eq_nil_of_length_eq_zero
    have := congrArg List.length hs
    simp at this; omega
  subst this
  rw [List.append_nil] at hs
  subst hs
  exact Vi.get_end ha (by omega)

set_option maxHeartbeats 400000 in
theorem get_any (B : Nat) (a : Option Addr) (cap : Nat) (zs : List Int) (w : World) (hl : zs.length ≤ 9223372036854775807) (hz : ∀ c ∈ zs, 0 ≤ c ∧ c ≤ 255) (h1 : Nums .u8 w B a zs) :
    Calls Try.prog 45 #[.slice a zs.length cap] w fun e w' => GetR (Vi.get zs) e ∧ w = w' := by
  have HZ := Lib.hid hz
  clear hz
  go_enter Try.func45, Try.ntmps45
  go_wp2
  go_step3
  go_wp2
  go_step3
  go_wp2
  go_loop [5, 6, 7, 12] (fun x l s i => ∃ (k : Nat) (X : Int), k ≤ zs.length ∧ k ≤ 9 ∧ i = .int .i64 k ∧ x = .int .u64 X ∧ l = .int .u8 0 ∧ s = .int .i64 0 ∧ Come zs k X) (fun _ _ _ i => zs.length - (intOf i).toNat)
  case atStart => exact ⟨0, 0, by omega, by omega, rfl, rfl, rfl, rfl, come_nil zs⟩
  case round =>
    obtain ⟨k, X, hk, hk9, rfl, rfl, rfl, rfl, hcome⟩ := hrel
    by_cases hlt : k < zs.length
    · obtain ⟨c, hc⟩ : ∃ c, zs[k]? = some c := ⟨_, List.getElem?_eq_getElem hlt⟩
      obtain ⟨b1, o1, rfl, hb1, hc1⟩ := h1.open hc
      have hcb := HZ.out c (List.mem_of_getElem? hc)
      have HC := Lib.hid hc
      clear h1 hc
      have hlt' : (k : Int) < (zs.length : Int) := by omega
      by_cases h128 : c < 128
      · by_cases hbad : (k = 9 ∧ 1 < c) ∨ (0 < k ∧ c = 0)
        · have HB := Lib.hid (come_bad hcome hk9 HC.out h128 hbad)
          have h00 : ((k : Int) + 1 == 0) = false := by simp; omega
          have h10 : ((k : Int) + 1 == 10) = decide (k = 9) := by rw [Bool.eq_iff_iff]; simp; omega
          rcases hbad with ⟨h9, hc1⟩ | ⟨hk0, hc0⟩
          · have hc0 : (c == 0) = false := by simp; omega
            have h10' : ((k : Int) + 1 == 10) = true := by simp; omega
            have hk1 : 1 < (k : Int) + 1 := by omega
            clear h10 hcome
            have H9 := Lib.hid h9
            clear h9
            go_wp2
            go_ret3
            exact ⟨by rw [HB.out]; exact GetR.of rfl rfl rfl, rfl⟩
          · have hc0' : (c == 0) = true := by simp; omega
            have hk1 : 1 < (k : Int) + 1 := by omega
            have H0 := Lib.hid hc0
            clear h10 hcome hc0
            go_wp2
            go_ret3
            exact ⟨by rw [HB.out]; exact GetR.of rfl rfl rfl, rfl⟩
        · have HO := Lib.hid (come_last HZ.out hcome hk9 HC.out h128 (by omega) (by omega))
          have h00 : ((k : Int) + 1 == 0) = false := by simp; omega
          by_cases hc0 : c = 0
          · have hc0' : (c == 0) = true := by simp; omega
            have hk1 : ¬ 1 < (k : Int) + 1 := by omega
            have h10' : ((k : Int) + 1 == 10) = false := by simp; omega
            have H0 := Lib.hid hc0
            clear hcome hc0 hbad
            go_wp2
            go_ret3
            exact ⟨GetR.of HO.out.1.symm (by rw [HO.out.2.1]; rfl) (by rw [HO.out.2.2]; rfl), rfl⟩
          · have hc0' : (c == 0) = false := by simp; omega
            by_cases h9 : k = 9
            · have h10' : ((k : Int) + 1 == 10) = true := by simp; omega
              have hc1 : ¬ 1 < c := by omega
              have hk1 : 1 < (k : Int) + 1 := by omega
              have H9 := Lib.hid h9
              clear hcome hc0 hbad h9
              go_wp2
              go_ret3
              exact ⟨GetR.of HO.out.1.symm (by rw [HO.out.2.1]; rfl) (by rw [HO.out.2.2]; rfl), rfl⟩
            · have h10' : ((k : Int) + 1 == 10) = false := by simp; omega
              clear hcome hbad
              go_wp2
              all_goals go_ret3
              all_goals exact ⟨GetR.of HO.out.1.symm (by rw [HO.out.2.1]; rfl) (by rw [HO.out.2.2]; rfl), rfl⟩
      · by_cases h9 : k = 9
        · have HB : Hid (Vi.get zs = (0, 0, 3)) := by subst h9; exact come_long hcome HC.out (by omega)
          have h9' : ((k : Int) == 9) = true := by simp; omega
          clear hcome h9
          go_wp2
          go_ret3
          exact ⟨by rw [HB.out]; exact GetR.of rfl rfl rfl, rfl⟩
        · have h9' : ((k : Int) == 9) = false := by simp; omega
          have HM := Lib.hid (come_more HZ.out hcome (by omega) HC.out (by omega))
          clear hcome
          go_wp2
          go_round
          case rel => exact ⟨k + 1, _, by omega, by omega, by go_num, rfl, rfl, rfl, HM.out⟩
          case measure => simp [intOf]; omega
    · have HB := Lib.hid (come_end hcome hk9 (by omega))
      clear hcome
      go_wp2
      go_ret3
      exact ⟨by rw [HB.out]; exact GetR.of rfl rfl rfl, rfl⟩

/-- .. the length under a name of its own -/
theorem get_len (B : Nat) (a : Option Addr) (n cap : Nat) (zs : List Int) (w : World) (hn : zs.length = n) (hl : n ≤ 9223372036854775807) (hz : ∀ c ∈ zs, 0 ≤ c ∧ c ≤ 255) (h1 : Nums .u8 w B a zs) :
    Calls Try.prog 45 #[.slice a n cap] w fun e w' => GetR (Vi.get zs) e ∧ w = w' := by
  subst hn; exact get_any B a cap zs w hl hz h1

end Go.Proofs.Ytmilcmgohlfpiaa
