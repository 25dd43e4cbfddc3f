/-
  The walk of the law FieldPlaces: it returns true.
-/
import Derived.Test.YtnnpbakgjcjbaaaFldG
namespace Go.Proofs.Ytnnpbakgjcjbaaa
open Go.RowKit Go.Shelf
set_option maxRecDepth 100000
attribute [local go_sem] Oper.semAt_some

theorem nums3_pls : ∀ (l : List Fd) (p : Int) (i : Nat), nums3 ((pls l p).take i) = nums3 (l.take i)
  | [], _, _ => by simp [pls]
  | f :: r, p, 0 => by simp
  | f :: r, p, i + 1 => by
    rw [pls]
    split
    · rw [List.take_succ_cons, List.take_succ_cons, nums3, nums3, nums3_pls r]
    · rw [List.take_succ_cons, List.take_succ_cons, nums3, nums3, nums3_pls r]
theorem raw_facts (k : Int) : ∀ f ∈ raw k, ((f.so = 1 ∨ f.so = 2) → f.le ≤ f.mo ∧ ((f.si = 2 ∧ f.le ≤ f.ab ∧ f.ab ≤ f.mo) ∨ (f.si = 1 ∧ f.ab = 0))) := by
  unfold raw
  repeat' split
  all_goals simp
theorem raw_names (k : Int) : ((raw k).map Fd.nm).Nodup := by
  unfold raw
  repeat' split
  all_goals decide
theorem pls_names : ∀ (l : List Fd) (p : Int), (pls l p).map Fd.nm = l.map Fd.nm
  | [], _ => rfl
  | f :: r, p => by
    rw [pls]
    split <;> rw [List.map_cons, List.map_cons, pls_names r]
/-- what the law asks of each -/
def PlOk (L : List Fd) (i : Nat) (f : Fd) : Prop :=
  (((f.so = 1 ∨ f.so = 2) ∧ f.pl = nums3 (L.take i) ∧ nums3 (L.take (i + 1)) = f.pl + 1 ∧ 0 ≤ f.pl ∧ f.pl ≤ 6 ∧ f.le ≤ f.mo ∧ ((f.si = 2 ∧ f.le ≤ f.ab ∧ f.ab ≤ f.mo) ∨ (f.si = 1 ∧ f.ab = 0))) ∨ (f.so ≠ 1 ∧ f.so ≠ 2 ∧ f.pl = -1 ∧ nums3 (L.take (i + 1)) = nums3 (L.take i))) ∧ ∀ (j : Nat) (g : Fd), j < i → L[j]? = some g → g.nm ≠ f.nm
theorem FD_ok (k : Int) (i : Nat) (f : Fd) (hf : (FD k)[i]? = some f) : PlOk (FD k) i f := by
  have hi : i < (raw k).length := by have := (List.getElem?_eq_some_iff.1 hf).1; unfold FD at this; rwa [pls_len] at this
  obtain ⟨r, hr⟩ : ∃ r, (raw k)[i]? = some r := ⟨_, List.getElem?_eq_getElem hi⟩
  have hp := pls_get (raw k) 0 i r hr
  rw [Int.zero_add] at hp
  have hrm := List.mem_of_getElem? hr
  have h1 := raw_facts k r hrm
  have h2 := raw_so k r hrm
  have h3 := nums3_nonneg ((raw k).take i)
  have h4 := raw_few k
  have h5 := nums3_take (raw k) i r hr
  rw [List.length_take] at h3
  refine ⟨?_, fun j g hj hg e => ?_⟩
  · unfold FD at hf ⊢
    rw [hp] at hf
    obtain rfl := Option.some.inj hf
    simp only [nums3_pls]
    by_cases h6 : r.so < 3
    · left
      rw [if_pos h6] at h5 ⊢
      have := h1 (by omega)
      exact ⟨by omega, rfl, h5, by omega, by omega, this⟩
    · right
      rw [if_neg h6] at h5 ⊢
      exact ⟨by omega, by omega, rfl, by omega⟩
  · have hn := raw_names k
    rw [← pls_names (raw k) 0] at hn
    have hjl := (List.getElem?_eq_some_iff.1 hg).1
    have hil := (List.getElem?_eq_some_iff.1 hf).1
    have h6 := List.pairwise_iff_getElem.1 hn j i (by rw [List.length_map]; exact hjl) (by rw [List.length_map]; exact hil) hj
    apply h6
    rw [List.getElem_map, List.getElem_map]
    have a1 := (List.getElem?_eq_some_iff.1 hg).2
    have a2 := (List.getElem?_eq_some_iff.1 hf).2
    unfold FD at a1 a2
    rw [a1, a2]
    exact e

theorem FD_first {k : Int} (h1 : 1 ≤ k) (h5 : k ≤ 5) : 1 ≤ (FD k).length ∧ (FD k).length ≤ 6 ∧ (∃ f, (FD k)[0]? = some f ∧ f.nm = ⟨#[114, 111, 98, 111, 116]⟩) ∧ nums3 (FD k) ≤ 6 := by
  obtain rfl | rfl | rfl | rfl | rfl : k = 1 ∨ k = 2 ∨ k = 3 ∨ k = 4 ∨ k = 5 := by omega
  all_goals exact ⟨by decide, by decide, ⟨_, rfl, rfl⟩, by decide⟩
theorem kind_of (kind : Int) : ∃ K, wrap64 (1 + wrap64 ((IntKind.u64.wrap kind).tmod 5)) = K ∧ 1 ≤ K ∧ K ≤ 5 := by
  have h0 : IntKind.u64.wrap kind = kind % 18446744073709551616 := by
    simp [IntKind.wrap, IntKind.bits, IntKind.signed]
  refine ⟨_, rfl, ?_⟩
  rw [h0, Int.tmod_eq_emod_of_nonneg (Int.emod_nonneg _ (by decide))]
  unfold wrap64
  omega

set_option maxHeartbeats 4000000 in
theorem places_go (kind : Int) (w : World) :
    Calls Try.prog 5 #[.int .i64 kind] w fun e w' => e = .returned (.bool true) ∧ Below w.heap.size w w' := by
  have K1 := Lib.hid flknown_any
  have KO := Lib.hid of_any
  obtain ⟨K, hK, hK1, hK5⟩ := kind_of kind
  go_enter Try.func5, Try.ntmps5
  go_wp2_with fail
  rw [hK]
  refine (KO.out K w).mono ?_
  intro e w1 hR
  obtain ⟨A, c, rfl, hc, hA, hb1⟩ := hR.in
  clear hR KO
  obtain ⟨x1, x2, x3, x4⟩ := FD_first hK1 hK5
  have hok := FD_ok K
  obtain ⟨L, hL⟩ : ∃ L, FD K = L := ⟨_, rfl⟩
  rw [hL] at hc hA hok x1 x2 x3 x4 ⊢
  obtain ⟨N, hN⟩ : ∃ N, L.length = N := ⟨_, rfl⟩
  rw [hN] at hc x1 x2 ⊢
  obtain ⟨f0, hf0, hf0n⟩ := x3
  have HN := Lib.hid hN
  have HA := Lib.hid hA
  have HOK := Lib.hid hok
  have HB1 := Lib.hid hb1
  have HF0 := Lib.hid hf0
  have HNU := Lib.hid x4
  clear hN hA hok hb1 hL hf0 x4 hK
  go_wp2_with fail
  go_loopw [5, 6] (fun p iv wr => ∃ i : Nat, i ≤ N ∧ iv = .int .i64 (i : Int) ∧ p = .int .i64 (nums3 (L.take i)) ∧ Hid (Below w1.heap.size w1 wr)) (fun _ iv _ => N - (intOf iv).toNat)
  case atStart => exact ⟨0, by omega, rfl, rfl, Lib.hid (Below.refl _ _)⟩
  case round =>
    obtain ⟨i, hi, rfl, rfl, HB⟩ := hrel
    rcases Nat.lt_or_ge i N with hlt | hge
    · obtain ⟨f, hf⟩ : ∃ f, L[i]? = some f := ⟨_, List.getElem?_eq_getElem (by rw [HN.out]; exact hlt)⟩
      have HAr := Lib.hid (HA.out.off (Off.of_below (S := fun _ => False) HB.out) (fun _ _ h => h))
      obtain ⟨hok, hnm⟩ := HOK.out i f hf
      obtain ⟨g, rfl, hg, hglt, d0, d1, d2, d3, d4, d5, d6⟩ := HAr.out.seven hf
      have HNM := Lib.hid hnm
      clear hnm hf
      rcases hok with ⟨hso, hp1, hp2, h0, h6, hle, hsi⟩ | ⟨h1, h2, h3, h4⟩
      · rw [← hp1]
        have HP2 := Lib.hid hp2
        clear hp1 hp2
        rcases hso with hso | hso <;> rcases hsi with ⟨hsi, ha1, ha2⟩ | ⟨hsi, ha⟩
        all_goals
          go_wp2_with fail
          go_loopw [9] (fun jv wv => ∃ j : Nat, j ≤ i ∧ jv = .int .i64 (j : Int) ∧ Hid (Below w1.heap.size w1 wv) ∧ Hid (wv.cell? ⟨wr.heap.size, 0, none⟩ = some (.string f.nm))) (fun jv _ => i - (intOf jv).toNat)
          case atStart => exact ⟨0, by omega, rfl, Lib.hid (HB.out.alloc HB.out.size _), Lib.hid (by rw [World.cell?_alloc_at _ _ _ _ rfl]; rfl)⟩
          case round =>
            obtain ⟨j, hj, rfl, HBj, HC⟩ := hrel
            rcases Nat.lt_or_ge j i with hji | hji
            · obtain ⟨gj, hgj⟩ : ∃ gj, L[j]? = some gj := ⟨_, List.getElem?_eq_getElem (by rw [HN.out]; omega)⟩
              obtain ⟨g2, hg2, _, _, e0, _, _, _, _, _, _⟩ := (HA.out.off (Off.of_below (S := fun _ => False) HBj.out) (fun _ _ h => h)).seven hgj
              obtain rfl : g = g2 := by injection hg2 with h; injection h
              have hne := str_ne (HNM.out j gj hji hgj)
              have e1 := HC.out
              clear hg2 hgj
              go_wp2_with fail
              go_quiet (fail)
              go_wp2
              exact ⟨⟨j + 1, by omega, by go_num, Lib.hid (below_drewN HBj.out _), HC⟩, by simp only [intOf]; omega⟩
            · obtain rfl : j = i := by omega
              go_wp2
              exact ⟨⟨j + 1, by omega, by go_num, by rw [HP2.out], HBj⟩, by simp only [intOf]; omega⟩
      · have HP2 := Lib.hid h4
        obtain ⟨m, hm⟩ : ∃ m, nums3 (L.take i) = m := ⟨_, rfl⟩
        rw [hm] at HP2 ⊢
        have n1 : (f.so == 1) = false := by simpa using h1
        have n2 : (f.so == 2) = false := by simpa using h2
        clear h4 hm
        all_goals
          go_wp2_with fail
          go_loopw [9] (fun jv wv => ∃ j : Nat, j ≤ i ∧ jv = .int .i64 (j : Int) ∧ Hid (Below w1.heap.size w1 wv) ∧ Hid (wv.cell? ⟨wr.heap.size, 0, none⟩ = some (.string f.nm))) (fun jv _ => i - (intOf jv).toNat)
          case atStart => exact ⟨0, by omega, rfl, Lib.hid (HB.out.alloc HB.out.size _), Lib.hid (by rw [World.cell?_alloc_at _ _ _ _ rfl]; rfl)⟩
          case round =>
            obtain ⟨j, hj, rfl, HBj, HC⟩ := hrel
            rcases Nat.lt_or_ge j i with hji | hji
            · obtain ⟨gj, hgj⟩ : ∃ gj, L[j]? = some gj := ⟨_, List.getElem?_eq_getElem (by rw [HN.out]; omega)⟩
              obtain ⟨g2, hg2, _, _, e0, _, _, _, _, _, _⟩ := (HA.out.off (Off.of_below (S := fun _ => False) HBj.out) (fun _ _ h => h)).seven hgj
              obtain rfl : g = g2 := by injection hg2 with h; injection h
              have hne := str_ne (HNM.out j gj hji hgj)
              have e1 := HC.out
              clear hg2 hgj
              go_wp2_with fail
              go_quiet (fail)
              go_wp2
              exact ⟨⟨j + 1, by omega, by go_num, Lib.hid (below_drewN HBj.out _), HC⟩, by simp only [intOf]; omega⟩
            · obtain rfl : j = i := by omega
              go_wp2
              exact ⟨⟨j + 1, by omega, by go_num, by rw [HP2.out], HBj⟩, by simp only [intOf]; omega⟩
    · obtain rfl : i = N := by omega
      have h1 := HNU.out
      rw [List.take_of_length_le (by rw [HN.out]; exact Nat.le_refl _)]
      obtain ⟨m, hm⟩ : ∃ m, nums3 L = m := ⟨_, rfl⟩
      rw [hm] at h1 ⊢
      go_wp2_with fail
      refine (K1.out wr).mono ?_
      rintro e w5 ⟨rfl, hb5⟩
      obtain ⟨g, rfl, hg, hglt, d0, _⟩ := (HA.out.off (Off.of_below (S := fun _ => False) (HB.out.trans (hb5.mono HB.out.size))) (fun _ _ h => h)).seven HF0.out
      rw [hf0n, Nat.zero_mul] at d0
      have HF := Lib.hid (HB1.out.trans ((HB.out.trans (hb5.mono HB.out.size)).mono HB1.out.size))
      clear hb5
      go_wp2
      go_ret
      exact ⟨rfl, HF.out⟩
theorem walk_fplaces (a0 : Int) (_w0 : (Lit.int .i64 a0).wf = true) (w : World) :
    Calls Try.prog 5 #[.int .i64 a0] w fun e w' => e = .returned (.bool true) ∧ Below w.heap.size w w' := places_go a0 w
end Go.Proofs.Ytnnpbakgjcjbaaa
