/-
  The walk of the law FieldKinds: it returns true.
-/
import Derived.Test.YtnnpbakgjcjbaaaFldG
namespace Go.Proofs.Ytnnpbakgjcjbaaa
open Go.RowKit Go.Shelf
set_option maxRecDepth 100000
attribute [local go_sem] Oper.semAt_some

theorem kinds_not_nil (w : World) : (binOp .eql 39 (.func (.func 21) #[] #[]) .nilFunc).run Try.prog w = .ok (.bool false) w := by kernel_rfl
theorem str_lit1 : (ByteArray.mk #[109, 111, 118, 101]).toList = [109, 111, 118, 101] := by rw [ByteArray.toList_eq]
theorem str_lit2 : (ByteArray.mk #[104, 111, 108, 100]).toList = [104, 111, 108, 100] := by rw [ByteArray.toList_eq]
theorem str_lit3 : (ByteArray.mk #[103, 114, 97, 110, 116]).toList = [103, 114, 97, 110, 116] := by rw [ByteArray.toList_eq]
theorem str_lit4 : (ByteArray.mk #[112, 111, 115, 101]).toList = [112, 111, 115, 101] := by rw [ByteArray.toList_eq]
theorem str_lit5 : (ByteArray.mk #[102, 97, 117, 108, 116]).toList = [102, 97, 117, 108, 116] := by rw [ByteArray.toList_eq]
theorem kd_cases (x : ByteArray) : (kd x = 0 ∧ x ≠ ⟨#[109, 111, 118, 101]⟩ ∧ x ≠ ⟨#[104, 111, 108, 100]⟩ ∧ x ≠ ⟨#[103, 114, 97, 110, 116]⟩ ∧ x ≠ ⟨#[112, 111, 115, 101]⟩ ∧ x ≠ ⟨#[102, 97, 117, 108, 116]⟩) ∨ (1 ≤ kd x ∧ kd x ≤ 5 ∧ wd (kd x) = x) := by
  unfold kd
  by_cases h1 : x = wd 1
  · right; rw [if_pos h1, h1]; decide
  by_cases h2 : x = wd 2
  · right; rw [if_neg h1, if_pos h2, h2]; decide
  by_cases h3 : x = wd 3
  · right; rw [if_neg h1, if_neg h2, if_pos h3, h3]; decide
  by_cases h4 : x = wd 4
  · right; rw [if_neg h1, if_neg h2, if_neg h3, if_pos h4, h4]; decide
  by_cases h5 : x = wd 5
  · right; rw [if_neg h1, if_neg h2, if_neg h3, if_neg h4, if_pos h5, h5]; decide
  · left; rw [if_neg h1, if_neg h2, if_neg h3, if_neg h4, if_neg h5]; exact ⟨rfl, h1, h2, h3, h4, h5⟩

theorem KeepsFrom.of_below {B : Nat} {V W : World} (h : Below V.heap.size V W) : KeepsFrom B V W := ⟨h.size, fun q _ _ ho _ => (h.block q (Array.getElem?_eq_some_iff.1 ho).1).trans ho⟩
set_option maxHeartbeats 8000000 in
theorem kinds_go (x : ByteArray) (stop : Int) (hlo : -9223372036854775808 ≤ stop) (hhi : stop ≤ 9223372036854775807) (w : World) :
    Calls Try.prog 4 #[.string x, .int .i64 stop] w fun e w' => e = .returned (.bool true) ∧ Below w.heap.size w w' := by
  obtain ⟨w3, hw3⟩ : ∃ w3, w3 = ((w.alloc (.cells #[.int .i64 stop] 3)).alloc (.cells #[.bool false] 4)).alloc (.cells #[.int .i64 0] 3) := ⟨_, rfl⟩
  have hs3 : w3.heap.size = w.heap.size + 3 := by rw [hw3]; simp
  have hb3 : Below w.heap.size w w3 := by rw [hw3]; exact (((Below.refl _ w).alloc (Nat.le_refl _) _).alloc (by simp) _).alloc (by simp; omega) _
  have p0 : Boxed w3 w.heap.size 3 (.int .i64 stop) := by
    rw [hw3]; exact (Below.heap_alloc _ _ _ (by simp; omega)).trans ((Below.heap_alloc _ _ _ (by simp)).trans (World.alloc_heap_new _ _))
  have p1 : Boxed w3 (w.heap.size + 1) 4 (.bool false) := by
    rw [hw3]
    have := World.alloc_heap_new (w.alloc (.cells #[.int .i64 stop] 3)) (.cells #[.bool false] 4)
    rw [World.size_alloc] at this
    exact (Below.heap_alloc _ _ _ (by simp)).trans this
  have p2 : Boxed w3 (w.heap.size + 1 + 1) 3 (.int .i64 0) := by
    rw [hw3]
    have := World.alloc_heap_new ((w.alloc (.cells #[.int .i64 stop] 3)).alloc (.cells #[.bool false] 4)) (.cells #[.int .i64 0] 3)
    rwa [World.size_alloc, World.size_alloc] at this
  have HW := Lib.hid hw3
  clear hw3
  refine (callsIn_wide (n := 9)).1 ?_
  refine callsIn_of_wp_marks Try.func4 rfl trivial ?_ rfl
  simp only [Try.ntmps4, List.size_toArray, List.length_cons, List.length_nil, Nat.reduceAdd, Nat.reduceSub, Array.replicate_succ, Array.replicate_zero, List.push_toArray, List.append_toArray, List.nil_append, List.cons_append]
  gi_wp2_with fail
  refine ⟨trivial, ?_⟩
  rw [← HW.out]
  refine (callsIn_wide.2 (kinds_any w3)).mono ?_
  rintro e w4 ⟨rfl, rfl⟩
  clear HW
  have hnn := kinds_not_nil
  gi_wp2_with fail
  refine range_stops rfl (by omega) (gf := 21) (lb := #[]) rfl trivial (enters_of Try.func21 (by kernel_rfl) rfl)
    (fun j : Nat => #[.int .i64 ((j : Int) + 1), .string (wd ((j : Int) + 1))]) (fun _ => rfl)
    (fun j x' V => x' = j ∧ Boxed V (w.heap.size + 1 + 1) 3 (.int .i64 (j : Int)) ∧ Off (fun q => q = w.heap.size + 1 + 1) w3 V)
    (fun j V => Boxed V (w.heap.size + 1 + 1) 3 (.int .i64 (j : Int)) ∧ Off (fun q => q = w.heap.size + 1 + 1) w3 V)
    (fun cd V => False) (fun _ _ => True) 5
    (fun j x' V l o o' h hl ho hc' => ⟨h.1, (World.putObj_heap_other (by omega)).trans h.2.1, off_below h.2.2 (below_put V o' hl)⟩)
    (fun j V l o o' h hl ho hc' => ⟨(World.putObj_heap_other (by omega)).trans h.1, off_below h.2 (below_put V o' hl)⟩)
    (fun cd V l o o' h hl ho hc' => h)
    (fun _ _ _ _ _ => trivial) (fun _ _ _ _ _ _ _ => trivial)
    (fun o => ⟨(Below.heap_alloc _ _ _ (by simp; omega)).trans ((Below.heap_alloc _ _ _ (by omega)).trans p2), Off.of_below (((Below.refl w3.heap.size w3).alloc (Nat.le_refl _) _).alloc (by simp) _)⟩) ?a1 ?assign ?body ?iter ?done ?stop
  case assign =>
    intro l x' V K' hK'
    gi_wp2
    exact hK'
  case body =>
    rintro l j x' V hl ⟨rfl, hI, hO⟩ hj
    have e0 := hI.cell
    have e1 := hI.frozen
    have hj5 : (x' : Int) < 5 := by omega
    obtain ⟨V1, hV1⟩ : ∃ V1, V.setCell ⟨w.heap.size + 1 + 1, 0, none⟩ (.int .i64 ((x' : Int) + 1)) = V1 := ⟨_, rfl⟩
    have HV1 := Lib.hid hV1
    have hI1 : Boxed V1 (w.heap.size + 1 + 1) 3 (.int .i64 ((x' : Int) + 1)) := by rw [← hV1]; exact hI.set _
    have hO1 : Off (fun q => q = w.heap.size + 1 + 1) w3 V1 := by rw [← hV1]; exact hO.setCell (p := ⟨w.heap.size + 1 + 1, 0, none⟩) rfl _
    have hKF : KeepsFrom w3.heap.size V V1 := by rw [← hV1]; exact (KeepsOthers.setCell _ _ _).from _
    have KW := Lib.hid (kind_any (wd ((x' : Int) + 1)))
    rw [kd_wd hj] at KW
    have RW := Lib.hid (rword_any ((x' : Int) + 1))
    obtain ⟨y, hy⟩ : ∃ y, wd ((x' : Int) + 1) = y := ⟨_, rfl⟩
    rw [hy] at KW RW ⊢
    clear hV1 hI hO hy
    gi_wp2_with fail
    rw [HV1.out]
    refine ⟨trivial, ((callsIn_wide.2 (RW.out V1)).inRound l).mono ?_⟩
    rintro e V2 ⟨rfl, hb2⟩
    have hI2 : Boxed V2 (w.heap.size + 1 + 1) 3 (.int .i64 ((x' : Int) + 1)) := (hb2.block _ hI1.lt).trans hI1
    have HO2 := Lib.hid (off_below hO1 (hb2.mono hO1.size))
    have HK2 := Lib.hid (hKF.trans (KeepsFrom.of_below hb2))
    clear hb2 hI1 hO1 hKF e0 e1 RW HV1
    gi_wp2_with fail
    refine ⟨trivial, ((callsIn_wide.2 (KW.out V2)).inRound l).mono ?_⟩
    rintro e V3 ⟨rfl, hb3'⟩
    have HI3 := Lib.hid ((hb3'.block _ hI2.lt).trans hI2)
    have HO3 := Lib.hid (off_below HO2.out (hb3'.mono HO2.out.size))
    have HK3 := Lib.hid (HK2.out.trans (KeepsFrom.of_below hb3'))
    clear hb3' hI2 HO2 HK2 KW
    gi_wp2
    exact ⟨HK3.out, ⟨HI3.out, HO3.out⟩, trivial⟩
  case iter =>
    intro Bk X l V hBk hBlt hX hl hD hB hY
    exact kinds_in 8 (by omega) 7 l (fun j V => (Boxed V (w.heap.size + 1 + 1) 3 (.int .i64 (j : Int)) ∧ Off (fun q => q = w.heap.size + 1 + 1) w3 V) ∧ Bk V) X
      (fun j W h hj => (hY j j W ⟨rfl, h.1⟩ h.2 hj).mono (fun e W2 h => h.elim (fun h => .inl ⟨h.1, h.2.1⟩) (fun h => .inr ⟨h.1, h.2.1⟩)))
      V ⟨hD, hB⟩
  case done =>
    rintro D V hD ⟨hI, hO⟩ hK
    have hV3 := hO.size
    have hDl := (Array.getElem?_eq_some_iff.1 hK).1
    obtain ⟨w5, hw5⟩ : ∃ w5, V.alloc (.cells #[.int .i64 0] 3) = w5 := ⟨_, rfl⟩
    have hs5 : w5.heap.size = V.heap.size + 1 := by rw [← hw5]; simp
    have hb5 : Below V.heap.size V w5 := by rw [← hw5]; exact (Below.refl _ _).alloc (Nat.le_refl _) _
    have pn : Boxed w5 V.heap.size 3 (.int .i64 0) := by rw [← hw5]; exact World.alloc_heap_new _ _
    have b0 : Boxed w5 w.heap.size 3 (.int .i64 stop) := (hb5.block _ (by omega)).trans ((hO.block _ (by omega) (by omega)).trans p0)
    have b1 : Boxed w5 (w.heap.size + 1) 4 (.bool false) := (hb5.block _ (by omega)).trans ((hO.block _ (by omega) (by omega)).trans p1)
    have b2 : Boxed w5 (w.heap.size + 1 + 1) 3 (.int .i64 5) := (hb5.block _ (by omega)).trans hI
    have hK5 : w5.heap[D]? = some (.deferred (some [])) := (hb5.block _ hDl).trans hK
    have HW5 := Lib.hid hw5
    have hB5 : Below w.heap.size w w5 := hb3.trans ((hO.below (B := w.heap.size) (fun k hk => by omega) (by omega)).trans (hb5.mono (by omega)))
    obtain ⟨Bn, hBn⟩ : ∃ Bn, V.heap.size = Bn := ⟨_, rfl⟩
    have HBn := Lib.hid hBn
    rw [hBn] at hV3 hDl hs5 pn
    clear hw5 hI hO hK hb5 p0 p1 p2 hBn
    gi_wp2_with fail
    refine ⟨trivial, ?_⟩
    rw [HW5.out]
    refine (callsIn_wide.2 (kinds_any w5)).mono ?_
    rintro e w6 ⟨rfl, rfl⟩
    rw [HBn.out]
    clear HW5 HBn
    gi_wp2_with fail
    refine range_stops rfl (by omega) (gf := 21) (lb := #[]) rfl trivial (enters_of Try.func21 (by kernel_rfl) rfl)
      (fun j : Nat => #[.int .i64 ((j : Int) + 1), .string (wd ((j : Int) + 1))]) (fun _ => rfl)
      (fun j x' U => x' = j ∧ Boxed U Bn 3 (.int .i64 (j : Int)) ∧ (∀ i : Nat, i < j → (i : Int) ≠ stop) ∧ Off (fun q => q = Bn) w5 U)
      (fun j U => Boxed U Bn 3 (.int .i64 (j : Int)) ∧ (∀ i : Nat, i < j → (i : Int) ≠ stop) ∧ Off (fun q => q = Bn) w5 U)
      (fun cd U => cd = .exit 2 ∧ 0 ≤ stop ∧ stop < 5 ∧ Boxed U Bn 3 (.int .i64 (stop + 1)) ∧ Off (fun q => q = Bn) w5 U) (fun _ _ => True) 5
      (fun j x' U l o o' h hl ho hc' => ⟨h.1, (World.putObj_heap_other (by omega)).trans h.2.1, h.2.2.1, off_below h.2.2.2 (below_put U o' hl)⟩)
      (fun j U l o o' h hl ho hc' => ⟨(World.putObj_heap_other (by omega)).trans h.1, h.2.1, off_below h.2.2 (below_put U o' hl)⟩)
      (fun cd U l o o' h hl ho hc' => ⟨h.1, h.2.1, h.2.2.1, (World.putObj_heap_other (by omega)).trans h.2.2.2.1, off_below h.2.2.2.2 (below_put U o' hl)⟩)
      (fun _ _ _ _ _ => trivial) (fun _ _ _ _ _ _ _ => trivial)
      (fun o => ⟨(Below.heap_alloc _ _ _ (by simp; omega)).trans ((Below.heap_alloc _ _ _ (by omega)).trans pn), fun i hi => by omega, Off.of_below (((Below.refl w5.heap.size w5).alloc (Nat.le_refl _) _).alloc (by simp) _)⟩) ?a2 ?assign2 ?body2 ?iter2 ?done2 ?stop2
    case assign2 =>
      intro l x' V K' hK'
      gi_wp2
      exact hK'
    case body2 =>
      rintro l j x' U hl ⟨rfl, hI, hn, hO⟩ hj
      have e0 := hI.cell
      have e1 := hI.frozen
      have hj5 : (x' : Int) < 5 := by omega
      have b0U := (show Boxed U w.heap.size 3 (.int .i64 stop) from (hO.block _ (by omega) (by omega)).trans b0)
      have e2 := b0U.cell
      have HS := Lib.hid (show _ ∧ _ ∧ _ from ⟨((KeepsOthers.setCell U ⟨Bn, 0, none⟩ (.int .i64 ((x' : Int) + 1))).from w5.heap.size : KeepsFrom w5.heap.size U _), hI.set (.int .i64 ((x' : Int) + 1)), hO.setCell (p := ⟨Bn, 0, none⟩) rfl (.int .i64 ((x' : Int) + 1))⟩)
      have hne : w.heap.size ≠ Bn := by omega
      by_cases h : (x' : Int) = stop
      · have HH := Lib.hid h
        have h2 : ((x' : Int) == stop) = true := by simpa using h
        clear hn hI hO b0U h
        gi_wp2
        refine ⟨HS.out.1, rfl, by have := HH.out; omega, by have := HH.out; omega, ?_, HS.out.2.2⟩
        rw [← HH.out]
        exact HS.out.2.1
      · have h2 : ((x' : Int) == stop) = false := by simpa using h
        have HN := Lib.hid (show ∀ i : Nat, i < x' + 1 → (i : Int) ≠ stop from fun i hi => by
          rcases Nat.lt_or_ge i x' with h1 | h1
          · exact hn i h1
          · obtain rfl : i = x' := by omega
            exact h)
        clear hn hI hO b0U h
        gi_wp2
        exact ⟨HS.out.1, ⟨HS.out.2.1, HN.out, HS.out.2.2⟩, trivial⟩
    case iter2 =>
      intro Bk X l V hBk hBlt hX hl hD hB hY
      exact kinds_in 8 (by omega) 7 l (fun j U => (Boxed U Bn 3 (.int .i64 (j : Int)) ∧ (∀ i : Nat, i < j → (i : Int) ≠ stop) ∧ Off (fun q => q = Bn) w5 U) ∧ Bk U) X
        (fun j W h hj => (hY j j W ⟨rfl, h.1⟩ h.2 hj).mono (fun e W2 h => h.elim (fun h => .inl ⟨h.1, h.2.1⟩) (fun h => .inr ⟨h.1, h.2.1⟩)))
        V ⟨hD, hB⟩
    case done2 =>
      rintro D2 U hD2 ⟨hI, hn, hO⟩ hK
      obtain ⟨M, hM⟩ : ∃ M : Int, M = 5 := ⟨_, rfl⟩
      rw [show ((5 : Nat) : Int) = M from hM.symm] at hI
      have hst : stop < 0 ∨ (0 ≤ stop ∧ 5 ≤ stop) := by
        have h0 := hn 0 (by omega); have h1 := hn 1 (by omega); have h2 := hn 2 (by omega); have h3 := hn 3 (by omega); have h4 := hn 4 (by omega)
        omega
      clear hn
      subst hM
      rcases hst with hst | ⟨hst, hst2⟩
      all_goals
        have b0U := (show Boxed U w.heap.size 3 (.int .i64 stop) from (hO.block _ (by omega) (by omega)).trans b0)
        have b1U := (show Boxed U (w.heap.size + 1) 4 (.bool false) from (hO.block _ (by omega) (by omega)).trans b1)
        have b2U := (show Boxed U (w.heap.size + 1 + 1) 3 (.int .i64 5) from (hO.block _ (by omega) (by omega)).trans b2)
        have hK1 := (hO.block _ (by omega) (by omega)).trans hK5
        have hBU := hB5.trans (hO.below (B := w.heap.size) (fun k hk => by omega) (by omega))
        have hUs := hO.size
        have c0 := b0U.cell
        have KX := Lib.hid (kind_any x U)
        have HB0 := Lib.hid hBU
        have HBx := Lib.hid (And.intro b1U (And.intro b2U (And.intro hI (And.intro hK hK1))))
        clear hO b0U b1U b2U hI hK hK1 hBU b0 b1 b2 hK5 hB5 pn hb3
        gi_wp2_with fail
        refine ⟨trivial, (callsIn_wide.2 KX.out).mono ?_⟩
        rintro e U2 ⟨rfl, hb2⟩
        have HB2 := Lib.hid (HB0.out.trans (hb2.mono HB0.out.size))
        obtain ⟨y1, y2, y3, y4, y5⟩ := HBx.out
        have hlt := And.intro y1.lt (And.intro y2.lt (And.intro y3.lt (And.intro (Array.getElem?_eq_some_iff.1 y4).1 (Array.getElem?_eq_some_iff.1 y5).1)))
        have HY := Lib.hid (And.intro ((hb2.block _ y1.lt).trans y1) (And.intro ((hb2.block _ y2.lt).trans y2) (And.intro ((hb2.block _ y3.lt).trans y3) (And.intro ((hb2.block _ (Array.getElem?_eq_some_iff.1 y4).1).trans y4) ((hb2.block _ (Array.getElem?_eq_some_iff.1 y5).1).trans y5)))))
        clear hb2 y1 y2 y3 y4 y5 c0 HBx HB0 KX hlt
        rcases kd_cases x with ⟨hk0, hne1, hne2, hne3, hne4, hne5⟩ | ⟨hk1, hk5, hkw⟩
        · rw [hk0]
          have z1 := str_ne hne1; have z2 := str_ne hne2; have z3 := str_ne hne3; have z4 := str_ne hne4; have z5 := str_ne hne5
          have u1 := z1; have u2 := z2; have u3 := z3; have u4 := z4; have u5 := z5
          simp only [str_lit1, str_lit2, str_lit3, str_lit4, str_lit5] at u1 u2 u3 u4 u5
          clear hk0 hne1 hne2 hne3 hne4 hne5
          gi_wp2_with fail
          refine ⟨trivial, (callsIn_wide.2 (flknown_any U2)).mono ?_⟩
          rintro e U3 ⟨rfl, hb3⟩
          obtain ⟨y1, y2, y3, y4, y5⟩ := HY.out
          have v1 : Boxed U3 (w.heap.size + 1) 4 (.bool false) := (hb3.block _ (Boxed.lt y1)).trans y1
          have v2 : Boxed U3 (w.heap.size + 1 + 1) 3 (.int .i64 5) := (hb3.block _ (Boxed.lt y2)).trans y2
          have v3 : Boxed U3 Bn 3 (.int .i64 5) := (hb3.block _ (Boxed.lt y3)).trans y3
          have v4 := (hb3.block _ (Array.getElem?_eq_some_iff.1 y4).1).trans y4
          have v5 := (hb3.block _ (Array.getElem?_eq_some_iff.1 y5).1).trans y5
          have HB3 := Lib.hid (HB2.out.trans (hb3.mono HB2.out.size))
          have HL := Lib.hid (v1.set (.bool true))
          have a1 := v1.cell; have f1 := v1.frozen; have a2 := v2.cell; have a3 := v3.cell
          have HD4 := Lib.hid v4; have HD5 := Lib.hid v5
          clear hb3 y1 y2 y3 y4 y5 v1 v2 v3 v4 v5 HY
          gi_wp2
          refine ⟨trivial, ?_⟩
          gi_wp2
          have hX2 := (Below.heap_setCell U3 ⟨w.heap.size + 1, 0, none⟩ (.bool true) D2 (by show _ ≠ w.heap.size + 1; omega)).trans HD4.out
          have hX1 := (Below.heap_setCell U3 ⟨w.heap.size + 1, 0, none⟩ (.bool true) D (by show _ ≠ w.heap.size + 1; omega)).trans HD5.out
          have hXB := HB3.out.setCell (p := ⟨w.heap.size + 1, 0, none⟩) (Nat.le_succ _) (.bool true)
          have hXL := HL.out
          generalize World.setCell U3 ⟨w.heap.size + 1, 0, none⟩ (.bool true) = X at *
          have hYL : Boxed ((X.putObj D2 (.deferred none)).putObj D (.deferred none)) (w.heap.size + 1) 4 (.bool true) := (World.putObj_heap_other (by omega)).trans ((World.putObj_heap_other (by omega)).trans hXL)
          have kR := hYL.cell
          refine ⟨by simp, .inl ⟨_, _, rfl, run_takeDeferred hX2, ?_⟩⟩
          refine ⟨by simp, .inl ⟨_, _, rfl, run_takeDeferred ((World.putObj_heap_other (by omega)).trans hX1), ?_⟩⟩
          refine ⟨.bool true, ?_, rfl, (hXB.trans (below_put _ _ (by omega))).trans (below_put _ _ (by omega))⟩
          simp [results, Try.f4, go_sem, kR]
        · obtain ⟨kx, hkx⟩ : ∃ kx, kd x = kx := ⟨_, rfl⟩
          rw [hkx] at hk1 hk5 hkw ⊢
          have RW := Lib.hid (rword_any kx)
          rw [hkw] at RW
          have n0 : (kx == 0) = false := by simp; omega
          have n1 : (kx != 0) = true := by simp; omega
          clear hkx hkw
          gi_wp2_with fail
          refine ⟨trivial, (callsIn_wide.2 (flknown_any U2)).mono ?_⟩
          rintro e U3 ⟨rfl, hb3⟩
          obtain ⟨y1, y2, y3, y4, y5⟩ := HY.out
          have v1 : Boxed U3 (w.heap.size + 1) 4 (.bool false) := (hb3.block _ (Boxed.lt y1)).trans y1
          have v2 : Boxed U3 (w.heap.size + 1 + 1) 3 (.int .i64 5) := (hb3.block _ (Boxed.lt y2)).trans y2
          have v3 : Boxed U3 Bn 3 (.int .i64 5) := (hb3.block _ (Boxed.lt y3)).trans y3
          have v4 := (hb3.block _ (Array.getElem?_eq_some_iff.1 y4).1).trans y4
          have v5 := (hb3.block _ (Array.getElem?_eq_some_iff.1 y5).1).trans y5
          have HB3 := Lib.hid (HB2.out.trans (hb3.mono HB2.out.size))
          have HV := Lib.hid (And.intro v1 (And.intro v4 v5))
          have a2 := v2.cell; have a3 := v3.cell
          clear hb3 y1 y2 y3 y4 y5 v1 v2 v3 v4 v5 HY
          gi_wp2_with fail
          refine ⟨trivial, (callsIn_wide.2 (RW.out U3)).mono ?_⟩
          rintro e U4 ⟨rfl, hb4⟩
          obtain ⟨y1, y4, y5⟩ := HV.out
          have v1 : Boxed U4 (w.heap.size + 1) 4 (.bool false) := (hb4.block _ (Boxed.lt y1)).trans y1
          have v4 := (hb4.block _ (Array.getElem?_eq_some_iff.1 y4).1).trans y4
          have v5 := (hb4.block _ (Array.getElem?_eq_some_iff.1 y5).1).trans y5
          have HB4 := Lib.hid (HB3.out.trans (hb4.mono HB3.out.size))
          clear hb4 y1 y4 y5 HV a2 a3
          have HL := Lib.hid (v1.set (.bool true))
          have a1 := v1.cell; have f1 := v1.frozen
          have HD4 := Lib.hid v4; have HD5 := Lib.hid v5
          clear v1 v4 v5
          gi_wp2
          have hX2 := (Below.heap_setCell U4 ⟨w.heap.size + 1, 0, none⟩ (.bool true) D2 (by show _ ≠ w.heap.size + 1; omega)).trans HD4.out
          have hX1 := (Below.heap_setCell U4 ⟨w.heap.size + 1, 0, none⟩ (.bool true) D (by show _ ≠ w.heap.size + 1; omega)).trans HD5.out
          have hXB := HB4.out.setCell (p := ⟨w.heap.size + 1, 0, none⟩) (Nat.le_succ _) (.bool true)
          have hXL := HL.out
          generalize World.setCell U4 ⟨w.heap.size + 1, 0, none⟩ (.bool true) = X at *
          have hYL : Boxed ((X.putObj D2 (.deferred none)).putObj D (.deferred none)) (w.heap.size + 1) 4 (.bool true) := (World.putObj_heap_other (by omega)).trans ((World.putObj_heap_other (by omega)).trans hXL)
          have kR := hYL.cell
          refine ⟨by simp, .inl ⟨_, _, rfl, run_takeDeferred hX2, ?_⟩⟩
          refine ⟨by simp, .inl ⟨_, _, rfl, run_takeDeferred ((World.putObj_heap_other (by omega)).trans hX1), ?_⟩⟩
          refine ⟨.bool true, ?_, rfl, (hXB.trans (below_put _ _ (by omega))).trans (below_put _ _ (by omega))⟩
          simp [results, Try.f4, go_sem, kR]
    case stop2 =>
      rintro D2 cd U hD2 ⟨rfl, hst, hst2, hI, hO⟩ hK
      have b0U := (show Boxed U w.heap.size 3 (.int .i64 stop) from (hO.block _ (by omega) (by omega)).trans b0)
      have b1U := (show Boxed U (w.heap.size + 1) 4 (.bool false) from (hO.block _ (by omega) (by omega)).trans b1)
      have b2U := (show Boxed U (w.heap.size + 1 + 1) 3 (.int .i64 5) from (hO.block _ (by omega) (by omega)).trans b2)
      have hK1 := (hO.block _ (by omega) (by omega)).trans hK5
      have hBU := hB5.trans (hO.below (B := w.heap.size) (fun k hk => by omega) (by omega))
      have hUs := hO.size
      have c0 := b0U.cell
      have KX := Lib.hid (kind_any x U)
      have HB0 := Lib.hid hBU
      have HBx := Lib.hid (And.intro b1U (And.intro b2U (And.intro hI (And.intro hK hK1))))
      clear hO b0U b1U b2U hI hK hK1 hBU b0 b1 b2 hK5 hB5 pn hb3
      gi_wp2_with fail
      refine ⟨trivial, (callsIn_wide.2 KX.out).mono ?_⟩
      rintro e U2 ⟨rfl, hb2⟩
      have HB2 := Lib.hid (HB0.out.trans (hb2.mono HB0.out.size))
      obtain ⟨y1, y2, y3, y4, y5⟩ := HBx.out
      have hlt := And.intro y1.lt (And.intro y2.lt (And.intro y3.lt (And.intro (Array.getElem?_eq_some_iff.1 y4).1 (Array.getElem?_eq_some_iff.1 y5).1)))
      have HY := Lib.hid (And.intro ((hb2.block _ y1.lt).trans y1) (And.intro ((hb2.block _ y2.lt).trans y2) (And.intro ((hb2.block _ y3.lt).trans y3) (And.intro ((hb2.block _ (Array.getElem?_eq_some_iff.1 y4).1).trans y4) ((hb2.block _ (Array.getElem?_eq_some_iff.1 y5).1).trans y5)))))
      clear hb2 y1 y2 y3 y4 y5 c0 HBx HB0 KX hlt
      rcases kd_cases x with ⟨hk0, hne1, hne2, hne3, hne4, hne5⟩ | ⟨hk1, hk5, hkw⟩
      · rw [hk0]
        have z1 := str_ne hne1; have z2 := str_ne hne2; have z3 := str_ne hne3; have z4 := str_ne hne4; have z5 := str_ne hne5
        have u1 := z1; have u2 := z2; have u3 := z3; have u4 := z4; have u5 := z5
        simp only [str_lit1, str_lit2, str_lit3, str_lit4, str_lit5] at u1 u2 u3 u4 u5
        clear hk0 hne1 hne2 hne3 hne4 hne5
        gi_wp2_with fail
        refine ⟨trivial, (callsIn_wide.2 (flknown_any U2)).mono ?_⟩
        rintro e U3 ⟨rfl, hb3⟩
        obtain ⟨y1, y2, y3, y4, y5⟩ := HY.out
        have v1 : Boxed U3 (w.heap.size + 1) 4 (.bool false) := (hb3.block _ (Boxed.lt y1)).trans y1
        have v2 : Boxed U3 (w.heap.size + 1 + 1) 3 (.int .i64 5) := (hb3.block _ (Boxed.lt y2)).trans y2
        have v3 : Boxed U3 Bn 3 (.int .i64 (stop + 1)) := (hb3.block _ (Boxed.lt y3)).trans y3
        have v4 := (hb3.block _ (Array.getElem?_eq_some_iff.1 y4).1).trans y4
        have v5 := (hb3.block _ (Array.getElem?_eq_some_iff.1 y5).1).trans y5
        have HB3 := Lib.hid (HB2.out.trans (hb3.mono HB2.out.size))
        have HL := Lib.hid (v1.set (.bool true))
        have a1 := v1.cell; have f1 := v1.frozen; have a2 := v2.cell; have a3 := v3.cell
        have HD4 := Lib.hid v4; have HD5 := Lib.hid v5
        clear hb3 y1 y2 y3 y4 y5 v1 v2 v3 v4 v5 HY
        gi_wp2
        refine ⟨trivial, ?_⟩
        gi_wp2
        have hX2 := (Below.heap_setCell U3 ⟨w.heap.size + 1, 0, none⟩ (.bool true) D2 (by show _ ≠ w.heap.size + 1; omega)).trans HD4.out
        have hX1 := (Below.heap_setCell U3 ⟨w.heap.size + 1, 0, none⟩ (.bool true) D (by show _ ≠ w.heap.size + 1; omega)).trans HD5.out
        have hXB := HB3.out.setCell (p := ⟨w.heap.size + 1, 0, none⟩) (Nat.le_succ _) (.bool true)
        have hXL := HL.out
        generalize World.setCell U3 ⟨w.heap.size + 1, 0, none⟩ (.bool true) = X at *
        have hYL : Boxed ((X.putObj D2 (.deferred none)).putObj D (.deferred none)) (w.heap.size + 1) 4 (.bool true) := (World.putObj_heap_other (by omega)).trans ((World.putObj_heap_other (by omega)).trans hXL)
        have kR := hYL.cell
        refine ⟨by simp, .inl ⟨_, _, rfl, run_takeDeferred hX2, ?_⟩⟩
        refine ⟨by simp, .inl ⟨_, _, rfl, run_takeDeferred ((World.putObj_heap_other (by omega)).trans hX1), ?_⟩⟩
        refine ⟨.bool true, ?_, rfl, (hXB.trans (below_put _ _ (by omega))).trans (below_put _ _ (by omega))⟩
        simp [results, Try.f4, go_sem, kR]
      · obtain ⟨kx, hkx⟩ : ∃ kx, kd x = kx := ⟨_, rfl⟩
        rw [hkx] at hk1 hk5 hkw ⊢
        have RW := Lib.hid (rword_any kx)
        rw [hkw] at RW
        have n0 : (kx == 0) = false := by simp; omega
        have n1 : (kx != 0) = true := by simp; omega
        clear hkx hkw
        gi_wp2_with fail
        refine ⟨trivial, (callsIn_wide.2 (flknown_any U2)).mono ?_⟩
        rintro e U3 ⟨rfl, hb3⟩
        obtain ⟨y1, y2, y3, y4, y5⟩ := HY.out
        have v1 : Boxed U3 (w.heap.size + 1) 4 (.bool false) := (hb3.block _ (Boxed.lt y1)).trans y1
        have v2 : Boxed U3 (w.heap.size + 1 + 1) 3 (.int .i64 5) := (hb3.block _ (Boxed.lt y2)).trans y2
        have v3 : Boxed U3 Bn 3 (.int .i64 (stop + 1)) := (hb3.block _ (Boxed.lt y3)).trans y3
        have v4 := (hb3.block _ (Array.getElem?_eq_some_iff.1 y4).1).trans y4
        have v5 := (hb3.block _ (Array.getElem?_eq_some_iff.1 y5).1).trans y5
        have HB3 := Lib.hid (HB2.out.trans (hb3.mono HB2.out.size))
        have HV := Lib.hid (And.intro v1 (And.intro v4 v5))
        have a2 := v2.cell; have a3 := v3.cell
        clear hb3 y1 y2 y3 y4 y5 v1 v2 v3 v4 v5 HY
        gi_wp2_with fail
        refine ⟨trivial, (callsIn_wide.2 (RW.out U3)).mono ?_⟩
        rintro e U4 ⟨rfl, hb4⟩
        obtain ⟨y1, y4, y5⟩ := HV.out
        have v1 : Boxed U4 (w.heap.size + 1) 4 (.bool false) := (hb4.block _ (Boxed.lt y1)).trans y1
        have v4 := (hb4.block _ (Array.getElem?_eq_some_iff.1 y4).1).trans y4
        have v5 := (hb4.block _ (Array.getElem?_eq_some_iff.1 y5).1).trans y5
        have HB4 := Lib.hid (HB3.out.trans (hb4.mono HB3.out.size))
        clear hb4 y1 y4 y5 HV a2 a3
        have HL := Lib.hid (v1.set (.bool true))
        have a1 := v1.cell; have f1 := v1.frozen
        have HD4 := Lib.hid v4; have HD5 := Lib.hid v5
        clear v1 v4 v5
        gi_wp2
        have hX2 := (Below.heap_setCell U4 ⟨w.heap.size + 1, 0, none⟩ (.bool true) D2 (by show _ ≠ w.heap.size + 1; omega)).trans HD4.out
        have hX1 := (Below.heap_setCell U4 ⟨w.heap.size + 1, 0, none⟩ (.bool true) D (by show _ ≠ w.heap.size + 1; omega)).trans HD5.out
        have hXB := HB4.out.setCell (p := ⟨w.heap.size + 1, 0, none⟩) (Nat.le_succ _) (.bool true)
        have hXL := HL.out
        generalize World.setCell U4 ⟨w.heap.size + 1, 0, none⟩ (.bool true) = X at *
        have hYL : Boxed ((X.putObj D2 (.deferred none)).putObj D (.deferred none)) (w.heap.size + 1) 4 (.bool true) := (World.putObj_heap_other (by omega)).trans ((World.putObj_heap_other (by omega)).trans hXL)
        have kR := hYL.cell
        refine ⟨by simp, .inl ⟨_, _, rfl, run_takeDeferred hX2, ?_⟩⟩
        refine ⟨by simp, .inl ⟨_, _, rfl, run_takeDeferred ((World.putObj_heap_other (by omega)).trans hX1), ?_⟩⟩
        refine ⟨.bool true, ?_, rfl, (hXB.trans (below_put _ _ (by omega))).trans (below_put _ _ (by omega))⟩
        simp [results, Try.f4, go_sem, kR]
  case stop => exact fun _ _ _ _ h => h.elim
theorem walk_fkinds (a0 : ByteArray) (a1 : Int) (_w0 : a0.size ≤ maxLen) (w1 : (Lit.int .i64 a1).wf = true) (w : World) :
    Calls Try.prog 4 #[.string a0, .int .i64 a1] w fun e w' => e = .returned (.bool true) ∧ Below w.heap.size w w' := kinds_go a0 a1 (bounds_i64 w1).1 (bounds_i64 w1).2 w
end Go.Proofs.Ytnnpbakgjcjbaaa
