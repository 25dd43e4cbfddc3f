/-
  The walk of the law WindowOnce: it returns true.
-/
import Derived.Test.YtklkfajbfpihfaaWinK
namespace Go.Proofs.Ytklkfajbfpihfaa
open Go.RowKit
set_option maxRecDepth 100000

theorem wu32Info : (Try.prog.info? 22).map (fun i => (i.zero, i.size, i.bytes)) = some (some (.int .u32 0), 1, 4) := by kernel_rfl
theorem own_off {w w' : World} {lo e n : Nat} {v : Value} {xs : List Value} {S : Nat → Prop} (h : w.ownsRow lo e 1 v n xs) (hf : Off S w w') (hS : ∀ k, S k → k < lo) : w'.ownsRow lo e 1 v n xs := by
  refine ⟨h.1, ?_⟩
  rcases h.2 with h3 | ⟨g, cap, cur, rfl, hg, hh, r⟩
  · exact .inl h3
  · exact .inr ⟨g, cap, cur, rfl, hg, (hf.block g (Array.getElem?_eq_some_iff.1 hh).1 (fun hs => by have := hS g hs; omega)).trans hh, r⟩
theorem own_len {w : World} {lo e : Nat} {v : Value} {L : List Int} (h : w.ownsRow lo e 1 v L.length (L.map (Value.int .u32))) : ∃ A c, v = .slice A L.length c ∧ L.length ≤ c ∧ Nums .u32 w w.heap.size A L := by
  rcases h.2 with ⟨rfl, h0⟩ | ⟨g, cap, cur, rfl, hg, hh, hn, _⟩
  · have : L = [] := List.eq_nil_of_length_eq_zero h0
    subst this
    exact ⟨none, 0, rfl, by simp, Nums.nil⟩
  · exact ⟨some ⟨g, 0, none⟩, cap, rfl, hn, Nums.of_own h⟩
theorem nums_off {k : IntKind} {w w' : World} {B b : Nat} {a : Option Addr} {zs : List Int} (h : Nums k w B a zs) (hf : Off (fun k => k = b) w w') (hb : B ≤ b) (hB : B ≤ w.heap.size) : Nums k w' B a zs :=
  h.kept fun p hp => World.cell?_of_block (hf.block p.block (by omega) (by omega))
/-- a row above w has grown -/
theorem off_grown {w wr w2 : World} {o : Obj} {S : Nat → Prop} {own : Option Nat} (h : Off S w wr) (hg : (wr.alloc o).grownBy w2 own) (ho : ∀ g, own = some g → w.heap.size ≤ g) : Off S w w2 := by
  have h1 := hg.size
  have h2 := h.size
  rw [World.size_alloc] at h1
  refine ⟨hg.os.trans h.os, hg.tape.trans h.tape, hg.output.trans h.output, by omega, fun k hk hn => ?_⟩
  exact ((hg.block k (by rw [World.size_alloc]; omega) (fun e => by have := ho k e.symm; omega)).trans (Below.heap_alloc _ _ _ (by omega))).trans (h.block k hk hn)
theorem win_grown {wr w2 : World} {o : Obj} {b : Nat} {t : Int} {q : Nat} {own : Option Nat} (h : WinAt wr b t q) (hg : (wr.alloc o).grownBy w2 own) (ho : own ≠ some b) : WinAt w2 b t q :=
  ((hg.block b (by rw [World.size_alloc]; have := h.size; omega) (fun e => ho e.symm)).trans (Below.heap_alloc _ _ _ h.size)).trans h
theorem own_ge {w : World} {lo e n : Nat} {v : Value} {xs : List Value} (h : w.ownsRow lo e 1 v n xs) {g : Nat} (hg : v.ownBlock = some g) : lo ≤ g := by
  rcases h.2 with ⟨rfl, _⟩ | ⟨g', cap, cur, rfl, hg', _⟩
  · simp [Value.ownBlock] at hg
  · simp [Value.ownBlock] at hg; subst hg; exact hg'
/-- what holds of the law's window and of the numbers that came, by their places Ps -/
structure OnceAt (s : Int) (w1 wr : World) (B : Nat) (Ps : List Int) (v : Value) (P t : Int) (q : Nat) : Prop where
  inv : Wn.Inv s P (fun x => x < 0 ∨ x ∈ Ps) t q
  rng : ∀ p ∈ Ps, -100 ≤ p ∧ p < 65436
  win : WinAt wr B t q
  own : wr.ownsRow w1.heap.size 22 1 v (Ps.map (Sr.add s)).length ((Ps.map (Sr.add s)).map (Value.int .u32))
  off : Off (fun k => k = B) w1 wr
theorem OnceAt.inj {s : Int} {w1 wr : World} {B : Nat} {Ps : List Int} {v : Value} {P t : Int} {q : Nat} (h : OnceAt s w1 wr B Ps v P t q) {p : Int} (hp : -100 ≤ p ∧ p < 65436) (hm : Sr.add s p ∈ Ps.map (Sr.add s)) : p ∈ Ps := by
  obtain ⟨p', h1, h2⟩ := List.mem_map.1 hm
  have := h.rng p' h1
  unfold Sr.add at h2
  have : p' = p := by omega
  rw [← this]; exact h1

set_option maxHeartbeats 4000000 in
theorem once_go (s : Int) (hs : 0 ≤ s ∧ s < 4294967296) (a : Option Addr) (n m c : Nat) (es : List Int) (w : World) (hn : es.length = n) (_hc : n ≤ c) (hl : n ≤ 9223372036854775807) (hz : ∀ z ∈ es, 0 ≤ z ∧ z < 65536) (h1 : Nums .u16 w w.heap.size a es)
    (hm : m = min n 200) :
    Calls Try.prog 4 #[.int .u32 s, .slice a n c] w fun e w' => e = .returned (.bool true) ∧ Below w.heap.size w w' := by
  obtain ⟨j0, hj, hj0, hj1, hj2⟩ := info_parts wu32Info
  have HN := Lib.hid hn
  have HZ := Lib.hid hz
  clear hn hz
  have hmn : m ≤ n := by omega
  have hm6 : m ≤ 200 := by omega
  have HM := Lib.hid hm
  clear hm
  go_enter Try.func4, Try.ntmps4
  go_wp2_with fail
  refine (wnew_any s hs w).mono ?_
  rintro e w1 ⟨rfl, hA1, hb1, hs1⟩
  obtain ⟨B, hB⟩ : ∃ B, w.heap.size = B := ⟨_, rfl⟩
  have HB := Lib.hid hB
  have h0 : OnceAt s w1 w1 B [] (.slice none 0 0) (-1) (Sr.add s (-1)) 18446744073709551615 :=
    ⟨(Wn.Inv.start s).congr fun x => by simp, fun p hp => (by cases hp), by rw [← hB]; exact hA1, World.ownsRow_nil _ _ _ _, Off.refl _ _⟩
  have HW1 := Lib.hid hb1
  have h1' := h1.below hb1
  rw [hB] at h1' hs1 ⊢
  clear hA1 hb1 h1
  go_wp2
  clear hB
  go_loopw [6, 7] (fun v i wr => ∃ (k : Nat) (Ps : List Int) (P t : Int) (q : Nat), k ≤ m ∧ Ps.length ≤ k ∧ i = .int .i64 (k : Int) ∧ OnceAt s w1 wr B Ps v P t q) (fun _ i _ => m - (intOf i).toNat)
  case atStart => exact ⟨0, [], _, _, _, by omega, by simp, rfl, h0⟩
  case round =>
    obtain ⟨k, Ps, P, t, q, hkm, hPs, rfl, hO⟩ := hrel
    rcases Nat.lt_or_ge k m with h4 | h4
    · obtain ⟨z, hg⟩ : ∃ z, es[k]? = some z := ⟨_, List.getElem?_eq_getElem (by rw [HN.out]; omega)⟩
      have hzU := HZ.out z (List.mem_of_getElem? hg)
      obtain ⟨b1, o1, rfl, hb1, hc1⟩ := (nums_off h1' hO.off (Nat.le_refl _) (by omega)).open hg
      have h5 : (k : Int) < (n : Int) := by omega
      have h6 : (k : Int) < 200 := by omega
      have hO' := Lib.hid hO
      clear hO hg
      obtain ⟨N, hN⟩ : ∃ N, Sr.add s (z - 100) = N := ⟨_, rfl⟩
      have hNU : 0 ≤ N ∧ N < 4294967296 := by rw [← hN]; exact Sr.add_lt _ _
      have hN2 : ((s + z) % 4294967296 - 100) % 4294967296 = N := by rw [← hN]; unfold Sr.add; omega
      have HNN := Lib.hid hN
      have HN2 := Lib.hid hN2
      obtain ⟨L, hL⟩ : ∃ L, Ps.map (Sr.add s) = L := ⟨_, rfl⟩
      obtain ⟨A, cA, rfl, hcA, hnL⟩ := own_len hO'.out.own
      have hll : L.length = Ps.length := by rw [← hL, List.length_map]
      have HL := Lib.hid hL
      have HLL := Lib.hid hll
      rw [hL] at hcA hnL
      have hlp : L.length ≤ 200 := by omega
      obtain ⟨r, hr⟩ : ∃ r, L.length = r := ⟨_, rfl⟩
      have HRr := Lib.hid hr
      rw [hL, hr] 
      rw [hr] at hcA hlp
      clear hN hN2 hL hll hr
      go_wp2
      rw [HN2.out]
      go_loopw [9, 10] (fun h i wx => ∃ (b : Bool) (j : Nat), j ≤ r ∧ h = .bool b ∧ i = .int .i64 (j : Int) ∧ wx = wr ∧ (b = true → N ∈ L)) (fun _ i _ => r - (intOf i).toNat)
      case atStart => exact ⟨false, 0, by omega, rfl, rfl, rfl, fun h => (by cases h)⟩
      case round =>
        obtain ⟨b, j, hjr, rfl, rfl, rfl, hbL⟩ := hrel
        rcases Nat.lt_or_ge j r with h7 | h7
        · obtain ⟨x, hx⟩ : ∃ x, L[j]? = some x := ⟨_, List.getElem?_eq_getElem (by rw [HRr.out]; exact h7)⟩
          have hxm := List.mem_of_getElem? hx
          obtain ⟨b2, o2, rfl, hb2, hc2⟩ := hnL.open hx
          have h8 : (j : Int) < (r : Int) := by omega
          have h9 : (j : Int) < (cA : Int) := by omega
          cases b with
          | true =>
            have hbL' := Lib.hid hbL
            clear hbL hx hxm
            go_wp2
            go_roundw
            case rel => exact ⟨true, j + 1, by omega, rfl, by go_num, trivial, hbL'.out⟩
            case measure => simp [intOf]; omega
          | false =>
            clear hbL hx
            by_cases hxN : x = N
            · subst hxN
              have hxm' := Lib.hid hxm
              clear hxm
              go_wp2
              go_roundw
              case rel => exact ⟨true, j + 1, by omega, by simp, by go_num, trivial, fun _ => hxm'.out⟩
              case measure => simp [intOf]; omega
            · have e1 : (x == N) = false := by rw [beq_eq_false_iff_ne]; exact hxN
              clear hxm hxN
              go_wp2
              go_roundw
              case rel => exact ⟨false, j + 1, by omega, rfl, by go_num, trivial, fun h => (by cases h)⟩
              case measure => simp [intOf]; omega
        · have hjr' : j = r := by omega
          subst hjr'
          have hbL' := Lib.hid hbL
          have hin := hO'.out.inv
          have hp : -100 ≤ z - 100 ∧ z - 100 < 65436 := by omega
          have hwin := hO'.out.win
          have hown := hO'.out.own
          have hoff := hO'.out.off
          have hrng := hO'.out.rng
          have ht : 0 ≤ t ∧ t < 4294967296 := by rw [hin.top]; exact Sr.add_lt _ _
          have hq := hin.lt
          have hnew := hin.look_new (p := z - 100) (by omega)
          rw [HNN.out] at hnew
          have hcm := hin.come (p := z - 100) (by omega)
          rw [HNN.out] at hcm
          have hNin : b = true → Wn.look t q N ≠ 0 := fun h h2 => by
            have h3 := hO'.out.inj hp (by rw [HNN.out, HL.out]; exact hbL h)
            rcases hnew.1 h2 with h4 | h4
            · have := hin.le (z - 100) (.inr h3); omega
            · exact h4.2 (.inr h3)
          have hag : Wn.look t q N = 0 → Wn.look (Wn.nt t N) (Wn.nq t q N) N = 14 := Wn.look_again
          have htU := Wn.nt_lt ht hNU
          have hqU : Wn.look t q N = 0 → Wn.nq t q N < 18446744073709551616 := Wn.nq_lt hq
          have KT := wtop_any hwin
          have KB := wbits_any hwin
          have KM := wMark_any hwin N ht hNU hq
          have KT2 := Lib.hid (fun (V : World) (hV : WinAt V B t q) => wtop_any hV)
          have KB2 := Lib.hid (fun (V : World) (hV : WinAt V B t q) => wbits_any hV)
          have KL := Lib.hid (fun (V : World) (hV : WinAt V B t q) => wLook_any hV N ht hNU hq)
          have KL2 := Lib.hid (fun (h0 : Wn.look t q N = 0) (V : World) (hV : WinAt V B (Wn.nt t N) (Wn.nq t q N)) => wLook_any hV N htU hNU (hqU h0))
          generalize Wn.look (Wn.nt t N) (Wn.nq t q N) N = E2 at *
          generalize Wn.look t q N = E at *
          generalize Wn.nt t N = t' at *
          generalize Wn.nq t q N = q' at *
          have HCM := Lib.hid hcm
          have HOFF := Lib.hid hoff
          have HRNG := Lib.hid hrng
          have HIN := Lib.hid hin
          clear hin hnew hcm hO' hqU hwin hoff hrng hnL hbL
          rw [HL.out, HRr.out] at hown
          go_wp2_with fail
          refine KT.mono ?_
          rintro e V ⟨rfl, hV⟩
          rw [hV]
          clear hV
          go_wp2_with fail
          refine KB.mono ?_
          rintro e V ⟨rfl, hV⟩
          rw [hV]
          clear hV
          go_wp2_with fail
          refine KM.mono ?_
          rintro e V2 ⟨rfl, hA2, hf2⟩
          clear KT KB KM
          have hown2 := own_off hown hf2 (fun k hk => by omega)
          have hoff2 := HOFF.out.trans hf2 (fun _ _ h => h)
          by_cases hE : E = 0
          · subst hE
            have hbf : b = false := by
              cases b with
              | true => exact absurd rfl (hNin rfl)
              | false => rfl
            subst hbf
            rw [if_pos rfl, if_pos rfl] at hA2
            have hE2 := hag rfl
            subst hE2
            have K := KL2.out rfl V2 hA2
            clear KL2 KL KB2 KT2 hag hNin hbL'
            go_wp2_with fail
            refine K.mono ?_
            rintro e V3 ⟨rfl, hb3⟩
            clear K
            have hown3 := own_off (S := fun _ => False) hown2 (Off.of_below hb3) (fun k hk => hk.elim)
            have hoff3 := hoff2.trans (S' := fun _ => False) (Off.of_below hb3) (fun _ _ h => h.elim)
            have hA3 := hA2.below hb3
            have hs3 := hoff3.size
            have HO3 := Lib.hid hoff3
            have HA3 := Lib.hid hA3
            have HW3 := Lib.hid hown3
            clear hown2 hoff2 hA2 hb3 hf2 hown hoff3 hA3
            go_wp2_with (at_builtin; refine wpList_append_own _ rfl (.tmp 87) (.tmp 89) 23 rfl w1.heap.size 22 j0 (.int .u32 0) 1 4 Try.underlying23 hj hj0 hj1 hj2 rfl (by decide) _ _ _ rfl (hown3.alloc _) ⟨V3.heap.size, 0, none⟩ 1 1 [_] rfl rfl (cell_one_new _ _ _) ?_ ?_ ?_ ?_ ?_; (intro u hu; simp at hu; subst hu; rfl); (unfold maxLen; omega); omega; (simp; omega); intro v' w4 hown4 hgrow4 _)
            have hne : (Value.slice A j cA).ownBlock ≠ some B := fun e => by have := own_ge HW3.out e; omega
            have hA4 := win_grown HA3.out hgrow4 hne
            have hO4 := off_grown HO3.out hgrow4 (fun g hg => own_ge HW3.out hg)
            have hLm : (Ps ++ [z - 100]).map (Sr.add s) = L ++ [N] := by rw [List.map_append, HL.out, List.map_cons, HNN.out]; rfl
            have hON : OnceAt s w1 w4 B (Ps ++ [z - 100]) v' (max P (z - 100)) t' q' := by
              refine ⟨(HCM.out trivial).congr fun x => ?_, fun p hp => ?_, hA4, ?_, hO4⟩
              · rw [List.mem_append, List.mem_singleton]
                exact ⟨fun h => h.elim (fun h => .inl (.inl h)) (fun h => h.elim (fun h => .inl (.inr h)) .inr), fun h => h.elim (fun h => h.elim .inl (fun h => .inr (.inl h))) (fun h => .inr (.inr h))⟩
              · rcases List.mem_append.1 hp with h | h
                · exact HRNG.out p h
                · rw [List.mem_singleton] at h; omega
              · rw [hLm, List.length_append, List.map_append, HRr.out]
                exact hown4
            have hpl : (Ps ++ [z - 100]).length ≤ k + 1 := by rw [List.length_append, List.length_singleton]; omega
            clear hown4 hgrow4 hA4 hO4 hne hLm hown3
            go_roundw
            case rel => exact ⟨k + 1, _, _, _, _, by omega, hpl, by go_num, hON⟩
            case measure => simp [intOf]; omega
          · have e1 : (E == 0) = false := by rw [beq_eq_false_iff_ne]; exact hE
            have e2 : (E != 0) = true := by rw [bne_iff_ne]; exact hE
            rw [if_neg hE, if_neg hE] at hA2
            have KT := KT2.out V2 hA2
            have KB := KB2.out V2 hA2
            have KE := KL.out V2 hA2
            have hA2' := Lib.hid hA2
            have hown2' := Lib.hid hown2
            have hoff2' := Lib.hid hoff2
            clear KL2 KL KB2 KT2 hag hNin hbL' hE hA2 hown2 hoff2 hown hf2
            go_wp2_with fail
            refine KT.mono ?_
            rintro e V ⟨rfl, hV⟩
            rw [hV]
            clear hV
            go_wp2_with fail
            refine KB.mono ?_
            rintro e V ⟨rfl, hV⟩
            rw [hV]
            clear hV
            go_wp2_with fail
            refine KE.mono ?_
            rintro e V3 ⟨rfl, hb3⟩
            have hON : OnceAt s w1 V3 B Ps (.slice A j cA) P t q := by
              refine ⟨HIN.out, HRNG.out, hA2'.out.below hb3, ?_, hoff2'.out.trans (S' := fun _ => False) (Off.of_below hb3) (fun _ _ h => h.elim)⟩
              rw [HL.out, HRr.out]
              exact own_off (S := fun _ => False) hown2'.out (Off.of_below hb3) (fun k hk => hk.elim)
            clear KT KB KE hb3
            go_wp2
            go_roundw
            case rel => exact ⟨k + 1, Ps, P, t, q, by omega, by omega, by go_num, hON⟩
            case measure => simp [intOf]; omega
    · have hkm' : k = m := by omega
      have hoff := Lib.hid hO.off
      clear hO h0 hj hj0 hj1 hj2 h1' hPs
      have hB2 : Below w.heap.size w wr := HW1.out.trans (below_off hoff.out (Nat.le_of_eq HB.out) (by have := HW1.out.size; omega))
      have K := wiknown_any wr
      have HB2 := Lib.hid hB2
      clear hB2
      rcases Nat.lt_or_ge k n with h5 | h5
      case' inl =>
        have h6 : ¬ (k : Int) < 200 := by have := HM.out; omega
        have h7 : (k : Int) < (n : Int) := by omega
        go_wp2_with fail
      case' inr =>
        have h6 : ¬ (k : Int) < (n : Int) := by omega
        go_wp2_with fail
      all_goals (
        refine K.mono ?_
        rintro e V1 ⟨rfl, hb7⟩
        go_wp2
        go_ret
        exact ⟨rfl, HB2.out.trans (hb7.mono HB2.out.size)⟩)
theorem walk_wonce (a0 : Int) (a1 : Option Addr) (len1 cap1 : Nat) (z1 : List Int) (w : World) (w0 : (Lit.int .u32 a0).wf = true) (w1 : IsRow .u16 w a1 len1 cap1 z1) :
    Calls Try.prog 4 #[.int .u32 a0, .slice a1 len1 cap1] w fun e w' => e = .returned (.bool true) ∧ Below w.heap.size w w' := by
  obtain ⟨e0, l0, q0, m0, k0, r0⟩ := w1.elems
  have hb := bounds_u32 w0
  unfold maxLen at m0
  exact once_go a0 (by omega) a1 len1 (min len1 200) cap1 e0 w l0 q0 (by omega) (fun z hz => by have := bounds_u16 (r0 z hz); omega) k0 rfl
end Go.Proofs.Ytklkfajbfpihfaa
