/-
  The walk of the law CobsCuts: it returns true.
-/
import Derived.Test.YtljacfhkjhhbgaaCobK
namespace Go.Proofs.Ytljacfhkjhhbgaa
open Go.RowKit
set_option maxRecDepth 100000

/-- what Decode has made lies somewhere -/
theorem DecR.slice {w w' : World} {r : Option (List Int)} {e : Ending} (h : DecR w r e w') : ∃ A n c er, e = .returned (.tuple #[.slice A n c, .int .i64 er]) ∧ Below w.heap.size w w' ∧ ((∃ x, r = some x ∧ er = 0 ∧ x.length = n ∧ n ≤ c ∧ Nums .u8 w' w'.heap.size A x) ∨ (r = none ∧ er = 12 ∧ n = 0)) := by
  cases r with
  | none => obtain ⟨rfl, hb⟩ := h; exact ⟨_, _, _, _, rfl, hb, .inr ⟨rfl, rfl, rfl⟩⟩
  | some x =>
    obtain ⟨v, rfl, hm⟩ := h
    obtain ⟨A, c, rfl, hc, hn⟩ := hm.slice
    exact ⟨_, _, _, _, rfl, hm.2, .inl ⟨x, rfl, rfl, rfl, hc, hn⟩⟩
theorem enc_drop {l : List Int} {n : Nat} (hb : ∀ z ∈ Cb.enc l, z < 256) (hn : n < (Cb.enc l).length) : Cb.dec false ((Cb.enc l).take n) ≠ some l := fun h => by
  have h1 := congrArg List.length ((Cb.dec_iff (fun z hz => hb z (List.mem_of_mem_take hz))).1 h)
  rw [List.length_take] at h1
  omega
theorem enc_one_more {l : List Int} {x : Int} (hb : ∀ z ∈ Cb.enc l, z < 256) (hx : x < 256) : Cb.dec false (Cb.enc l ++ [x]) ≠ some l := fun h => by
  have h1 := congrArg List.length ((Cb.dec_iff (fun z hz => by rcases List.mem_append.1 hz with h | h; exact hb z h; simp at h; omega)).1 h)
  rw [List.length_append] at h1
  simp at h1
theorem enc_no_nought {s : List Int} (hb : ∀ z ∈ s, z < 256) : Cb.dec false (s ++ [0]) = none := by
  cases h : Cb.dec false (s ++ [0]) with
  | none => rfl
  | some y =>
    have h1 := (Cb.dec_iff (fun z hz => by rcases List.mem_append.1 hz with h | h; exact hb z h; simp at h; omega)).1 h
    have h2 := Cb.enc_nz y
    rw [h1] at h2
    exact absurd rfl (h2 0 (by simp))
theorem dec_len {s x : List Int} (hb : ∀ z ∈ s, z < 256) (h : Cb.dec false s = some x) : x.length ≤ s.length := by
  have h1 := (Cb.dec_iff hb).1 h
  have h2 := (Cb.enc_len x).1
  rw [h1] at h2
  omega
set_option maxHeartbeats 2000000 in
theorem cuts_go (a : Option Addr) (n m c : Nat) (es : List Int) (x : Int) (w : World) (hn : es.length = n) (hc : n ≤ c) (_hl : n ≤ 9223372036854775807) (hz : Bytes es) (h1 : Nums .u8 w w.heap.size a es)
    (hm : min (n : Int) 1000 = (m : Int)) (hmn : m ≤ n) (hm2 : m ≤ 1000) (hx0 : 0 ≤ x) (hx1 : x < 256) :
    Calls Try.prog 6 #[.slice a n c, .int .u8 x] w fun e w' => e = .returned (.bool true) ∧ Below w.heap.size w w' := by
  obtain ⟨i0, hi, hz0, hz1, hz2⟩ := info_parts byteInfo
  have hmc : (m : Int) ≤ (c : Int) := by omega
  have hlen : (es.take m).length = m := by rw [List.length_take]; omega
  have hzb := hz.take m
  have hnum := h1.take m
  generalize es.take m = bs at *
  clear hz h1 hn
  have HZ := Lib.hid hzb
  have HL := Lib.hid hlen
  have K := encode_any a m c bs w hlen (by omega) (by omega) hzb hnum
  have HE := Lib.hid (Cb.enc_len bs)
  have HB := Lib.hid (Cb.enc_bytes hzb)
  clear hlen hzb
  go_enter Try.func6, Try.ntmps6
  go_wp2_with fail
  refine K.mono ?_
  rintro e w1 ⟨v, rfl, hm1⟩
  clear K
  obtain ⟨A1, c1, rfl, hc1, hn1⟩ := hm1.slice
  have hb1 := hm1.2
  have HM1 := Lib.hid hm1
  clear hm1
  have HM1b := Lib.hid hb1
  obtain ⟨P, hP⟩ : ∃ P, (Cb.enc bs).length = P := ⟨_, rfl⟩
  obtain ⟨L, hL⟩ : ∃ L, P - 1 = L := ⟨_, rfl⟩
  have hE := HE.out
  rw [hP] at hE
  have HP := Lib.hid hP
  rw [hP] at hc1 ⊢
  have hP0 : ¬ (P : Int) = 0 := by omega
  have hP1 : ((P : Int) == 0) = false := by rw [beq_eq_false_iff_ne]; exact hP0
  have hP2 : P ≤ 5000 := by rw [HL.out] at hE; omega
  have hP3 : (1 : Int) ≤ P := by omega
  have hPc : (P : Int) ≤ (c1 : Int) := by omega
  have HLp : Hid (L + 1 = P) := by show _ = _; omega
  clear hP hE
  have hcut : ((Cb.enc bs).take L).length = L := by rw [List.length_take, HP.out]; omega
  have D1 := decode_any A1 L c1 ((Cb.enc bs).take L) w1 hcut (by omega) (by omega) (Bytes.take HB.out L) (hn1.take L)
  have HR1 := Lib.hid (enc_drop (l := bs) (n := L) (fun z hz => (HB.out z hz).2) (by rw [HP.out]; omega))
  have HS1 := Lib.hid (fun (y : List Int) h => show y.length ≤ 10000 from by have := dec_len (s := (Cb.enc bs).take L) (x := y) (fun z hz => (HB.out z (List.mem_of_mem_take hz)).2) h; rw [hcut] at this; omega)
  generalize Cb.dec false ((Cb.enc bs).take L) = r1 at *
  have HN1 := Lib.hid hn1
  clear hn1 hcut
  go_wp2_with fail
  refine D1.mono ?_
  rintro e w2 hd
  clear D1
  obtain ⟨A2, n2, c2, er2, rfl, hb2, hr2⟩ := hd.slice
  have HR2 := Lib.hid hr2
  clear hr2 hd
  have hLit := MadeK.lit 5 .u8 (Below.refl w2.heap.size w2)
  have HLit := Lib.hid hLit
  have HNs := Lib.hid ((HN1.out.below hb2).below ((Below.refl w2.heap.size w2).alloc (Nat.le_refl _) (.cells #[] 5) |>.mono hb2.size))
  clear hLit
  have HX1 : Hid (([] : List Int).length + P ≤ maxLen) := by show _ ≤ _; unfold maxLen; simp only [List.length_nil]; omega
  have HX2 : Hid ((([] : List Int).length + P) * 1 ≤ 140737488355328) := by show _ ≤ _; simp only [List.length_nil]; omega
  go_wp2_with (at_builtin; refine wpList_append_any rfl (.tmp 30) (.tmp 31) 22 rfl w2.heap.size 5 i0 (.int .u8 0) 1 Try.underlying22 hi hz0 hz1 hz2 rfl .u8 [] (Cb.enc bs) _ rfl HLit.out.1 A1 P c1 _ rfl HP.out HNs.out HX1.out HX2.out HLit.out.2.size ?_)
  intro v3 w3 hown hg
  have HM3 := Lib.hid (HLit.out.more (zs := Cb.enc bs) (v' := v3) (by simpa using hown) hg)
  rw [List.nil_append] at HM3
  clear hown hg HLit HNs HX1 HX2
  have HM3b := Lib.hid HM3.out.2
  have HZ1 := Lib.hid (Nums.new .u8 w3 5 [x] #[.int .u8 x] rfl)
  have HX1 : Hid ((Cb.enc bs).length + 1 ≤ maxLen) := by show _ ≤ _; unfold maxLen; rw [HP.out]; omega
  have HX2 : Hid (((Cb.enc bs).length + 1) * 1 ≤ 140737488355328) := by show _ ≤ _; rw [HP.out]; omega
  have HX3 : Hid (w2.heap.size ≤ (w3.alloc (.cells #[.int .u8 x] 5)).heap.size) := by show _ ≤ _; have := HM3b.out.size; rw [World.size_alloc]; omega
  go_wp2_with (at_builtin; refine wpList_append_any rfl (.tmp 32) (.tmp 34) 22 rfl w2.heap.size 5 i0 (.int .u8 0) 1 Try.underlying22 hi hz0 hz1 hz2 rfl .u8 (Cb.enc bs) [x] _ rfl (HM3.out.1.alloc _) _ 1 1 _ rfl rfl HZ1.out HX1.out HX2.out HX3.out ?_)
  intro v4 w4 hown hg
  have hm4 := (HM3.out.later (.cells #[.int .u8 x] 5)).more (zs := [x]) (v' := v4) (by simpa using hown) hg
  clear hown hg HM3 HM3b HZ1 HX1 HX2 HX3
  obtain ⟨A4, c4, rfl, hc4, hn4⟩ := hm4.slice
  have hb4 := hm4.2
  have hl4 : (Cb.enc bs ++ [x]).length = P + 1 := by rw [List.length_append, HP.out]; rfl
  rw [hl4] at hc4 ⊢
  have D2 := decode_any A4 (P + 1) c4 (Cb.enc bs ++ [x]) w4 hl4 hc4 (by omega) (Bytes.append HB.out (fun z hz => by simp at hz; omega)) hn4
  have HR4 := Lib.hid (And.intro (enc_one_more (l := bs) (x := x) (fun z hz => (HB.out z hz).2) hx1) (fun h0 : x = 0 => by have := enc_no_nought (s := Cb.enc bs) (fun z hz => (HB.out z hz).2); rw [← h0] at this; exact this))
  have HS4 := Lib.hid (fun (y : List Int) h => show y.length ≤ 10000 from by have := dec_len (s := Cb.enc bs ++ [x]) (x := y) (fun z hz => by rcases List.mem_append.1 hz with h | h; exact (HB.out z h).2; simp at h; omega) h; rw [hl4] at this; omega)
  generalize Cb.dec false (Cb.enc bs ++ [x]) = r4 at *
  clear hm4 hn4 hl4
  go_wp2_with fail
  refine D2.mono ?_
  rintro e w5 hd
  clear D2
  obtain ⟨A5, n5, c5, er5, rfl, hb5, hr5⟩ := hd.slice
  clear hd
  have hb25 : Below w2.heap.size w2 w5 := hb4.trans (hb5.mono hb4.size)
  have hb05 : Below w.heap.size w w5 := (hb1.trans (hb2.mono hb1.size)).trans (hb25.mono (hb1.trans (hb2.mono hb1.size)).size)
  clear hb1 hb2 hb4 hb5
  rcases HR2.out with ⟨y2, hy2, rfl, hy2l, hy2c, hn2⟩ | ⟨hy2, rfl, rfl⟩
  · have hy2L := HS1.out y2 hy2
    have HY2 := Lib.hid hn2
    clear hn2
    rcases hr5 with ⟨y5, hy5, rfl, hy5l, hy5c, hn5⟩ | ⟨hy5, rfl, rfl⟩
    · have hy5L := HS4.out y5 hy5
      have HY5 := Lib.hid hn5
      clear hn5
      by_cases hx : x = 0
      · have hcon := HR4.out.2 hx
        rw [hy5] at hcon
        simp at hcon
      · have hx2 : (x != 0) = true := by simp [hx]
        clear hx
        go_wp2_with fail
        refine (known_any _).mono ?_
        rintro e w6 ⟨rfl, hb6⟩
        have hb06 := hb05.trans (hb6.mono hb05.size)
        go_wp2_with fail
        have E1 := same_any w6.heap.size A2 a n2 m c2 c y2 bs w6 hy2l HL.out (by omega) (((HY2.out.below hb25).mono hb25.size).below hb6 |>.mono hb6.size) ((hnum.below hb06).mono hb06.size)
        rw [decide_eq_false (fun e => HR1.out (by rw [hy2, e]))] at E1
        refine E1.mono ?_
        rintro e w7 ⟨rfl, d7, hw7⟩
        have hb67 : Below w6.heap.size w6 w7 := by rw [hw7]; exact below_drewN (Below.refl _ _) d7
        clear hw7 E1
        go_wp2_with fail
        have E4 := same_any w7.heap.size A5 a n5 m c5 c y5 bs w7 hy5l HL.out (by omega) ((((HY5.out.below hb6).mono hb6.size).below hb67).mono hb67.size) (((hnum.below hb06).mono hb06.size).below hb67 |>.mono hb67.size)
        rw [decide_eq_false (fun e => HR4.out.1 (by rw [hy5, e]))] at E4
        refine E4.mono ?_
        rintro e w8 ⟨rfl, d8, hw8⟩
        have hend : Below w.heap.size w w8 := by rw [hw8]; exact below_drewN (hb06.trans (hb67.mono hb06.size)) d8
        clear hw8 E4
        go_wp2
        go_ret
        exact ⟨rfl, hend⟩

    · by_cases hx : x = 0
      · have hx2 : (x != 0) = false := by simp [hx]
        clear hx
        go_wp2_with fail
        refine (known_any _).mono ?_
        rintro e w6 ⟨rfl, hb6⟩
        have hb06 := hb05.trans (hb6.mono hb05.size)
        go_wp2_with fail
        have E1 := same_any w6.heap.size A2 a n2 m c2 c y2 bs w6 hy2l HL.out (by omega) (((HY2.out.below hb25).mono hb25.size).below hb6 |>.mono hb6.size) ((hnum.below hb06).mono hb06.size)
        rw [decide_eq_false (fun e => HR1.out (by rw [hy2, e]))] at E1
        refine E1.mono ?_
        rintro e w7 ⟨rfl, d7, hw7⟩
        have hb67 : Below w6.heap.size w6 w7 := by rw [hw7]; exact below_drewN (Below.refl _ _) d7
        clear hw7 E1
        have hend := hb06.trans (hb67.mono hb06.size)
        go_wp2
        go_ret
        exact ⟨rfl, hend⟩

      · have hx2 : (x != 0) = true := by simp [hx]
        clear hx
        go_wp2_with fail
        refine (known_any _).mono ?_
        rintro e w6 ⟨rfl, hb6⟩
        have hb06 := hb05.trans (hb6.mono hb05.size)
        go_wp2_with fail
        have E1 := same_any w6.heap.size A2 a n2 m c2 c y2 bs w6 hy2l HL.out (by omega) (((HY2.out.below hb25).mono hb25.size).below hb6 |>.mono hb6.size) ((hnum.below hb06).mono hb06.size)
        rw [decide_eq_false (fun e => HR1.out (by rw [hy2, e]))] at E1
        refine E1.mono ?_
        rintro e w7 ⟨rfl, d7, hw7⟩
        have hb67 : Below w6.heap.size w6 w7 := by rw [hw7]; exact below_drewN (Below.refl _ _) d7
        clear hw7 E1
        have hend := hb06.trans (hb67.mono hb06.size)
        go_wp2
        go_ret
        exact ⟨rfl, hend⟩


  · rcases hr5 with ⟨y5, hy5, rfl, hy5l, hy5c, hn5⟩ | ⟨hy5, rfl, rfl⟩
    · have hy5L := HS4.out y5 hy5
      have HY5 := Lib.hid hn5
      clear hn5
      by_cases hx : x = 0
      · have hcon := HR4.out.2 hx
        rw [hy5] at hcon
        simp at hcon
      · have hx2 : (x != 0) = true := by simp [hx]
        clear hx
        go_wp2_with fail
        refine (known_any _).mono ?_
        rintro e w6 ⟨rfl, hb6⟩
        have hb06 := hb05.trans (hb6.mono hb05.size)
        have hb67 : Below w6.heap.size w6 w6 := Below.refl _ _
        go_wp2_with fail
        have E4 := same_any w6.heap.size A5 a n5 m c5 c y5 bs w6 hy5l HL.out (by omega) ((((HY5.out.below hb6).mono hb6.size).below hb67).mono hb67.size) (((hnum.below hb06).mono hb06.size).below hb67 |>.mono hb67.size)
        rw [decide_eq_false (fun e => HR4.out.1 (by rw [hy5, e]))] at E4
        refine E4.mono ?_
        rintro e w8 ⟨rfl, d8, hw8⟩
        have hend : Below w.heap.size w w8 := by rw [hw8]; exact below_drewN (hb06.trans (hb67.mono hb06.size)) d8
        clear hw8 E4
        go_wp2
        go_ret
        exact ⟨rfl, hend⟩

    · by_cases hx : x = 0
      · have hx2 : (x != 0) = false := by simp [hx]
        clear hx
        go_wp2_with fail
        refine (known_any _).mono ?_
        rintro e w6 ⟨rfl, hb6⟩
        have hb06 := hb05.trans (hb6.mono hb05.size)
        have hb67 : Below w6.heap.size w6 w6 := Below.refl _ _
        have hend := hb06.trans (hb67.mono hb06.size)
        go_wp2
        go_ret
        exact ⟨rfl, hend⟩

      · have hx2 : (x != 0) = true := by simp [hx]
        clear hx
        go_wp2_with fail
        refine (known_any _).mono ?_
        rintro e w6 ⟨rfl, hb6⟩
        have hb06 := hb05.trans (hb6.mono hb05.size)
        have hb67 : Below w6.heap.size w6 w6 := Below.refl _ _
        have hend := hb06.trans (hb67.mono hb06.size)
        go_wp2
        go_ret
        exact ⟨rfl, hend⟩

theorem walk_cuts (a0 : Option Addr) (len0 cap0 : Nat) (z0 : List Int) (a1 : Int) (w : World) (w0 : IsRow .u8 w a0 len0 cap0 z0) (w1 : (Lit.int .u8 a1).wf = true) :
    Calls Try.prog 6 #[.slice a0 len0 cap0, .int .u8 a1] w fun e w' => e = .returned (.bool true) ∧ Below w.heap.size w w' := by
  obtain ⟨e0, l0, q0, m0, k0, r0⟩ := w0.elems
  have hb := bounds_u8 w1
  exact cuts_go a0 len0 (min len0 1000) cap0 e0 a1 w l0 q0 (Nat.le_trans q0 m0) (bytes_of r0) k0 (by omega) (by omega) (by omega) (by omega) (by omega)
end Go.Proofs.Ytljacfhkjhhbgaa
