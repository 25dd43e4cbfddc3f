/-
  The walk of the law CobsDecodes: it returns true.
-/
import Derived.Test.YtljacfhkjhhbgaaRbD
namespace Go.Proofs.Ytljacfhkjhhbgaa
open Go.RowKit
set_option maxRecDepth 100000

/-- each number is 0, or among the stuffed ones -/
theorem mem_enc (l : List Int) : ∀ z ∈ l, z = 0 ∨ z ∈ Cb.enc l := by
  refine Cb.along (p := fun l => ∀ z ∈ l, z = 0 ∨ z ∈ Cb.enc l) ?_ ?_ ?_ l
  · intro b h hl z hz
    rw [Cb.enc_last h hl]
    exact .inr (List.mem_cons_of_mem _ hz)
  · intro b r h hl ih z hz
    rw [Cb.enc_nought h hl]
    rcases List.mem_append.1 hz with hz | hz
    · exact .inr (List.mem_append.2 (.inl (List.mem_cons_of_mem _ hz)))
    · rcases List.mem_cons.1 hz with rfl | hz
      · exact .inl rfl
      · exact (ih z hz).imp id fun h => List.mem_append.2 (.inr h)
  · intro b r h hl hr ih z hz
    rw [Cb.enc_full h hl hr]
    rcases List.mem_append.1 hz with hz | hz
    · exact .inr (List.mem_append.2 (.inl (List.mem_cons_of_mem _ hz)))
    · exact (ih z hz).imp id fun h => List.mem_append.2 (.inr h)

set_option maxHeartbeats 2000000 in
theorem decodes_go (a : Option Addr) (n m c : Nat) (es : List Int) (w : World) (hn : es.length = n) (hc : n ≤ c) (_hl : n ≤ 9223372036854775807) (hz : Bytes es) (h1 : Nums .u8 w w.heap.size a es)
    (hm : min (n : Int) 1000 = (m : Int)) (hmn : m ≤ n) (hm2 : m ≤ 1000) :
    Calls Try.prog 4 #[.slice a n c] w fun e w' => e = .returned (.bool true) ∧ Below w.heap.size w w' := by
  have hmc : (m : Int) ≤ (c : Int) := by omega
  have hlen : (es.take m).length = m := by rw [List.length_take]; omega
  have hzb := hz.take m
  have hnum := h1.take m
  generalize es.take m = bs at *
  clear hz h1 hn
  have HZ := Lib.hid hzb
  have HL := Lib.hid hlen
  have D1 := decode_any a m c bs w hlen (by omega) (by omega) hzb hnum
  cases hr : Cb.dec false bs with
  | none =>
    have HR := Lib.hid hr
    rw [hr] at D1
    clear hr hlen
    go_enter Try.func4, Try.ntmps4
    go_wp2_with fail
    refine D1.mono ?_
    rintro e w1 ⟨rfl, hb1⟩
    clear D1
    have D2 := rdecode_any a m c bs w1 HL.out (by omega) HZ.out ((hnum.below hb1).mono hb1.size)
    rw [HR.out] at D2
    go_wp2_with fail
    refine D2.mono ?_
    rintro e w2 ⟨rfl, hb2⟩
    clear D2
    have hb02 := hb1.trans (hb2.mono hb1.size)
    clear hb1 hb2
    go_wp2_with fail
    refine (known_any _).mono ?_
    rintro e w3 ⟨rfl, hb3⟩
    have hb03 := hb02.trans (hb3.mono hb02.size)
    clear hb02 hb3
    go_wp2_with fail
    refine (same_any w3.heap.size none none 0 0 0 0 [] [] w3 rfl rfl (by omega) Nums.nil Nums.nil).mono ?_
    rintro e w4 ⟨rfl, d4, hw4⟩
    have hb04 : Below w.heap.size w w4 := by rw [hw4]; exact below_drewN hb03 d4
    clear hw4 hb03
    have S := stuffed_any a m c bs w4 HL.out (by omega) (by omega) HZ.out ((hnum.below hb04).mono hb04.size)
    rw [HR.out] at S
    go_wp2_with fail
    refine S.mono ?_
    rintro e w5 ⟨rfl, hb5⟩
    clear S
    have hb05 := hb04.trans (hb5.mono hb04.size)
    clear hb5 hb04
    go_wp2
    go_ret
    exact ⟨rfl, hb05⟩
  | some x =>
    have HR := Lib.hid hr
    have HX := Lib.hid ((Cb.dec_iff hzb.lt).1 hr)
    have hxl := (Cb.enc_len x).1
    rw [HX.out, hlen] at hxl
    have hxz : Bytes x := fun z hz => by
      rcases mem_enc x z hz with h | h
      · omega
      · rw [HX.out] at h; exact hzb z h
    rw [hr] at D1
    clear hr hlen
    obtain ⟨q, hq⟩ : ∃ q, x.length = q := ⟨_, rfl⟩
    have HQ := Lib.hid hq
    rw [hq] at hxl
    clear hq
    go_enter Try.func4, Try.ntmps4
    go_wp2_with fail
    refine D1.mono ?_
    rintro e w1 ⟨v1, rfl, hm1⟩
    clear D1
    obtain ⟨A1, c1, rfl, hc1, hn1⟩ := hm1.slice
    have hb1 := hm1.2
    rw [HQ.out] at hc1 ⊢
    have HN1 := Lib.hid hn1
    clear hm1 hn1
    have D2 := rdecode_any a m c bs w1 HL.out (by omega) HZ.out ((hnum.below hb1).mono hb1.size)
    rw [HR.out] at D2
    go_wp2_with fail
    refine D2.mono ?_
    rintro e w2 ⟨v2, rfl, hm2⟩
    clear D2
    obtain ⟨A2, c2, rfl, hc2, hn2⟩ := hm2.slice
    have hb2 := hm2.2
    rw [HQ.out] at hc2 ⊢
    have HN2 := Lib.hid hn2
    clear hm2 hn2
    have hb02 := hb1.trans (hb2.mono hb1.size)
    go_wp2_with fail
    refine (known_any _).mono ?_
    rintro e w3 ⟨rfl, hb3⟩
    have hb03 := hb02.trans (hb3.mono hb02.size)
    have hb13 := hb2.trans (hb3.mono hb2.size)
    have E1 := same_any w3.heap.size A1 A2 q q c1 c2 x x w3 HQ.out HQ.out (by omega) ((HN1.out.below hb13).mono hb13.size) ((HN2.out.below hb3).mono hb3.size)
    rw [decide_eq_true rfl] at E1
    clear hb2 hb02 hb3 HN2
    go_wp2_with fail
    refine E1.mono ?_
    rintro e w4 ⟨rfl, d4, hw4⟩
    have hb04 : Below w.heap.size w w4 := by rw [hw4]; exact below_drewN hb03 d4
    have hb14 : Below w1.heap.size w1 w4 := by rw [hw4]; exact below_drewN hb13 d4
    clear hw4 hb03 hb13 E1
    have S := stuffed_any a m c bs w4 HL.out (by omega) (by omega) HZ.out ((hnum.below hb04).mono hb04.size)
    rw [HR.out] at S
    go_wp2_with fail
    refine S.mono ?_
    rintro e w5 ⟨rfl, hb5⟩
    clear S
    have hb05 := hb04.trans (hb5.mono hb04.size)
    have hb15 := hb14.trans (hb5.mono hb14.size)
    clear hb5 hb04 hb14
    have K := encode_any A1 q c1 x w5 HQ.out hc1 (by omega) hxz ((HN1.out.below hb15).mono hb15.size)
    rw [HX.out] at K
    go_wp2_with fail
    refine K.mono ?_
    rintro e w6 ⟨v6, rfl, hm6⟩
    clear K
    obtain ⟨A6, c6, rfl, hc6, hn6⟩ := hm6.slice
    rw [HL.out] at hc6 ⊢
    have hb06 := hb05.trans (hm6.2.mono hb05.size)
    have E6 := same_any w6.heap.size A6 a m m c6 c bs bs w6 HL.out HL.out (by omega) hn6 ((hnum.below hb06).mono hb06.size)
    rw [decide_eq_true rfl] at E6
    clear hm6 hn6 hb05 hb15
    go_wp2_with fail
    refine E6.mono ?_
    rintro e w7 ⟨rfl, d7, hw7⟩
    have hb07 : Below w.heap.size w w7 := by rw [hw7]; exact below_drewN hb06 d7
    clear hw7 hb06 E6
    go_wp2
    go_ret
    exact ⟨rfl, hb07⟩

theorem walk_decodes (a0 : Option Addr) (len0 cap0 : Nat) (z0 : List Int) (w : World) (w0 : IsRow .u8 w a0 len0 cap0 z0) :
    Calls Try.prog 4 #[.slice a0 len0 cap0] w fun e w' => e = .returned (.bool true) ∧ Below w.heap.size w w' := by
  obtain ⟨e0, l0, q0, m0, k0, r0⟩ := w0.elems
  exact decodes_go a0 len0 (min len0 1000) cap0 e0 w l0 q0 (Nat.le_trans q0 m0) (bytes_of r0) k0 (by omega) (by omega) (by omega)
end Go.Proofs.Ytljacfhkjhhbgaa
