/-
  The walk of the law CrcSeals: it returns true.
-/
import Derived.Test.YtbhdffefjphphaaCrcZ
import Derived.Test.YtbhdffefjphphaaRfO
import Derived.Test.YtbhdffefjphphaaSame
namespace Go.Proofs.Ytbhdffefjphphaa
open Go.RowKit
set_option maxRecDepth 100000

theorem MadeK.on {e : TypeId} {k : IntKind} {w w1 w2 : World} {L : List Int} {v : Value} (h : MadeK e k w w1 L v) (hb : Below w1.heap.size w1 w2) : MadeK e k w w2 L v := by
  refine ⟨⟨h.1.1, ?_⟩, h.2.trans (hb.mono h.2.size)⟩
  rcases h.1.2 with h0 | ⟨g, cap, cur, hv, hg, hh, rest⟩
  · exact .inl h0
  · exact .inr ⟨g, cap, cur, hv, hg, (hb.block g (Array.getElem?_eq_some_iff.1 hh).1).trans hh, rest⟩

set_option maxHeartbeats 1000000 in
theorem seals_go (a : Option Addr) (n m c : Nat) (es : List Int) (w : World) (hn : es.length = n) (hc : n ≤ c) (_hl : n ≤ 9223372036854775807) (hz : Bytes es) (h1 : Nums .u8 w w.heap.size a es)
    (hm : min (n : Int) 200 = (m : Int)) (hmn : m ≤ n) (hm2 : m ≤ 200) :
    Calls Try.prog 4 #[.slice a n c] w fun e w' => e = .returned (.bool true) ∧ Below w.heap.size w w' := by
  obtain ⟨i0, hi, hz0, hz1, hz2⟩ := info_parts byteInfo
  have hmc : (m : Int) ≤ (c : Int) := by omega
  have hlen : (es.take m).length = m := by rw [List.length_take]; omega
  have hzb := hz.take m
  have hnum := h1.take m
  generalize es.take m = bs at *
  clear hz h1 hn
  have HZ := Lib.hid hzb
  have HL := Lib.hid hlen
  go_enter Try.func4, Try.ntmps4
  go_wp2_with fail
  refine (new_any _).mono ?_
  rintro e w1 ⟨rfl, htab, hb, hsz⟩
  have htab1 : TabAt w1 w1.heap.size w.heap.size := by rw [hsz]; exact htab
  clear hsz htab
  have K := seal_any w1.heap.size w.heap.size a m c bs w1 htab1 (Nat.le_refl _) hlen (by omega) (by omega) hzb ((hnum.below hb).mono hb.size)
  go_wp2_with fail
  refine K.mono ?_
  rintro e w2 ⟨v, rfl, hmade⟩
  clear K
  have hlen2 : (bs ++ Cr.le4 (Cr.sum bs)).length = m + 4 := by rw [List.length_append, hlen, Cr.le4_len]
  have hsb : Bytes (bs ++ Cr.le4 (Cr.sum bs)) := hzb.append (le4_bytes _)
  obtain ⟨A, c2, rfl, hc2, hnS⟩ := hmade.slice
  have hb2 := hb.trans (hmade.2.mono hb.size)
  have htab2 : TabAt w2 w2.heap.size w.heap.size := (htab1.below hmade.2).mono hmade.2.size
  have hnum2 := (hnum.below hb2).mono hb2.size
  clear hmade htab1
  rw [hlen2] at hc2 ⊢
  have hLit := MadeK.lit 5 .u8 (Below.refl w2.heap.size w2)
  have HLit := Lib.hid hLit
  have hn3 := hnum2.below (((Below.refl _ w2).alloc (Nat.le_refl _) (.cells #[] 5)))
  have HN3 := Lib.hid hn3
  clear hLit hn3
  go_wp2_with (at_builtin; refine wpList_append_any rfl (.tmp 21) (.tmp 22) 22 rfl w2.heap.size 5 i0 (.int .u8 0) 1 Try.underlying22 hi hz0 hz1 hz2 rfl .u8 [] bs _ rfl HLit.out.1 a m c _ rfl HL.out HN3.out ?c1 ?c2 HLit.out.2.size ?_)
  case c1 => unfold maxLen; (try simp only [List.length_nil]); omega
  case c2 => (try simp only [List.length_nil]); omega
  intro v1 w3 hown hg
  have HM1 := Lib.hid (HLit.out.more (zs := bs) (v' := v1) (by simpa [hlen] using hown) hg)
  rw [List.nil_append] at HM1
  clear hown hg
  have hb3 : Below w2.heap.size w2 w3 := HM1.out.2
  have KS := rsum_any w2.heap.size a m c bs w3 hlen (by omega) hzb hb3.size (hnum2.below hb3)
  have hsl := Cr.sum_lt bs
  go_wp2_with fail
  refine KS.mono ?_
  rintro e w4 ⟨rfl, hb4⟩
  clear KS
  go_wp2_with fail
  refine (rbytes_any (Cr.sum bs) _ (by omega)).mono ?_
  rintro e w5 ⟨rfl, hn5, hb5⟩
  have HM5 := Lib.hid ((HM1.out.on hb4).on hb5)
  have HN5 := Lib.hid hn5
  have H4 := Lib.hid (Cr.le4_len (Cr.sum bs))
  clear hn5
  go_wp2_with (at_builtin; refine wpList_append_any rfl (.tmp 23) (.tmp 26) 22 rfl w2.heap.size 5 i0 (.int .u8 0) 1 Try.underlying22 hi hz0 hz1 hz2 rfl .u8 bs (Cr.le4 (Cr.sum bs)) _ rfl HM5.out.1 _ 4 4 _ rfl H4.out HN5.out ?d1 ?d2 HM5.out.2.size ?_)
  case d1 => unfold maxLen; omega
  case d2 => omega
  intro v2 w6 hown hg
  have hm6 := HM5.out.more (zs := Cr.le4 (Cr.sum bs)) (v' := v2) (by simpa [hlen] using hown) hg
  clear hown hg
  obtain ⟨A6, c6, rfl, hc6, hn6⟩ := hm6.slice
  rw [hlen2] at hc6 ⊢
  have hb6 : Below w2.heap.size w2 w6 := hm6.2
  have E := same_len w6.heap.size A A6 (m + 4) (m + 4) c2 c6 _ _ w6 rfl hlen2 hlen2 (by omega) ((hnS.below hb6).mono hb6.size) hn6
  clear hm6
  have HnS := Lib.hid hnS
  clear hn6 hnS
  go_wp2_with fail
  refine E.mono ?_
  rintro e w7 ⟨rfl, d, rfl⟩
  clear E
  have hb7 := below_drewN hb6 d
  generalize w6.drewN d = w7 at *
  clear hb3 hb4 hb5 hb6 HM1 HM5 HN5 HLit HN3
  have O1 := open_any w7.heap.size w.heap.size A (m + 4) c2 _ w7 ((htab2.below hb7).mono hb7.size) (Nat.le_refl _) hlen2 hc2 (by omega) hsb ((HnS.out.below hb7).mono hb7.size)
  rw [openOf_sealed] at O1
  go_wp2_with fail
  refine O1.mono ?_
  rintro e w8 ⟨X, cX, rfl, hcX, hnX, hb8⟩
  clear O1
  have hb8' := hb7.trans (hb8.mono hb7.size)
  simp only at hcX hnX ⊢
  rw [hlen] at hcX ⊢
  have O2 := open_any w8.heap.size w.heap.size a m c bs w8 ((htab2.below hb8').mono hb8'.size) (Nat.le_refl _) hlen (by omega) (by omega) hzb ((hnum2.below hb8').mono hb8'.size)
  go_wp2_with fail
  refine O2.mono ?_
  rintro e w9 ⟨Y, cY, rfl, hcY, hnY, hb9⟩
  clear O2
  have hb9' := hb8'.trans (hb9.mono hb8'.size)
  have O3 := ropen_any w9.heap.size a m c bs w9 (Nat.le_refl _) hlen (by omega) (by omega) hzb ((hnum2.below hb9').mono hb9'.size)
  have hlo : (openOf bs).2.length ≤ 1000 := by
    unfold openOf
    split
    · simp
    · split
      · simp only [List.length_take]; omega
      · simp
  generalize openOf bs = r at *
  obtain ⟨er, L⟩ := r
  simp only at hcY hnY O3 hlo ⊢
  go_wp2_with fail
  refine O3.mono ?_
  rintro e w10 ⟨Z, cZ, rfl, hcZ, hnZ, hb10⟩
  clear O3
  simp only at hcZ hnZ ⊢
  have hb10' := hb9'.trans (hb10.mono hb9'.size)
  have hX10 : Below w8.heap.size w8 w10 := hb9.trans (hb10.mono hb9.size)
  have HX := Lib.hid ((hnX.below hX10).mono hX10.size)
  have HY := Lib.hid ((hnY.below hb10).mono hb10.size)
  have HZ2 := Lib.hid hnZ
  clear hnX hnY hnZ hb8 hb9 hb10 hb7 hb8' hb9' hX10
  generalize hLn : L.length = nL at *
  have HLn := Lib.hid hLn
  clear hLn
  go_wp2_with fail
  refine (known_any _).mono ?_
  rintro e w11 ⟨rfl, hb11⟩
  have hb11' := hb10'.trans (hb11.mono hb10'.size)
  have E2 := same_len w11.heap.size X a m m cX c bs bs w11 rfl hlen hlen (by omega) ((HX.out.below hb11).mono hb11.size) ((hnum2.below hb11').mono hb11'.size)
  go_wp2_with fail
  refine E2.mono ?_
  rintro e w12 ⟨rfl, d2, rfl⟩
  clear E2
  have hb12 := below_drewN (Below.refl w11.heap.size w11) d2
  have E3 := same_len w11.heap.size Y Z nL nL cY cZ L L (w11.drewN d2) rfl HLn.out HLn.out (by omega) (((HY.out.below hb11).mono hb11.size).below hb12) (((HZ2.out.below hb11).mono hb11.size).below hb12)
  go_wp2_with fail
  refine E3.mono ?_
  rintro e w13 ⟨rfl, d3, rfl⟩
  clear E3
  have hend := below_drewN (below_drewN (hb2.trans (hb11'.mono hb2.size)) d2) d3
  go_wp2
  go_ret
  exact ⟨rfl, by first | exact hend | simpa using hend⟩

theorem walk_seals (a0 : Option Addr) (len0 cap0 : Nat) (z0 : List Int) (w : World) (w0 : IsRow .u8 w a0 len0 cap0 z0) :
    Calls Try.prog 4 #[.slice a0 len0 cap0] w fun e w' => e = .returned (.bool true) ∧ Below w.heap.size w w' := by
  obtain ⟨e0, l0, q0, m0, k0, r0⟩ := w0.elems
  exact seals_go a0 len0 (min len0 200) cap0 e0 w l0 q0 (Nat.le_trans q0 m0) (bytes_of r0) k0 (by omega) (by omega) (by omega)
end Go.Proofs.Ytbhdffefjphphaa
