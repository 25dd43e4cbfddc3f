/-
  Contract of Open.
-/
import Derived.Test.YtbhdffefjphphaaCrcE
namespace Go.Proofs.Ytbhdffefjphphaa
open Go.RowKit
set_option maxRecDepth 100000

/-- what Open answers of bytes: the error, the bytes -/
def openOf (zs : List Int) : Int × List Int :=
  if zs.length < 4 then (13, []) else if zs.take (zs.length - 4) ++ Cr.le4 (Cr.sum (zs.take (zs.length - 4))) = zs then (0, zs.take (zs.length - 4)) else (11, [])
/-- what Open leaves -/
def OpenR (w w' : World) (r : Int × List Int) (e : Ending) : Prop := ∃ A c, e = .returned (.tuple #[.slice A r.2.length c, .int .i64 r.1]) ∧ r.2.length ≤ c ∧ Nums .u8 w' w'.heap.size A r.2 ∧ Below w.heap.size w w'

theorem open_short (b : Nat) (a : Option Addr) (n c : Nat) (zs : List Int) (w : World) (hn : zs.length = n) (hs : n < 4) :
    Calls Try.prog 23 #[.pointer (some ⟨b, 0, none⟩), .slice a n c] w fun e w' => OpenR w w' (openOf zs) e := by
  have e0 : openOf zs = (13, []) := by unfold openOf; rw [if_pos (by omega)]
  rw [e0]
  have hs' : (n : Int) < 4 := by omega
  go_enter Try.func23, Try.ntmps23
  go_wp2
  refine bodyPost_ret (v := .tuple #[.slice none 0 0, .int .i64 13]) (by simp [results, Try.results23, go_sem]) rfl ⟨none, 0, rfl, by simp, Nums.nil, Below.refl _ _⟩

theorem le4_bytes (n : Nat) : Bytes (Cr.le4 n) := fun z hz => ⟨Cr.le4_ge n z hz, Cr.le4_lt n z hz⟩
theorem Bytes.append {x y : List Int} (hx : Bytes x) (hy : Bytes y) : Bytes (x ++ y) := fun z hz => by
  rcases List.mem_append.1 hz with h | h
  · exact hx z h
  · exact hy z h

theorem open_long (B b : Nat) (a : Option Addr) (n c : Nat) (zs : List Int) (w : World) (ht : TabAt w B b) (hB : B ≤ w.heap.size) (hn : zs.length = n) (hs : 4 ≤ n) (hc : n ≤ c) (hl : n ≤ 1000000) (hz : Bytes zs) (h1 : Nums .u8 w B a zs) :
    Calls Try.prog 23 #[.pointer (some ⟨b, 0, none⟩), .slice a n c] w fun e w' => OpenR w w' (openOf zs) e := by
  obtain ⟨m, rfl⟩ : ∃ m, n = m + 4 := ⟨n - 4, by omega⟩
  have hT : (zs.take m).length = m := by rw [List.length_take]; omega
  have K := seal_any B b a m c (zs.take m) w ht hB hT (by omega) (by omega) (hz.take m) (h1.take m)
  have E0 : zs.length - 4 = m := by omega
  by_cases heq : zs.take m ++ Cr.le4 (Cr.sum (zs.take m)) = zs
  all_goals
    have hi1 : IntKind.i64.wrap ((m + 4 : Nat) - 4 : Int) = (m : Int) := by rw [IntKind.wrap_i64]; omega
    have hm0 : ¬ (m : Int) < 0 := by omega
    have hmc : (m : Int) ≤ (c : Int) := by omega
  · have e0 : openOf zs = (0, zs.take m) := by unfold openOf; rw [if_neg (by omega), E0, if_pos heq]
    rw [e0]
    have HE := Lib.hid heq
    have H1 := Lib.hid h1
    have HZ := Lib.hid hz
    clear heq h1 hz e0 ht
    go_enter Try.func23, Try.ntmps23
    go_wp2_with fail
    refine K.mono ?_
    rintro e w1 ⟨v, rfl, hm⟩
    clear K
    obtain ⟨A, c2, rfl, hc2, hnm⟩ := hm.slice
    have hb := hm.2
    have hlen : (zs.take m ++ Cr.le4 (Cr.sum (zs.take m))).length = m + 4 := by rw [List.length_append, hT, Cr.le4_len]
    rw [hlen] at hc2 ⊢
    have hbs : Bytes (zs.take m ++ Cr.le4 (Cr.sum (zs.take m))) := (HZ.out.take m).append (le4_bytes _)
    have E := equal_any w1.heap.size A a (m + 4) c2 (m + 4) c _ zs w1 hlen hn hbs HZ.out hnm (((H1.out.mono hB).below hb).mono hb.size)
    have HNM := Lib.hid hnm
    clear hm hnm
    rw [show decide (zs.take m ++ Cr.le4 (Cr.sum (zs.take m)) = zs) = true from decide_eq_true HE.out] at E
    go_wp2_with fail
    refine E.mono ?_
    rintro e w2 ⟨rfl, rfl⟩
    have hmc2 : (m : Int) ≤ (c2 : Int) := by omega
    go_wp2
    refine bodyPost_ret (v := .tuple #[.slice A m m, .int .i64 0]) (by simp [results, Try.results23, go_sem]) rfl ⟨A, m, by rw [hT], by rw [hT]; exact Nat.le_refl _, ?_, hb⟩
    have := HNM.out.take m
    rwa [List.take_append_of_le_length (by omega), List.take_of_length_le (by omega)] at this
  · have e0 : openOf zs = (11, []) := by unfold openOf; rw [if_neg (by omega), E0, if_neg heq]
    rw [e0]
    have HE := Lib.hid heq
    have H1 := Lib.hid h1
    have HZ := Lib.hid hz
    clear heq h1 hz e0 ht
    go_enter Try.func23, Try.ntmps23
    go_wp2_with fail
    refine K.mono ?_
    rintro e w1 ⟨v, rfl, hm⟩
    clear K
    obtain ⟨A, c2, rfl, hc2, hnm⟩ := hm.slice
    have hb := hm.2
    have hlen : (zs.take m ++ Cr.le4 (Cr.sum (zs.take m))).length = m + 4 := by rw [List.length_append, hT, Cr.le4_len]
    rw [hlen] at hc2 ⊢
    have hbs : Bytes (zs.take m ++ Cr.le4 (Cr.sum (zs.take m))) := (HZ.out.take m).append (le4_bytes _)
    have E := equal_any w1.heap.size A a (m + 4) c2 (m + 4) c _ zs w1 hlen hn hbs HZ.out hnm (((H1.out.mono hB).below hb).mono hb.size)
    clear hm hnm
    rw [show decide (zs.take m ++ Cr.le4 (Cr.sum (zs.take m)) = zs) = false from decide_eq_false HE.out] at E
    go_wp2_with fail
    refine E.mono ?_
    rintro e w2 ⟨rfl, rfl⟩
    go_wp2
    refine bodyPost_ret (v := .tuple #[.slice none 0 0, .int .i64 11]) (by simp [results, Try.results23, go_sem]) rfl ⟨none, 0, rfl, by simp, Nums.nil, hb⟩

theorem open_any (B b : Nat) (a : Option Addr) (n c : Nat) (zs : List Int) (w : World) (ht : TabAt w B b) (hB : B ≤ w.heap.size) (hn : zs.length = n) (hc : n ≤ c) (hl : n ≤ 1000000) (hz : Bytes zs) (h1 : Nums .u8 w B a zs) :
    Calls Try.prog 23 #[.pointer (some ⟨b, 0, none⟩), .slice a n c] w fun e w' => OpenR w w' (openOf zs) e := by
  by_cases hs : n < 4
  · exact open_short b a n c zs w hn hs
  · exact open_long B b a n c zs w ht hB hn (by omega) hc hl hz h1
end Go.Proofs.Ytbhdffefjphphaa
