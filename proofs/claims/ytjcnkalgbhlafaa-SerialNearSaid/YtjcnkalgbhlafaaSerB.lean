/-
  The document's Best; the walk of the law SerialBest: it returns true.
-/
import Derived.Test.YtjcnkalgbhlafaaSerK
import Derived.Lib.MinMax
namespace Go.Proofs.Ytjcnkalgbhlafaa
open Go.RowKit
set_option maxRecDepth 100000

set_option maxHeartbeats 2000000 in
theorem rbest_any (f : Bool) (B m c : Nat) (A : Option Addr) (zs : List Int) (w : World) (hm : zs.length = m) (hl : m ≤ 1000000) (hz : Sr.U zs) (hN : Nums .u32 w B A zs) :
    Calls Try.prog 19 #[.slice A m c, .bool f] w fun e w' => e = .returned (.tuple #[.int .u32 (Sr.bst f zs), .bool (decide (0 < m))]) ∧ w' = w := by
  have HM := Lib.hid hm
  clear hm
  have HZ := Lib.hid hz
  clear hz
  rcases Nat.eq_zero_or_pos m with h0 | h0
  · subst h0
    have hzn : zs = [] := List.eq_nil_of_length_eq_zero HM.out
    subst hzn
    go_enter Try.func19, Try.ntmps19
    go_wp2
    go_ret2
    exact ⟨rfl, rfl⟩
  · obtain ⟨z0, hg0⟩ : ∃ z, zs[0]? = some z := ⟨_, List.getElem?_eq_getElem (by rw [HM.out]; exact h0)⟩
    have hU0 := HZ.out z0 (List.mem_of_getElem? hg0)
    obtain ⟨b0, o0, rfl, hb0, hc0⟩ := hN.open hg0
    rw [Nat.add_zero] at hc0
    have HB : Hid (Sr.bst f zs = Sr.best f z0 (zs.drop 1)) := by
      show _ = _
      cases zs with
      | nil => simp at hg0
      | cons y ys => simp at hg0; subst hg0; rfl
    have HD : Hid (decide (0 < m) = true) := decide_eq_true h0
    clear hg0
    have h0' : (0 : Int) < (m : Int) := by omega
    have h0'' : ((m : Int) == 0) = false := by rw [beq_eq_false_iff_ne]; omega
    go_enter Try.func19, Try.ntmps19
    go_wp2
    clear hc0
    go_loopw [6, 7] (fun u v wr => ∃ (k : Nat) (x : Int), 1 ≤ k ∧ k ≤ m ∧ (0 ≤ x ∧ x < 4294967296) ∧ u = .int .u32 x ∧ v = .int .i64 (k : Int) ∧ Hid (Sr.bst f zs = Sr.best f x (zs.drop k)) ∧ wr = w) (fun _ v _ => m - (intOf v).toNat)
    case atStart => exact ⟨1, z0, by omega, by omega, hU0, rfl, rfl, HB, rfl⟩
    case round =>
      obtain ⟨k, x, hk1, hkm, hx, rfl, rfl, HP, rfl⟩ := hrel
      clear hU0 HB
      rcases Nat.lt_or_ge k m with h4 | h4
      · obtain ⟨z, hg⟩ : ∃ z, zs[k]? = some z := ⟨_, List.getElem?_eq_getElem (by rw [HM.out]; exact h4)⟩
        have hzU : 0 ≤ z ∧ z < 4294967296 := HZ.out z (List.mem_of_getElem? hg)
        obtain ⟨b1, o1, he, hb1, hc1⟩ := hN.open hg
        injection he with he
        injection he with he1 he2
        subst he1 he2
        have h4' : (k : Int) < (m : Int) := by omega
        have hst := Sr.best_step f x hg
        clear hg
        cases f with
        | true =>
          have K := rafter_any z x wr hzU hx
          rw [show Sr.st true z x = Sr.after z x from rfl] at hst
          generalize Sr.after z x = r at *
          cases r with
          | true =>
            have HQ : Hid (Sr.bst true zs = Sr.best true z (zs.drop (k + 1))) := HP.out.trans hst
            clear hst
            go_wp2_with fail
            refine K.mono ?_
            rintro e w1 ⟨rfl, rfl⟩
            go_wp2
            go_roundw
            case rel => exact ⟨k + 1, z, by omega, by omega, hzU, rfl, by go_num, HQ, trivial⟩
            case measure => simp [intOf]; omega
          | false =>
            have HQ : Hid (Sr.bst true zs = Sr.best true x (zs.drop (k + 1))) := HP.out.trans hst
            clear hst
            go_wp2_with fail
            refine K.mono ?_
            rintro e w1 ⟨rfl, rfl⟩
            go_wp2
            go_roundw
            case rel => exact ⟨k + 1, x, by omega, by omega, hx, rfl, by go_num, HQ, trivial⟩
            case measure => simp [intOf]; omega
        | false =>
          have K := rafter_any x z wr hx hzU
          rw [show Sr.st false z x = Sr.after x z from rfl] at hst
          generalize Sr.after x z = r at *
          cases r with
          | true =>
            have HQ : Hid (Sr.bst false zs = Sr.best false z (zs.drop (k + 1))) := HP.out.trans hst
            clear hst
            go_wp2_with fail
            refine K.mono ?_
            rintro e w1 ⟨rfl, rfl⟩
            go_wp2
            go_roundw
            case rel => exact ⟨k + 1, z, by omega, by omega, hzU, rfl, by go_num, HQ, trivial⟩
            case measure => simp [intOf]; omega
          | false =>
            have HQ : Hid (Sr.bst false zs = Sr.best false x (zs.drop (k + 1))) := HP.out.trans hst
            clear hst
            go_wp2_with fail
            refine K.mono ?_
            rintro e w1 ⟨rfl, rfl⟩
            go_wp2
            go_roundw
            case rel => exact ⟨k + 1, x, by omega, by omega, hx, rfl, by go_num, HQ, trivial⟩
            case measure => simp [intOf]; omega
      · have hkm' : k = m := by omega
        have HQ : Hid (Sr.bst f zs = x) := by
          have := HP.out
          rwa [List.drop_eq_nil_of_le (by rw [HM.out]; exact h4)] at this
        subst hkm'
        go_wp2
        go_ret2
        exact ⟨by rw [HQ.out, HD.out]; rfl, rfl⟩
theorem u32_of {es : List Int} (h : ∀ n ∈ es, (Lit.int .u32 n).wf = true) : Sr.U es := fun z hz => by
  have := bounds_u32 (h z hz)
  omega

set_option maxHeartbeats 2000000 in
theorem sbest_go (a : Option Addr) (n m c : Nat) (es : List Int) (w : World) (hn : es.length = n) (hc : n ≤ c) (hz : Sr.U es) (h1 : Nums .u32 w w.heap.size a es)
    (hm : min (n : Int) 60 = (m : Int)) (hmn : m ≤ n) (hm2 : m ≤ 60) :
    Calls Try.prog 4 #[.slice a n c] w fun e w' => e = .returned (.bool true) ∧ Below w.heap.size w w' := by
  have hmc : (m : Int) ≤ (c : Int) := by omega
  have hlen : (es.take m).length = m := by rw [List.length_take]; omega
  have hzb : Sr.U (es.take m) := fun z hz' => hz z (List.mem_of_mem_take hz')
  have hnum := h1.take m
  generalize es.take m = bs at *
  clear hz h1 hn
  have K1 := newest_any m c a bs w hlen (by omega) hzb (by omega) hnum
  have K2 := Lib.hid (fun (w1 : World) (hb : Below w.heap.size w w1) => oldest_any m c a bs w1 hlen (by omega) hzb (by omega) ((hnum.below hb).mono hb.size))
  have K3 := Lib.hid (fun (f : Bool) (w1 : World) (hb : Below w.heap.size w w1) => rbest_any f w.heap.size m c a bs w1 hlen (by omega) hzb (hnum.below hb))
  clear hlen hzb hnum
  go_enter Try.func4, Try.ntmps4
  go_wp2_with fail
  refine K1.mono ?_
  rintro e w1 ⟨rfl, hb1⟩
  have K2' := K2.out w1 hb1
  go_wp2_with fail
  refine K2'.mono ?_
  rintro e w2 ⟨rfl, hb2⟩
  have hb2' := hb1.trans (hb2.mono hb1.size)
  have K3' := K3.out true w2 hb2'
  have K4' := K3.out false w2 hb2'
  clear K2'
  go_wp2_with fail
  refine K3'.mono ?_
  rintro e w3 ⟨rfl, rfl⟩
  go_wp2_with fail
  refine K4'.mono ?_
  rintro e w4 ⟨rfl, rfl⟩
  clear K3' K4'
  go_wp2_with fail
  refine (sknown_any _).mono ?_
  rintro e w5 ⟨rfl, hb5⟩
  go_wp2
  go_ret
  exact ⟨rfl, hb2'.trans (hb5.mono hb2'.size)⟩
theorem walk_sbest (a0 : Option Addr) (len0 cap0 : Nat) (z0 : List Int) (w : World) (w0 : IsRow .u32 w a0 len0 cap0 z0) :
    Calls Try.prog 4 #[.slice a0 len0 cap0] w fun e w' => e = .returned (.bool true) ∧ Below w.heap.size w w' := by
  obtain ⟨e0, l0, q0, m0, k0, r0⟩ := w0.elems
  exact sbest_go a0 len0 (min len0 60) cap0 e0 w l0 q0 (u32_of r0) k0 (by omega) (by omega) (by omega)
end Go.Proofs.Ytjcnkalgbhlafaa
