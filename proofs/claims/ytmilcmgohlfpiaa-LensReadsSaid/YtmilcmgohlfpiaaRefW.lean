/-
  Contract of the document's Word of layer 3.
-/
import Derived.Test.YtmilcmgohlfpiaaRef3
namespace Go.Proofs.Ytmilcmgohlfpiaa
open Go.RowKit
set_option maxRecDepth 100000

theorem le_append (a b : List Int) : le (a ++ b) = le a + 256 ^ a.length * le b := by
  induction a with
  | nil => simp [le]
  | cons c a ih =>
    simp only [List.cons_append, le, ih, List.length_cons, Int.pow_succ]
    rw [Int.mul_add, Int.mul_comm (256 ^ a.length) 256, Int.mul_assoc]
    omega
theorem le_take {l : List Int} {k : Nat} {c : Int} (h : l[k]? = some c) : le (l.take (k + 1)) = le (l.take k) + 256 ^ k * c := by
  have hk : k < l.length := (List.getElem?_eq_some_iff.1 h).1
  rw [List.getElem?_eq_getElem hk] at h
  injection h with h
  rw [List.take_succ_eq_append_getElem hk, le_append, h, List.length_take, Nat.min_eq_left (by omega)]
  simp [le]
/-- the unit of the k-th byte -/
theorem unit_facts {k : Nat} {U c : Int} (hk : k < 4) (hU : U = 256 ^ k) (h0 : 0 ≤ c) (h1 : c ≤ 255) : 0 ≤ U * c ∧ U * c ≤ 255 * 256 ^ k ∧ 0 ≤ U ∧ U ≤ 16777216 ∧ (256 : Int) ^ k + 255 * 256 ^ k ≤ 4294967296 := by
  subst hU
  match k, hk with
  | 0, _ => simp; omega
  | 1, _ => simp; omega
  | 2, _ => simp; omega
  | 3, _ => simp; omega
theorem unit_next {k : Nat} {U : Int} (hk : k < 3) (hU : U = 256 ^ k) : IntKind.u32.wrap (U * 256) = 256 ^ (k + 1) := by
  subst hU
  rw [IntKind.wrap_u32]
  match k, hk with
  | 0, _ => decide
  | 1, _ => decide
  | 2, _ => decide

set_option maxHeartbeats 1000000 in
theorem rword_any (A : Option Addr) (n c p e m : Nat) (l : List Int) (w : World) (hn : l.length = n) (hl : n ≤ 1000000000) (hp : p ≤ n) (hm : m ≤ 4) (hz : ∀ x ∈ l, 0 ≤ x ∧ x ≤ 255) (h1 : Nums .u8 w w.heap.size A l) :
    Calls Try.prog 9 #[RefL A n c p e, .int .i64 m] w fun r w' => RefI .u32 A n c p e (wordR (l.drop p) m) w r w' := by
  by_cases he : e = 0
  · subst he
    by_cases hmore : n - p < m
    · have HR : Hid (wordR (l.drop p) m = (0, 0, 4)) := by show _ = _; unfold wordR; rw [if_pos (by rw [List.length_drop, hn]; exact hmore)]
      have HF := fun e' w => rfail_any A n c p 0 e' w
      have h3 : (n : Int) - (p : Int) < (m : Int) := by omega
      clear h1 hz
      go_enter Try.func9, Try.ntmps9
      go_wp2_with (go_at_call 42; refine (HF 4 _).mono ?_; rintro e w1 ⟨rfl, hb⟩; obtain ⟨d0, d1, d2, hrb, hbb⟩ := ref_blocks A n c p 0 w rfl hb; obtain ⟨_, g0, g1, g2, k0, k1, k2⟩ := hrb; have HB := Lib.hid hbb; clear hb hbb)
      refine bodyPost_ret (by simp [results, Try.results9, go_sem, k0, k1, k2]; try rfl) rfl ?_
      exact by rw [HR.out]; exact RefI.bad rfl rfl (below_set3 HB.out (by omega))
    · have HR : Hid (wordR (l.drop p) m = (le ((l.drop p).take m), m, 0)) := by show _ = _; unfold wordR; rw [if_neg (by rw [List.length_drop, hn]; exact hmore)]
      have h3 : ¬ (n : Int) - (p : Int) < (m : Int) := by omega
      have HZ := Lib.hid hz
      clear hz
      go_enter Try.func9, Try.ntmps9
      go_wp2
      go_loopw [6, 7, 8] (fun N u i wr => ∃ (k : Nat) (U : Int), k ≤ m ∧ i = .int .i64 k ∧ N = .int .u32 (le ((l.drop p).take k)) ∧ u = .int .u32 U ∧ (k < 4 → U = 256 ^ k) ∧ wr = (w.alloc (RefC A n c p 0)).alloc (RefC none 0 0 0 0)) (fun _ _ i _ => m - (intOf i).toNat)
      case atStart => exact ⟨0, 1, by omega, rfl, rfl, rfl, fun _ => rfl, rfl⟩
      case round =>
        obtain ⟨k, U, hk, rfl, rfl, rfl, hU, rfl⟩ := hrel
        by_cases hlt : k < m
        · have hlt' : (k : Int) < (m : Int) := by omega
          obtain ⟨x, hx⟩ : ∃ x, (l.drop p)[k]? = some x := ⟨_, List.getElem?_eq_getElem (by rw [List.length_drop, hn]; omega)⟩
          have hx2 : l[p + k]? = some x := by rw [← hx, List.getElem?_drop]
          have hxb := HZ.out x (List.mem_of_getElem? hx2)
          obtain ⟨b1, o1, rfl, hb1, hc1⟩ := h1.open hx2
          have hu := unit_facts (by omega : k < 4) (hU (by omega)) hxb.1 hxb.2
          have hT := Lib.hid (le_take hx)
          have hle := le_bound (l := (l.drop p).take k) (fun y hy => HZ.out y (List.mem_of_mem_drop (List.mem_of_mem_take hy)))
          rw [List.length_take, List.length_drop, hn, Nat.min_eq_left (by omega)] at hle
          have hpk : (p : Int) + (k : Int) < (n : Int) := by omega
          have hadd : 0 ≤ le ((l.drop p).take k) + U * x ∧ le ((l.drop p).take k) + U * x ≤ 4294967295 := by omega
          have HU := Lib.hid hU
          clear hx hx2 h1 hU hle
          generalize le ((l.drop p).take k) = V at *
          go_wp2

          go_roundw
          case rel => exact ⟨k + 1, _, by omega, by go_num, by rw [hT.out, ← HU.out (by omega)], rfl, fun h => unit_next (by omega) (HU.out (by omega)), trivial⟩
          case measure => simp [intOf]; omega
        · have hkm : k = m := by omega
          subst hkm
          have hw0 := le_bound4 (l := (l.drop p).take k) (fun y hy => HZ.out y (List.mem_of_mem_drop (List.mem_of_mem_take hy))) (n := k) (by rw [List.length_take, List.length_drop, hn]; omega) hm
          clear h1
          go_wp2
          go_returns
          exact RefI.ok (by rw [HR.out]) (by rw [HR.out]; simp) (by rw [HR.out]) (((Below.refl _ w).alloc (Nat.le_refl _) _).alloc (by simp) _)
  · have h3 : ¬ (e : Int) = 0 := by omega
    have h4 : ((e : Int) != 0) = true := by simp; omega
    go_enter Try.func9, Try.ntmps9
    go_wp2
    go_returns
    exact RefI.err he (((Below.refl _ w).alloc (Nat.le_refl _) _).alloc (by simp) _)
end Go.Proofs.Ytmilcmgohlfpiaa
