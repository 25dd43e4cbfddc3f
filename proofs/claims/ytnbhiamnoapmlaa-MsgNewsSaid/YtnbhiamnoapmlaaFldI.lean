/-
  Contract of layer 16's All: an iterator over the fields of a kind that a version has.
-/
import Derived.Test.YtnbhiamnoapmlaaFldO
import Derived.Test.YtnbhiamnoapmlaaStops
import Derived.Test.YtnbhiamnoapmlaaGiven
import Derived.RangeFuncBound
import Derived.RangeFuncCalls
import Derived.RangeFuncLeaves
namespace Go.Proofs.Ytnbhiamnoapmlaa
open Go.RowKit Go.Shelf
set_option maxRecDepth 100000
attribute [local go_sem] Oper.semAt_some

/-- those that a version has -/
def FDv (k v : Int) : List Fd := (FD k).filter fun f => decide (f.si ≤ v)
/-- rows of fields and boxes of numbers at lo or above are as they were -/
structure KeT (tf ti : TypeId) (lo : Nat) (A B : World) : Prop where
  size : A.heap.size ≤ B.heap.size
  same : ∀ (q : Nat) (cs : Array Value) (t : TypeId), lo ≤ q → t = tf ∨ t = ti → A.heap[q]? = some (.cells cs t (0, 0)) → B.heap[q]? = A.heap[q]?
section
variable {tf ti : TypeId} {lo : Nat} {A B C : World}
theorem KeT.refl (A : World) : KeT tf ti lo A A := ⟨Nat.le_refl _, fun _ _ _ _ _ _ => rfl⟩
theorem KeT.trans (h : KeT tf ti lo A B) (k : KeT tf ti lo B C) : KeT tf ti lo A C := ⟨Nat.le_trans h.size k.size, fun q cs t hq ht hA => (k.same q cs t hq ht ((h.same q cs t hq ht hA).trans hA)).trans (h.same q cs t hq ht hA)⟩
theorem KeT.of_below (h : Below A.heap.size A B) : KeT tf ti lo A B := ⟨h.size, fun q _ _ _ _ hA => h.block q (Array.getElem?_eq_some_iff.1 hA).1⟩
theorem KeT.block (h : KeT tf ti lo A B) {q : Nat} {cs : Array Value} {t : TypeId} (hq : lo ≤ q) (ht : t = tf ∨ t = ti) (hA : A.heap[q]? = some (.cells cs t (0, 0))) : B.heap[q]? = some (.cells cs t (0, 0)) := (h.same q cs t hq ht hA).trans hA
theorem KeT.putObj {l : Nat} {o o' : Obj} (ho : A.heap[l]? = some o) (hc : o.isCells = false) : KeT tf ti lo A (A.putObj l o') := ⟨by simp [World.putObj], fun q cs t _ _ hA => World.putObj_heap_other (fun e => by
  subst e
  rw [ho] at hA
  injection hA with hA
  subst hA
  cases hc)⟩
theorem KeT.setCell (h : KeT tf ti lo A B) {p : Addr} (hp : p.block < lo) (u : Value) : KeT tf ti lo A (B.setCell p u) := ⟨by have := h.size; simpa [World.setCell] using this, fun q cs t hq ht hA => (Below.heap_setCell B p u q (by omega)).trans (h.same q cs t hq ht hA)⟩
end

theorem fall_any (k v : Int) (w : World) : Calls Try.prog 25 #[.int .i64 k, .int .i64 v] w fun e w' => e = .returned (.func (.func 39) #[] #[.pointer (some ⟨w.heap.size, 0, none⟩), .pointer (some ⟨w.heap.size + 1, 0, none⟩)]) ∧
    w'.heap[w.heap.size]? = some (.cells #[.int .i64 k] 3 (0, 0)) ∧ w'.heap[w.heap.size + 1]? = some (.cells #[.int .i64 v] 3 (0, 0)) ∧ Below w.heap.size w w' := by
  go_enter Try.func25, Try.ntmps25
  go_wp2
  go_ret
  refine ⟨rfl, ?_, ?_, ((Below.refl _ w).alloc (Nat.le_refl _) _).alloc (by simp) _⟩
  · rw [Below.heap_alloc _ _ _ (by simp)]
    exact World.alloc_heap_new _ _
  · rw [show w.heap.size + 1 = (w.alloc (.cells #[.int .i64 k] 3)).heap.size by simp]
    exact World.alloc_heap_new _ _

theorem FRow.sevenP {T : TypeId} {w : World} {g : Nat} {L : List Fd} (h : FRow T w g L) {j : Nat} {f : Fd} (hj : L[j]? = some f) :
    w.cell? ⟨g, j * 7, none⟩ = some (.string f.nm) ∧ w.cell? ⟨g, j * 7 + 1, none⟩ = some (.int .i64 f.so) ∧ w.cell? ⟨g, j * 7 + 2, none⟩ = some (.int .i64 f.pl) ∧ w.cell? ⟨g, j * 7 + 3, none⟩ = some (.int .i64 f.le) ∧ w.cell? ⟨g, j * 7 + 4, none⟩ = some (.int .i64 f.mo) ∧ w.cell? ⟨g, j * 7 + 5, none⟩ = some (.int .i64 f.si) ∧ w.cell? ⟨g, j * 7 + 6, none⟩ = some (.int .i64 f.ab) :=
  ⟨h.cell hj (q := 0) (by omega), h.cell hj (q := 1) (by omega), h.cell hj (q := 2) (by omega), h.cell hj (q := 3) (by omega), h.cell hj (q := 4) (by omega), h.cell hj (q := 5) (by omega), h.cell hj (q := 6) (by omega)⟩
theorem filter_take {L : List Fd} {p : Fd → Bool} {i : Nat} {f : Fd} (hf : L[i]? = some f) : ((L.take (i + 1)).filter p).length = ((L.take i).filter p).length + (if p f then 1 else 0) := by
  rw [List.take_add_one, hf, List.filter_append, List.length_append]
  by_cases h : p f <;> simp [h]
theorem filter_get {L : List Fd} {p : Fd → Bool} {i : Nat} {f : Fd} (hf : L[i]? = some f) (hp : p f = true) : (L.filter p)[((L.take i).filter p).length]? = some f := by
  have h1 : L = L.take i ++ f :: L.drop (i + 1) := by
    have hi := (List.getElem?_eq_some_iff.1 hf).1
    conv => lhs; rw [← List.take_append_drop i L, List.drop_eq_getElem_cons hi]
    rw [(List.getElem?_eq_some_iff.1 hf).2]
  have key : ((L.take i ++ f :: L.drop (i + 1)).filter p)[((L.take i).filter p).length]? = some f := by
    rw [List.filter_append, List.filter_cons_of_pos hp]
    simp
  rwa [← h1] at key

set_option maxHeartbeats 2000000 in
theorem fall_in (n : Nat) (hn : 1 ≤ n) (m' l g : Nat) (k v : Int) (J : Nat → World → Prop) (Jx : World → Prop) (hJ : ∀ j A B, J j A → Below A.heap.size A B → J j B)
    (hY : ∀ j f W, J j W → (FDv k v)[j]? = some f → YieldAt Fence.wide m' Try.prog l #[f.v] W fun e W' => (e = .returned (.bool true) ∧ J (j + 1) W' ∧ KeT 65 3 g W W') ∨ (e = .returned (.bool false) ∧ Jx W'))
    (W : World) (hg0 : W.heap[g]? = some (.cells #[.int .i64 k] 3 (0, 0))) (hg1 : W.heap[g + 1]? = some (.cells #[.int .i64 v] 3 (0, 0))) (h0 : J 0 W) :
    CallsIn Fence.wide n Try.prog 39 #[.func (.yield l) #[] #[], .pointer (some ⟨g, 0, none⟩), .pointer (some ⟨g + 1, 0, none⟩)] W fun e W' => (∃ v, e = .returned v) ∧ (J (FDv k v).length W' ∨ Jx W') := by
  have c0 : W.cell? ⟨g, 0, none⟩ = some (.int .i64 k) := by simp [World.cell?, hg0]
  have hlt := (Array.getElem?_eq_some_iff.1 hg1).1
  have hlt0 := (Array.getElem?_eq_some_iff.1 hg0).1
  obtain ⟨R, hR⟩ : ∃ R, (FDv k v).length = R := ⟨_, rfl⟩
  rw [hR]
  refine callsIn_of_wp Try.func39 rfl trivial ?_ rfl
  simp only [Try.ntmps39, List.size_toArray, List.length_cons, List.length_nil, Nat.reduceAdd, Nat.reduceSub, Array.replicate_succ, Array.replicate_zero, List.push_toArray, List.append_toArray, List.nil_append, List.cons_append]
  gi_wp2_with fail
  refine ⟨trivial, (callsIn_wide.2 (of_any k W)).mono ?_⟩
  rintro e w1 ⟨A, c, rfl, hc, hA, hb1⟩
  have hN6 : (FD k).length ≤ 6 := by
    unfold FD
    rw [pls_len]
    exact raw_few k
  unfold FDv at hY hR
  generalize FD k = L at *
  obtain ⟨N, hN⟩ : ∃ N, L.length = N := ⟨_, rfl⟩
  rw [hN] at hc hN6 ⊢
  have hgW : g + 1 < W.heap.size := hlt
  have HJ0 := Lib.hid (hJ 0 _ _ h0 hb1)
  have HN := Lib.hid hN
  have HR := Lib.hid hR
  have HY := Lib.hid hY
  have HJ := Lib.hid hJ
  have HV := Lib.hid ((hb1.block (g + 1) hlt).trans hg1)
  clear hN hR hY hg0 hg1 h0 c0 hlt hlt0 hJ hb1
  by_cases hL : L = []
  · subst hL
    obtain rfl : 0 = N := HN.out
    obtain rfl : 0 = R := HR.out
    gi_wp2_with fail
    gi_loopw [9] (fun x wr => x = .int .i64 0 ∧ wr = w1) (fun _ _ => 0)
    case atStart => exact ⟨rfl, rfl⟩
    case round =>
      obtain ⟨rfl, rfl⟩ := hrel
      gi_wp2
      go_end0
      exact ⟨⟨_, rfl⟩, .inl HJ0.out⟩
  · obtain ⟨ga, rfl, hga, hF⟩ := hA hL
    have HF := Lib.hid hF
    have hgag : g ≤ ga := by omega
    clear hF hA hga
    gi_wp2_with fail
    gi_loopw [9] (fun x wr => ∃ p : Nat, p ≤ N ∧ x = .int .i64 (p : Int) ∧ Hid (J ((L.take p).filter fun f => decide (f.si ≤ v)).length wr) ∧ Hid (FRow 65 wr ga L) ∧ Hid (wr.heap[g + 1]? = some (.cells #[.int .i64 v] 3 (0, 0)))) (fun x _ => N - (intOf x).toNat)
    case atStart => exact ⟨0, by omega, rfl, HJ0, HF, HV⟩
    case round =>
      obtain ⟨p, hp, rfl, HJp, HFp, HVp⟩ := hrel
      rcases Nat.lt_or_ge p N with hlt | hge
      · obtain ⟨f, hf⟩ : ∃ f, L[p]? = some f := ⟨_, List.getElem?_eq_getElem (by rw [HN.out]; exact hlt)⟩
        obtain ⟨d0, d1, d2, d3, d4, d5, d6⟩ := HFp.out.sevenP hf
        have dv : wr.cell? ⟨g + 1, 0, none⟩ = some (.int .i64 v) := by simp [World.cell?, HVp.out]
        have hsz := (Array.getElem?_eq_some_iff.1 HVp.out).1
        have hfl := filter_take (p := fun f => decide (f.si ≤ v)) hf
        have hfg := filter_get (p := fun f => decide (f.si ≤ v)) hf
        have Hfl := Lib.hid hfl
        by_cases hv : f.si ≤ v
        · have HYj := HY.out _ f (wr.alloc (.cells f.cs 65)) (HJ.out _ _ _ HJp.out ((Below.refl _ wr).alloc (Nat.le_refl _) _)) (hfg (by simpa using hv))
          unfold Fd.v Fd.cs at HYj
          obtain ⟨fn, tmps, assign, body, hy, hR⟩ := yield_any (n - 1) HYj
          have HR2 := Lib.hid hR
          clear hR HYj hfl hfg
          have hFlt : ga < wr.heap.size := (Array.getElem?_eq_some_iff.1 HFp.out).1
          gi_wp2_with fail
          refine HR2.out.mono ?_
          rintro e W3 (⟨rfl, hJ3, hK3⟩ | ⟨rfl, hJx3⟩)
          · have HJ3 : Hid (J ((L.take (p + 1)).filter fun f => decide (f.si ≤ v)).length W3) := by
              show J _ _
              rw [Hfl.out, if_pos (by simpa using hv)]
              exact hJ3
            have HF3 : Hid (FRow 65 W3 ga L) := hK3.block hgag (.inl rfl) ((Below.heap_alloc _ _ _ hFlt).trans HFp.out)
            have HV3 : Hid (W3.heap[g + 1]? = some (.cells #[.int .i64 v] 3 (0, 0))) := hK3.block (by omega) (.inr rfl) ((Below.heap_alloc _ _ _ hsz).trans HVp.out)
            clear hJ3 hK3 d0 d1 d2 d3 d4 d5 d6 dv
            gi_wp2
            go_roundw
            case rel => exact ⟨p + 1, by omega, by go_num, HJ3, HF3, HV3⟩
            case measure => simp [intOf]; omega
          · gi_wp2
            refine bodyPost_ret (results_none rfl _ _ _) rfl ?_
            exact ⟨⟨_, rfl⟩, .inr hJx3⟩
        · have HJ3 : Hid (J ((L.take (p + 1)).filter fun f => decide (f.si ≤ v)).length (wr.alloc (.cells #[.string f.nm, .int .i64 f.so, .int .i64 f.pl, .int .i64 f.le, .int .i64 f.mo, .int .i64 f.si, .int .i64 f.ab] 65))) := by
            show J _ _
            rw [Hfl.out, if_neg (by simpa using hv)]
            exact HJ.out _ _ _ HJp.out ((Below.refl _ wr).alloc (Nat.le_refl _) _)
          have HF3 : Hid (FRow 65 (wr.alloc (.cells #[.string f.nm, .int .i64 f.so, .int .i64 f.pl, .int .i64 f.le, .int .i64 f.mo, .int .i64 f.si, .int .i64 f.ab] 65)) ga L) := (Below.heap_alloc _ _ _ (Array.getElem?_eq_some_iff.1 HFp.out).1).trans HFp.out
          have HV3 : Hid ((wr.alloc (.cells #[.string f.nm, .int .i64 f.so, .int .i64 f.pl, .int .i64 f.le, .int .i64 f.mo, .int .i64 f.si, .int .i64 f.ab] 65)).heap[g + 1]? = some (.cells #[.int .i64 v] 3 (0, 0))) := (Below.heap_alloc _ _ _ hsz).trans HVp.out
          clear hfl hfg
          gi_wp2
          refine ⟨fun f hf => (by cases hf), ?_⟩
          gi_wp2
          go_roundw
          case rel => exact ⟨p + 1, by omega, by go_num, HJ3, HF3, HV3⟩
          case measure => simp [intOf]; omega
      · obtain rfl : p = N := by omega
        gi_wp2
        go_end0
        have h1 := HJp.out
        rw [List.take_of_length_le (by rw [HN.out]; exact Nat.le_refl _), HR.out] at h1
        exact ⟨⟨_, rfl⟩, .inl h1⟩
end Go.Proofs.Ytnbhiamnoapmlaa
