/-
  Names in a box that grow while fields are ranged over. The document's Find.
-/
import Derived.Test.YtnbhiamnoapmlaaFldF
import Derived.Test.YtnbhiamnoapmlaaFldR
namespace Go.Proofs.Ytnbhiamnoapmlaa
open Go.RowKit Go.Shelf
set_option maxRecDepth 100000
attribute [local go_sem] Oper.semAt_some

/-- a box B with a list of names, its row at base or above -/
structure Nm (tn ts : TypeId) (B base : Nat) (w4 : World) (l : List ByteArray) (V : World) : Prop where
  box : ∃ u n X, V.heap[B]? = some (.cells #[u] ts (0, 0)) ∧ V.ownsRow base tn 1 u n X ∧ n = l.length ∧ X = l.map Value.string
  off : Off (fun q => q = B) w4 V
section
variable {tn ts tf ti : TypeId} {B base g s n : Nat} {X : List Value} {w4 V V' W4 : World} {l : List ByteArray} {u v' : Value} {o : Obj} {x : ByteArray}
theorem Nm.putObj {q : Nat} {o o' : Obj} (h : Nm tn ts B base w4 l V) (hw : w4.heap.size ≤ q) (ho : V.heap[q]? = some o) (hc : o.isCells = false) : Nm tn ts B base w4 l (V.putObj q o') := by
  obtain ⟨u, n, X, h1, h2, h3⟩ := h.box
  refine ⟨⟨u, n, X, (World.putObj_heap_other (fun e => ?_)).trans h1, ownsRow_putObj h2 _ ho hc, h3⟩, off_below h.off (below_put V o' hw)⟩
  subst e
  rw [h1] at ho
  injection ho with ho
  subst ho
  cases hc
theorem Nm.later (h : Nm tn ts B base w4 l V) (hb : Below V.heap.size V V') : Nm tn ts B base w4 l V' := by
  obtain ⟨u, n, X, h1, h2, h3⟩ := h.box
  exact ⟨⟨u, n, X, (hb.block _ (Array.getElem?_eq_some_iff.1 h1).1).trans h1, own_below7 h2 hb, h3⟩, off_below h.off (hb.mono h.off.size)⟩
theorem Nm.start (h : w4.heap[B]? = some (.cells #[.slice none 0 0] ts (0, 0))) (o1 o2 : Obj) : Nm tn ts B base w4 [] ((w4.alloc o1).alloc o2) :=
  Nm.later (Nm.later (V := w4) ⟨⟨_, 0, [], h, World.ownsRow_nil _ _ _ _, rfl, rfl⟩, Off.refl _ _⟩ ((Below.refl _ w4).alloc (Nat.le_refl _) _)) ((Below.refl _ _).alloc (Nat.le_refl _) _)
theorem Nm.push (hB : B < base) (hbase : w4.heap.size ≤ base) (hBg : B < g) (hf : tn ≠ tf) (hi : tn ≠ ti) (h1 : V.heap[B]? = some (.cells #[u] ts (0, 0))) (h2 : V.ownsRow base tn 1 u n X) (hn : n = l.length) (hX : X = l.map Value.string) (hO : Off (fun q => q = B) w4 V)
    (h4 : W4.ownsRow base tn 1 v' (n + 1) (X ++ [.string x])) (hgr : (V.alloc o).grownBy W4 u.ownBlock) :
    W4.heap[B]? = some (.cells #[u] ts (0, 0)) ∧ Nm tn ts B base w4 (l ++ [x]) (W4.setCell ⟨B, 0, none⟩ v') ∧ KeepsFrom s V (W4.setCell ⟨B, 0, none⟩ v') ∧ KeT tf ti g V (W4.setCell ⟨B, 0, none⟩ v') := by
  have hlt := h2.lt
  have hsz := hgr.size
  rw [World.size_alloc] at hsz
  have hrow : ∀ q, u.ownBlock = some q → ∃ cur, V.heap[q]? = some (.cells cur tn (0, 0)) := fun q e => by
    rcases h2.2 with ⟨rfl, _⟩ | ⟨g, cap, cu, rfl, _, hh, _⟩
    · simp [Value.ownBlock] at e
    · simp only [Value.ownBlock, Option.some.injEq] at e
      subst e
      exact ⟨cu, hh⟩
  have hgq : ∀ q, q < V.heap.size → u.ownBlock ≠ some q → W4.heap[q]? = V.heap[q]? := fun q h6 h7 =>
    (hgr.block q (by rw [World.size_alloc]; omega) (fun e => h7 e.symm)).trans (Below.heap_alloc _ _ q h6)
  have key : ∀ q, q < V.heap.size → q ≠ B → u.ownBlock ≠ some q → (W4.setCell ⟨B, 0, none⟩ v').heap[q]? = V.heap[q]? := fun q h6 h7 h8 => (Below.heap_setCell W4 ⟨B, 0, none⟩ v' q h7).trans (hgq q h6 h8)
  have hBlt := (Array.getElem?_eq_some_iff.1 h1).1
  have b4 : W4.heap[B]? = some (.cells #[u] ts (0, 0)) := (hgq B hBlt (fun e => by have := (hlt B e).1; omega)).trans h1
  have hz : V.heap.size ≤ (W4.setCell ⟨B, 0, none⟩ v').heap.size := by simp only [World.setCell, Array.size_modify]; omega
  refine ⟨b4, ⟨⟨v', _, _, ?_, ownsRow_setCell_below h4 (a := ⟨B, 0, none⟩) hB v', by simp [hn], by simp [hX]⟩, ⟨?_, ?_, ?_, Nat.le_trans hO.size hz, fun q hq hne => ?_⟩⟩, ⟨hz, fun q o2 hs ho hc => ?_⟩, ⟨hz, fun q cs t hq ht hV => ?_⟩⟩
  · rw [setCell_at b4]; rfl
  · exact hgr.os.trans hO.os
  · exact hgr.tape.trans hO.tape
  · exact hgr.output.trans hO.output
  · exact (key q (by have := hO.size; omega) hne (fun e => by have := (hlt q e).1; omega)).trans (hO.block q hq hne)
  · refine (key q (Array.getElem?_eq_some_iff.1 ho).1 (fun e => ?_) (fun e => ?_)).trans ho
    · subst e; rw [h1] at ho; injection ho with ho; subst ho; cases hc
    · obtain ⟨cur, h⟩ := hrow q e; rw [h] at ho; injection ho with ho; subst ho; cases hc
  · refine key q (Array.getElem?_eq_some_iff.1 hV).1 (by omega) (fun e => ?_)
    obtain ⟨cur, h⟩ := hrow q e
    rw [h] at hV
    injection hV with hV
    injection hV with _ ht2
    rcases ht with rfl | rfl
    · exact hf ht2
    · exact hi ht2
end

theorem strInfo : (Try.prog.info? 9).map (fun i => (i.zero, i.size, i.bytes)) = some (some (.string ⟨#[]⟩), 1, 16) := by kernel_rfl
theorem FdsIn.seven {lo : Nat} {w : World} {A : Option Addr} {L : List Fd} (h : FdsIn lo w A L) {j : Nat} {f : Fd} (hj : L[j]? = some f) : ∃ g, A = some ⟨g, 0, none⟩ ∧ lo ≤ g ∧ g < w.heap.size ∧
    w.cell? ⟨g, j * 7, none⟩ = some (.string f.nm) ∧ w.cell? ⟨g, j * 7 + 1, none⟩ = some (.int .i64 f.so) ∧ w.cell? ⟨g, j * 7 + 2, none⟩ = some (.int .i64 f.pl) ∧ w.cell? ⟨g, j * 7 + 3, none⟩ = some (.int .i64 f.le) ∧ w.cell? ⟨g, j * 7 + 4, none⟩ = some (.int .i64 f.mo) ∧ w.cell? ⟨g, j * 7 + 5, none⟩ = some (.int .i64 f.si) ∧ w.cell? ⟨g, j * 7 + 6, none⟩ = some (.int .i64 f.ab) := by
  obtain ⟨g, hA, hlo, hlt, hc⟩ := h j f hj
  exact ⟨g, hA, hlo, hlt, hc 0 _ rfl, hc 1 _ rfl, hc 2 _ rfl, hc 3 _ rfl, hc 4 _ rfl, hc 5 _ rfl, hc 6 _ rfl⟩
theorem FdsIn.off {lo : Nat} {S : Nat → Prop} {w w' : World} {A : Option Addr} {L : List Fd} (h : FdsIn lo w A L) (ho : Off S w w') (hS : ∀ k, lo ≤ k → ¬ S k) : FdsIn lo w' A L := fun j f hj => by
  obtain ⟨g, hA, hlo, hlt, hc⟩ := h j f hj
  exact ⟨g, hA, hlo, Nat.lt_of_lt_of_le hlt ho.size, fun q u hq => ho.cell (hc q u hq) (hS g hlo)⟩

/-- the place of a name: -1 where there is none -/
def IdxAt (L : List Fd) (nm : ByteArray) (K : Int) : Prop := (∃ (j : Nat) (f : Fd), L[j]? = some f ∧ f.nm = nm ∧ (∀ g ∈ L.take j, g.nm ≠ nm) ∧ K = (j : Int)) ∨ ((∀ g ∈ L, g.nm ≠ nm) ∧ K = -1)
set_option maxHeartbeats 2000000 in
theorem rfind_any (A : Option Addr) (n c : Nat) (nm : ByteArray) (lo : Nat) (L : List Fd) (K : Int) (w : World) (hn : L.length = n) (h6 : n ≤ 6) (hA : FdsIn lo w A L) (hK : IdxAt L nm K) :
    Calls Try.prog 21 #[.slice A n c, .string nm] w fun e w' => e = .returned (.int .i64 K) ∧ w = w' := by
  have HN := Lib.hid hn
  have HA := Lib.hid hA
  have HK := Lib.hid hK
  clear hn hA hK
  go_enter Try.func21, Try.ntmps21
  go_wp2_with fail
  go_loopw [5] (fun iv wr => ∃ k : Nat, k ≤ n ∧ iv = .int .i64 (k : Int) ∧ Hid (∀ g ∈ L.take k, g.nm ≠ nm) ∧ wr = w) (fun iv _ => n - (intOf iv).toNat)
  case atStart => exact ⟨0, by omega, rfl, Lib.hid (by simp), rfl⟩
  case round =>
    obtain ⟨k, hk, rfl, HT, rfl⟩ := hrel
    rcases Nat.lt_or_ge k n with hlt | hge
    · obtain ⟨f, hf⟩ : ∃ f, L[k]? = some f := ⟨_, List.getElem?_eq_getElem (by rw [HN.out]; exact hlt)⟩
      obtain ⟨g, rfl, _, _, d0, _, _, _, _, _, _⟩ := HA.out.seven hf
      have HF := Lib.hid hf
      clear hf
      by_cases h : f.nm = nm
      · obtain rfl : K = (k : Int) := by
          rcases HK.out with ⟨j, f2, hj, h2, h3, h4⟩ | ⟨h1, _⟩
          · rcases Nat.lt_trichotomy j k with h5 | h5 | h5
            · exact absurd h2 (HT.out f2 (by rw [List.mem_take_iff_getElem]; exact ⟨j, by have := (List.getElem?_eq_some_iff.1 hj).1; omega, (List.getElem?_eq_some_iff.1 hj).2⟩))
            · omega
            · exact absurd h (h3 f (by rw [List.mem_take_iff_getElem]; exact ⟨k, by have := (List.getElem?_eq_some_iff.1 HF.out).1; omega, (List.getElem?_eq_some_iff.1 HF.out).2⟩))
          · exact absurd h (h1 f (List.mem_of_getElem? HF.out))
        rw [h] at d0
        clear h
        go_wp2
        go_ret
        exact ⟨rfl, rfl⟩
      · have hne := str_ne h
        have HT2 : Hid (∀ g ∈ L.take (k + 1), g.nm ≠ nm) := Lib.hid (fun g hg => by
          rw [List.take_add_one, HF.out, List.mem_append] at hg
          rcases hg with hg | hg
          · exact HT.out g hg
          · simp at hg; subst hg; exact h)
        go_wp2
        exact ⟨⟨k + 1, by omega, by go_num, HT2, trivial⟩, by simp only [intOf]; omega⟩
    · obtain rfl : k = n := by omega
      obtain rfl : K = -1 := by
        have h1 := HT.out
        rw [List.take_of_length_le (by rw [HN.out]; exact Nat.le_refl _)] at h1
        rcases HK.out with ⟨j, f2, hj, h2, _, _⟩ | ⟨_, h⟩
        · exact absurd h2 (h1 f2 (List.mem_of_getElem? hj))
        · exact h
      go_wp2
      go_ret
      exact ⟨rfl, rfl⟩
end Go.Proofs.Ytnbhiamnoapmlaa
