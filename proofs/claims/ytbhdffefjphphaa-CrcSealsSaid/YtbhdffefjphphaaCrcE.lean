/-
  Contracts of Seal and of bytes.Equal.
-/
import Derived.Test.YtbhdffefjphphaaCrcS
import Derived.Test.YtbhdffefjphphaaRow
import Derived.ArgAppend
import Derived.Lib.Strings
import Derived.Lib.Slices
import Derived.Lib.Walk
import Derived.Lib.Bytes
namespace Go.Proofs.Ytbhdffefjphphaa
open Go.RowKit
set_option maxRecDepth 100000

/-- 'string(b)' of bytes that lie somewhere -/
theorem conv_nums (B : Nat) (a : Option Addr) (n c : Nat) (zs : List Int) (w : World) (hn : zs.length = n) (h1 : Nums .u8 w B a zs) :
    (convert 22 9 (.slice a n c)).run Try.prog w = .ok (.string (strOfNums zs)) w := by
  subst hn
  by_cases hz : zs = []
  · subst hz
    rw [run_convert_bytes_string w _ _ _ _ _ _ Try.underlying22 Try.underlying5 Try.underlying9]
    cases a <;> simp [Conv.bytesToString, loadCells] <;> rfl
  · obtain ⟨b, o, rfl, _, hc⟩ := h1 hz
    exact run_convert_bytes_arg (P := Try.prog) w _ _ Try.underlying22 Try.underlying5 b o _ c zs rfl (fun i hi => by
      rw [hc i zs[i] (List.getElem?_eq_getElem hi)]
      simp [List.getElem?_eq_getElem hi]) _ Try.underlying9
theorem equal_raw (v1 v2 : Value) (xs ys : List Int) (w : World)
    (h1 : (convert 22 9 v1).run Try.prog w = .ok (.string (strOfNums xs)) w) (h2 : (convert 22 9 v2).run Try.prog w = .ok (.string (strOfNums ys)) w) :
    Calls Try.prog 28 #[v1, v2] w fun e w' => e = .returned (.bool (Lib.bytesOf xs == Lib.bytesOf ys)) ∧ w' = w := by
  rw [← Lib.strOfNums_toList, ← Lib.strOfNums_toList]
  go_enter Try.func28, Try.ntmps28
  go_wp2
  go_ret
  exact ⟨rfl, rfl⟩
theorem bytesOf_inj {xs ys : List Int} (hx : Bytes xs) (hy : Bytes ys) (h : Lib.bytesOf xs = Lib.bytesOf ys) : xs = ys := by
  have hl := congrArg List.length h
  rw [Lib.bytesOf_length, Lib.bytesOf_length] at hl
  apply List.ext_getElem hl
  intro i h1 h2
  have h3 : (Lib.bytesOf xs)[i]? = (Lib.bytesOf ys)[i]? := by rw [h]
  simp only [Lib.bytesOf, List.getElem?_map, List.getElem?_eq_getElem h1, List.getElem?_eq_getElem h2, Option.map_some, Option.some.injEq] at h3
  have b1 := hx _ (List.getElem_mem h1)
  have b2 := hy _ (List.getElem_mem h2)
  have h4 := congrArg UInt8.toNat h3
  rw [UInt8.toNat_ofNat', UInt8.toNat_ofNat'] at h4
  omega
theorem equal_any (B : Nat) (a1 a2 : Option Addr) (n1 c1 n2 c2 : Nat) (xs ys : List Int) (w : World) (e1 : xs.length = n1) (e2 : ys.length = n2) (hx : Bytes xs) (hy : Bytes ys) (h1 : Nums .u8 w B a1 xs) (h2 : Nums .u8 w B a2 ys) :
    Calls Try.prog 28 #[.slice a1 n1 c1, .slice a2 n2 c2] w fun e w' => e = .returned (.bool (decide (xs = ys))) ∧ w' = w := by
  refine (equal_raw _ _ xs ys w (conv_nums B a1 n1 c1 xs w e1 h1) (conv_nums B a2 n2 c2 ys w e2 h2)).mono ?_
  rintro e w' ⟨rfl, rfl⟩
  refine ⟨?_, rfl⟩
  by_cases h : xs = ys
  · subst h; simp
  · have hb : (Lib.bytesOf xs == Lib.bytesOf ys) = false := by
      simp only [beq_eq_false_iff_ne, ne_eq]
      exact fun hh => h (bytesOf_inj hx hy hh)
    rw [hb]; simp [h]

theorem byteInfo : (Try.prog.info? 5).map (fun i => (i.zero, i.size, i.bytes)) = some (some (.int .u8 0), 1, 1) := by kernel_rfl
theorem le4_is (S : Nat) (h : S < 4294967296) : Cr.le4 S = [(S : Int) % 256, (S : Int) / 256 % 256, (S : Int) / 65536 % 256, (S : Int) / 16777216] := by
  simp only [Cr.le4, List.cons.injEq, and_true]
  omega
/-- a row that was made later -/
theorem ownsRow_lower {w : World} {e : TypeId} {s n : Nat} {v : Value} {xs : List Value} {b b' : Nat} (h : w.ownsRow b e s v n xs) (hb : b' ≤ b) : w.ownsRow b' e s v n xs := by
  refine ⟨h.1, ?_⟩
  rcases h.2 with h | ⟨g, cap, cur, hv, hg, rest⟩
  · exact .inl h
  · exact .inr ⟨g, cap, cur, hv, by omega, rest⟩

theorem seal_any (B b : Nat) (a : Option Addr) (n c : Nat) (zs : List Int) (w : World) (ht : TabAt w B b) (hB : B ≤ w.heap.size) (hn : zs.length = n) (hc : n ≤ c) (hl : n ≤ 1000000) (hz : Bytes zs) (h1 : Nums .u8 w B a zs) :
    Calls Try.prog 20 #[.pointer (some ⟨b, 0, none⟩), .slice a n c] w fun e w' => ∃ v, e = .returned v ∧ MadeK 5 .u8 w w' (zs ++ Cr.le4 (Cr.sum zs)) v := by
  obtain ⟨i0, hi, hz0, hz1, hz2⟩ := info_parts byteInfo
  have hp := Parts.new (w := w) (B := B) (ps := [⟨a, c, zs⟩]) 22 _ (by
    intro p hp
    simp only [List.mem_singleton] at hp
    subst hp
    exact ⟨by simp only; omega, by simp only; omega, hz, h1⟩) hB rfl
  have K := sum_any B b _ 1 1 _ _ (ht.below ((Below.refl B w).alloc hB _)) rfl (by simp) hp
  simp only [flat, List.map_cons, List.map_nil, List.flatMap_cons, List.flatMap_nil, List.append_nil, hn] at K
  have HL := Lib.hid (le4_is (Cr.sum zs) (Cr.sum_lt zs))
  have hS := Cr.sum_lt zs
  generalize Cr.sum zs = S at *
  clear hp ht
  have HN := Lib.hid hn
  have H1 := Lib.hid h1
  clear hn h1
  go_enter Try.func20, Try.ntmps20
  go_wp2_with fail
  refine K.mono ?_
  rintro e w2 ⟨rfl, d, rfl⟩
  clear K
  have hb := below_drewN (((Below.refl w.heap.size w).alloc (Nat.le_refl _) (.cells #[.slice a n c] 22))) d
  generalize World.drewN _ d = w2 at *
  have hsz := hb.size
  have hn1 : n + 4 ≤ maxLen := by unfold maxLen; omega
  have hnn : (n : Int) ≤ (n : Int) := by omega
  have hnc : (n : Int) ≤ (c : Int) := by omega
  have hnone : a = none → n = 0 ∧ n = 0 := fun h0 => by
    have : zs = [] := by
      by_cases hz : zs = []
      · exact hz
      · obtain ⟨b, o, e, _⟩ := H1.out hz
        rw [h0] at e; simp at e
    have h2 := HN.out
    subst this
    simp at h2
    omega
  have hold : ∀ X : World, Below w.heap.size w X → ∀ b, a = some b → ∀ (j : Nat) u, (zs.map (Value.int .u8))[j]? = some u → X.cell? (b.add j) = some u := fun X hX b0 hb0 j u hj => by
    rw [List.getElem?_map] at hj
    obtain ⟨y, hy, rfl⟩ := Option.map_eq_some_iff.1 hj
    obtain ⟨b1, o1, e1, hb1, hc1⟩ := H1.out.open hy
    rw [hb0] at e1
    injection e1 with e1
    subst e1
    have := (H1.out.mono hB).below hX
    obtain ⟨b2, o2, e2, hb2, hc2⟩ := this.open hy
    rw [hb0] at e2
    injection e2 with e2
    injection e2 with e3 e4
    subst e3 e4
    rw [Addr.add_lit]
    exact hc2
  have HO := Lib.hid hold
  have HNo := Lib.hid hnone
  clear hold hnone
  have hS' : S < 4294967296 := hS
  go_wp2_with (at_builtin; refine wpList_append_grows _ (by rfl) _ _ 22 (by rfl) 5 i0 (.int .u8 0) 1 1 Try.underlying22 hi hz0 hz1 hz2 rfl (by omega) a n n (zs.map (Value.int .u8)) (by rfl) HNo.out (by rw [List.length_map, HN.out]; omega) (HO.out _ (hb.alloc hb.size _)) ⟨w2.heap.size, 0, none⟩ 4 4 [.int .u8 ((S : Int) % 256), .int .u8 ((S : Int) / 256 % 256), .int .u8 ((S : Int) / 65536 % 256), .int .u8 ((S : Int) / 16777216)] (by rfl) (by rfl) ?c1 ?c2 (by omega) hn1 (by omega) ?_)
  case c1 =>
    intro j u hj
    rw [Addr.add_lit, Nat.zero_add, cell_of_row _ _ _ _ _ _ (heap_alloc_new _ _)]
    rw [← hj]
    simp
  case c2 =>
    intro u hu
    simp only [List.mem_cons, List.not_mem_nil, or_false] at hu
    rcases hu with rfl | rfl | rfl | rfl <;> rfl
  intro v' w' hown hgrow
  go_wp2
  go_ret
  refine ⟨v', rfl, ownsRow_lower (b := w2.heap.size + 1) ?_ (by omega), (hb.alloc hb.size _).grown hgrow (by rw [World.size_alloc]; omega) (by intro g hg; cases hg)⟩
  rw [HL.out]
  simpa [HN.out] using hown
end Go.Proofs.Ytbhdffefjphphaa
