/-
  Contract of a window's Missing.
-/
import Derived.Test.YtklkfajbfpihfaaWinI
import Derived.Test.YtklkfajbfpihfaaWinR
import Derived.Test.YtklkfajbfpihfaaApN
namespace Go.Proofs.Ytklkfajbfpihfaa
open Go.RowKit Go.Shelf
set_option maxRecDepth 100000
attribute [local go_sem] Oper.semAt_some

/-- a block of another type holds no row's numbers -/
theorem blk_not_row {W : World} {b base n : Nat} {cs : Array Value} {t e : TypeId} {v : Value} {xs : List Value} (h : W.heap[b]? = some (.cells cs t (0, 0))) (hte : t ≠ e) (hr : W.ownsRow base e 1 v n xs) : v.ownBlock ≠ some b := fun e' => by
  rcases hr.2 with ⟨rfl, _⟩ | ⟨g, cap, cur, rfl, _, hh, _⟩
  · simp [Value.ownBlock] at e'
  · simp [Value.ownBlock] at e'
    subst e'
    rw [h] at hh
    injection hh with hh
    injection hh with _ ht
    exact hte ht
/-- behind j numbers that were given: box b0 holds the list of the first j; the row and its side lie in the blocks b0 + 1, b0 + 2 -/
structure MsAt (w : World) (b0 : Nat) (t : Int) (q : Nat) (LM : List Int) (j : Nat) (V : World) : Prop where
  out : ∃ v, Boxed V b0 23 v ∧ V.ownsRow w.heap.size 22 1 v (LM.take j).length ((LM.take j).map (Value.int .u32))
  row : V.heap[b0 + 1]? = some (.cells #[.int .u32 t, .int .u64 (q : Int)] 54 (0, 0))
  side : Boxed V (b0 + 2) 4 (.bool false)
  below : Below w.heap.size w V
section
variable {w V : World} {b0 j : Nat} {t : Int} {q : Nat} {LM : List Int}
theorem MsAt.put (h : MsAt w b0 t q LM j V) (hb : w.heap.size = b0) {l : Nat} {o : Obj} (hl : b0 + 3 ≤ l) (ho : V.heap[l]? = some o) (hc : o.isCells = false) (o' : Obj) : MsAt w b0 t q LM j (V.putObj l o') := by
  obtain ⟨v, h1, h2⟩ := h.out
  exact ⟨⟨v, (World.putObj_heap_other (by omega)).trans h1, ownsRow_putObj h2 _ ho hc⟩, (World.putObj_heap_other (by omega)).trans h.row, (World.putObj_heap_other (by omega)).trans h.side, h.below.trans (below_put V o' (by omega))⟩
theorem MsAt.drewN (h : MsAt w b0 t q LM j V) (d : Nat) : MsAt w b0 t q LM j (V.drewN d) := ⟨h.out, h.row, h.side, below_drewN h.below d⟩
end
set_option maxHeartbeats 4000000 in
theorem wmissing_any {w : World} {b : Nat} {t : Int} {q : Nat} (h : WinAt w b t q) (ht : 0 ≤ t ∧ t < 4294967296) (hq : q < 18446744073709551616) :
    Calls Try.prog 18 #[.pointer (some ⟨b, 0, none⟩)] w fun e w' => ∃ A c, e = .returned (.slice A (Wn.gv t q false 64).length c) ∧ (Wn.gv t q false 64).length ≤ c ∧ Nums .u32 w' w'.heap.size A (Wn.gv t q false 64).reverse ∧ Below w.heap.size w w' := by
  obtain ⟨j0, hi, hj0, hj1, hj2⟩ := info_parts wu32Info
  obtain ⟨LM, hLM⟩ : ∃ LM, Wn.gv t q false 64 = LM := ⟨_, rfl⟩
  have hLlen : LM.length = Wn.cnt q false 64 := by rw [← hLM, Wn.gv_len]
  have hLat : ∀ k, k < 64 → q.testBit k = false → LM[Wn.cnt q false k]? = some (Sr.add t (-(k : Int))) := fun k hk hb => by rw [← hLM]; exact Wn.gv_at t hb hk
  have hL64 : LM.length ≤ 64 := by rw [hLlen]; exact Wn.cnt_le q false 64
  rw [hLM]
  clear hLM
  refine (callsIn_wide (n := 3)).1 ?_
  refine callsIn_of_wp_marks Try.func18 rfl trivial ?_ rfl
  simp only [Try.ntmps18, List.size_toArray, List.length_cons, List.length_nil, Nat.reduceAdd, Nat.reduceSub, Array.replicate_succ, Array.replicate_zero, List.push_toArray, List.append_toArray, List.nil_append, List.cons_append]
  obtain ⟨w1, hw1⟩ : ∃ w1, w.alloc (Obj.cells #[Value.slice none 0 0] 23) = w1 := ⟨_, rfl⟩
  have hs1 : w1.heap.size = w.heap.size + 1 := by rw [← hw1]; simp
  have hb1 : Below w.heap.size w w1 := by rw [← hw1]; exact (Below.refl _ w).alloc (Nat.le_refl _) _
  have bL1 : Boxed w1 w.heap.size 23 (.slice none 0 0) := by rw [← hw1]; exact Boxed.new w _ _
  obtain ⟨c0, c1⟩ := (h.below hb1).cells
  obtain ⟨d0, d1⟩ := h.cells
  have K := numbers_any t q false w1
  unfold rowV at K
  obtain ⟨b0, hb0⟩ : ∃ b0, w.heap.size = b0 := ⟨_, rfl⟩
  have HB0 := Lib.hid hb0
  gi_wp2_with fail
  clear hw1 c0 c1 d0 d1
  refine ⟨trivial, ?_⟩
  refine (callsIn_wide.2 K).mono ?_
  rintro e w2 ⟨rfl, hw2⟩
  clear K
  have hs2 : w2.heap.size = w1.heap.size + 2 := by rw [hw2]; simp
  have bB2 : w2.heap[w1.heap.size]? = some (.cells #[.int .u32 t, .int .u64 (q : Int)] 54 (0, 0)) := by
    rw [hw2]; exact (Below.heap_alloc _ _ _ (by simp)).trans (World.alloc_heap_new _ _)
  have bC2 : Boxed w2 (w1.heap.size + 1) 4 (.bool false) := by
    rw [hw2]
    have := Boxed.new (w1.alloc (.cells #[.int .u32 t, .int .u64 (q : Int)] 54)) 4 (.bool false)
    rwa [World.size_alloc] at this
  have hb12 : Below w1.heap.size w1 w2 := by rw [hw2]; exact ((Below.refl _ w1).alloc (Nat.le_refl _) _).alloc (by simp) _
  clear hw2
  have hb2 : Below w.heap.size w w2 := hb1.trans (hb12.mono (by omega))
  have bL2 : Boxed w2 w.heap.size 23 (.slice none 0 0) := (hb12.block _ (by omega)).trans bL1
  rw [hb0] at hs1 bL2
  rw [hs1] at bB2 bC2 hs2 ⊢
  clear hb1 hb12 bL1 hs1
  have hM0 : MsAt w b0 t q LM 0 w2 := ⟨⟨_, bL2, by rw [List.take_zero]; exact World.ownsRow_nil _ _ _ _⟩, bB2, bC2, hb2⟩
  clear bL2 bB2 bC2 hb2 h
  gi_wp2_with fail
  refine range_stops rfl (by omega) (gf := 31) (lb := #[.pointer (some ⟨b0 + 1, 0, none⟩), .pointer (some ⟨b0 + 1 + 1, 0, none⟩)]) rfl trivial (enters_of Try.func31 (by kernel_rfl) rfl)
    (fun x : Int => #[Value.int .u32 x]) (fun _ => rfl)
    (fun j x V => MsAt w b0 t q LM j V ∧ LM[j]? = some x)
    (fun j V => MsAt w b0 t q LM j V)
    (fun _ _ => False) (fun _ _ => True) LM.length
    (fun j x V l o o' h hl ho hc' => ⟨h.1.put HB0.out (by omega) ho hc' o', h.2⟩)
    (fun j V l o o' h hl ho hc' => h.put HB0.out (by omega) ho hc' o')
    (fun _ _ _ _ _ h _ _ _ => h)
    (fun _ _ _ _ _ => trivial) (fun _ _ _ _ _ _ _ => trivial)
    (fun o => ?_) ?a1 ?assign ?body ?iter ?done ?stop
  · obtain ⟨v, h1, h2⟩ := hM0.out
    exact ⟨⟨v, (h1.alloc _).alloc _, (h2.alloc _).alloc _⟩, (Below.heap_alloc _ _ _ (by simp; omega)).trans ((Below.heap_alloc _ _ _ (by omega)).trans hM0.row), (hM0.side.alloc _).alloc _, (hM0.below.alloc hM0.below.size _).alloc (by have := hM0.below.size; simp; omega) _⟩
  case assign =>
    intro l x V K hK
    gi_wp2
    exact hK
  case body =>
    rintro l j x V hl ⟨hM, hx⟩ hj
    obtain ⟨v, hO, hR⟩ := hM.out
    have hrow := hM.row
    have hside := hM.side
    have hbe := hM.below
    have kO := hO.cell
    have hszV := hO.lt
    have hbs := hbe.size
    have hlt : (LM.take j).length ≤ 64 := by rw [List.length_take]; omega
    have hnx : LM.take (j + 1) = LM.take j ++ [x] := by rw [List.take_add_one, hx]; rfl
    obtain ⟨L0, hL0⟩ : ∃ L0, LM.take j = L0 := ⟨_, rfl⟩
    rw [hL0] at hR hlt hnx
    have HNX := Lib.hid hnx
    clear hL0 hLlen
    have HN1 := Lib.hid (Nums.new .u32 V 22 [x] #[.int .u32 x] rfl)
    have HO := Lib.hid hO
    have HR := Lib.hid hR
    have HRow := Lib.hid hrow
    have HS := Lib.hid hside
    have HB := Lib.hid hbe
    clear hM hM0 hO hR hrow hside hbe hnx hb0 hx hLat
    gi_wp2_with (gi_at_builtin; refine wpListIn_append_any rfl (.tmp 13) (.tmp 15) 23 rfl w.heap.size 22 j0 (.int .u32 0) 4 Try.underlying23 hi hj0 hj1 hj2 rfl .u32 _ _ [x] v rfl (HR.out.alloc _) (some ⟨V.heap.size, 0, none⟩) 1 1 _ rfl rfl HN1.out ?c1 ?c2 ?c3 ?_)
    case c1 => unfold maxLen; omega
    case c2 => omega
    case c3 => rw [World.size_alloc]; omega
    intro v1 w4 hown1 hg1
    have hg2 := grown_of_alloc hg1
    obtain ⟨g1, cap1, rfl⟩ := ownsRow_succ hown1
    have hnr : some b0 ≠ v.ownBlock := HO.out.not_row (by decide) HR.out
    have bO4 : Boxed w4 b0 23 v := HO.out.kept hg2 hnr
    have kO4 := bO4.cell
    have fO4 := bO4.frozen
    have hnr4 : some b0 ≠ (Value.slice (some ⟨g1, 0, none⟩) (L0.length + 1) cap1).ownBlock := bO4.not_row (show (23 : Nat) ≠ 22 by decide) hown1
    have hrow4 : w4.heap[b0 + 1]? = some (.cells #[.int .u32 t, .int .u64 (q : Int)] 54 (0, 0)) := (hg2.block (b0 + 1) (Array.getElem?_eq_some_iff.1 HRow.out).1 (fun e => blk_not_row HRow.out (by decide) HR.out e.symm)).trans HRow.out
    have hside4 : Boxed w4 (b0 + 2) 4 (.bool false) := HS.out.kept hg2 (HS.out.not_row (by decide) HR.out)
    have hbe4 : Below w.heap.size w w4 := HB.out.grown hg2 hbs (fun g hg => (HR.out.lt g hg).1)
    have hko : KeepsOthers V w4 := KeepsOthers.of_grownBy hg2 fun j o ej hj => by
      rcases HR.out.2 with ⟨rfl, _⟩ | ⟨g, cap, cur, rfl, _, hgb, _⟩
      · simp [Value.ownBlock] at ej
      · obtain rfl : g = j := by simpa [Value.ownBlock] using ej
        rw [hgb] at hj; cases hj; rfl
    have HF : Hid (KeepsFrom w2.heap.size V (w4.setCell ⟨b0, 0, none⟩ (.slice (some ⟨g1, 0, none⟩) (L0.length + 1) cap1)) ∧ MsAt w b0 t q LM (j + 1) (w4.setCell ⟨b0, 0, none⟩ (.slice (some ⟨g1, 0, none⟩) (L0.length + 1) cap1))) := by
      refine ⟨(hko.trans (KeepsOthers.setCell _ _ _)).from _, ⟨_, bO4.set _, ?_⟩, ?_, hside4.other (by omega) _, hbe4.setCell (p := ⟨b0, 0, none⟩) (Nat.le_of_eq HB0.out) _⟩
      · rw [HNX.out, List.length_append, List.map_append]
        exact hown1.kept (grownBy_setCell' w4 b0 _) (.inr hnr4.symm)
      · exact (Below.heap_setCell w4 ⟨b0, 0, none⟩ _ (b0 + 1) (by simp)).trans hrow4
    clear hown1 hg1 hg2 hrow4 hside4 hbe4 hko hnr hnr4 bO4 HN1 HO HR HRow HS HB
    gi_wp2
    exact ⟨HF.out.1, HF.out.2, trivial⟩
  case iter =>
    intro Bk X l V hBk hBlt hX hlw hD hB hY
    refine (numbers_in 2 (by omega) 1 l (b0 + 1) (b0 + 1 + 1) t q false ht hq (fun k V => MsAt w b0 t q LM (Wn.cnt q false k) V ∧ Bk V) X ?_ ?_ ?_ ?_ V ⟨hD, hB⟩).mono ?_
    · rintro k W ⟨h1, _⟩
      have h2 := h1.row
      exact ⟨by simp [World.cell?, h2], by simp [World.cell?, h2], h1.side.cell⟩
    · rintro k W d ⟨h1, h2⟩
      exact ⟨h1.drewN d, hBk W _ h2 (Nat.le_refl _) (fun _ _ _ => rfl)⟩
    · rintro k W ⟨h1, h2⟩ hk hb
      rw [Wn.cnt_stay hb]
      exact ⟨h1, h2⟩
    · rintro k W ⟨h1, h2⟩ hk hb
      refine (hY _ _ W ⟨h1, hLat k hk hb⟩ h2 (by rw [hLlen]; have := Wn.cnt_mono q false (show k + 1 ≤ 64 by omega); rw [Wn.cnt_step hb] at this; omega)).mono ?_
      rw [Wn.cnt_step hb]
      rintro e V2 (⟨rfl, hd, _, _⟩ | ⟨rfl, hx, _⟩)
      · exact .inl ⟨rfl, hd⟩
      · exact .inr ⟨rfl, hx⟩
    · rw [hLlen]
      exact fun _ _ h => h
  case done =>
    rintro D V hD hM hK
    obtain ⟨v, hO, hR⟩ := hM.out
    rw [List.take_length] at hR
    have hbe := hM.below
    have kO := hO.cell
    have hbv := hbe.size
    have hwD : w.heap.size ≤ D := by omega
    have hDlt := (Array.getElem?_eq_some_iff.1 hK).1
    have HBE := Lib.hid hbe
    have HK := Lib.hid hK
    have HO := Lib.hid hO
    clear hM hM0 hLat hb0 hbe hK hO
    rcases Nat.eq_zero_or_pos LM.length with h0 | h0
    · have hL0 : LM = [] := List.eq_nil_of_length_eq_zero h0
      subst hL0
      obtain ⟨A, c, rfl, hc, _⟩ := own_len hR
      rw [List.length_nil] at *
      clear hR hL64 hLlen h0 hc
      gi_wp2_with fail
      refine ⟨trivial, ?_⟩
      refine (callsIn_wide.2 (reverse_none A c V)).mono ?_
      rintro e V1 ⟨⟨x, rfl⟩, hV⟩
      rw [hV]
      clear hV
      gi_wp2
      have hK := HK.out
      refine ⟨by simp, .inl ⟨_, _, rfl, run_takeDeferred hK, ?_⟩⟩
      refine ⟨_, results_tmp rfl _ _ _, A, c, rfl, Nat.zero_le _, Nums.nil, ?_⟩
      exact HBE.out.trans (below_put (B := w.heap.size) _ (.deferred none) hwD)
    · obtain ⟨A, c, rfl, hc, _⟩ := own_len hR
      obtain ⟨g, rfl, hg, _, hrow⟩ := RowU.of_own hR h0
      have K := reverse_any g c LM LM.length V rfl (by omega) hc hrow
      have hgb : ¬ b0 = g := fun e => by
        subst e
        obtain ⟨cs, hh, _⟩ := hrow.row
        have h1 : V.heap[b0]? = _ := HO.out
        rw [hh] at h1
        injection h1 with h1
        injection h1 with _ ht
        exact absurd ht (by decide)
      have hgD : ¬ D = g := fun e => by
        subst e
        obtain ⟨cs, hh, _⟩ := hrow.row
        rw [hh] at HK
        cases HK.out
      clear hR hrow
      obtain ⟨r, hr⟩ : ∃ r, LM.length = r := ⟨_, rfl⟩
      rw [hr] at K hc kO HO
      have HRL := Lib.hid hr
      clear hr hL64 hLlen h0
      gi_wp2_with fail
      refine ⟨trivial, ?_⟩
      refine (callsIn_wide.2 K).mono ?_
      rintro e V1 ⟨⟨x, rfl⟩, hrw⟩
      have hO1 : Boxed V1 b0 23 (.slice (some ⟨g, 0, none⟩) r c) := (hrw.off.block b0 HO.out.lt hgb).trans HO.out
      have kO1 := hO1.cell
      have hK1 := (hrw.off.block D hDlt hgD).trans HK.out
      have hb1 : Below w.heap.size w V1 := HBE.out.trans (hrw.off.below (fun k hk => by omega) hbv)
      have hnum := Lib.hid hrw.nums
      have HB1 := Lib.hid hb1
      clear hrw K hO1 hb1 kO
      gi_wp2
      refine ⟨by simp, .inl ⟨_, _, rfl, run_takeDeferred hK1, ?_⟩⟩
      refine ⟨_, results_tmp rfl _ _ _, some ⟨g, 0, none⟩, c, by rw [HRL.out]; rfl, by rw [HRL.out]; exact hc, ?_, ?_⟩
      · rw [show (V1.putObj D (.deferred none)).heap.size = V1.heap.size by simp [World.putObj]]
        exact hnum.out.putObj hK1 rfl _
      · exact HB1.out.trans (below_put (B := w.heap.size) _ (.deferred none) hwD)
  case stop =>
    rintro D cd W' _ h _
    exact h.elim
end Go.Proofs.Ytklkfajbfpihfaa
