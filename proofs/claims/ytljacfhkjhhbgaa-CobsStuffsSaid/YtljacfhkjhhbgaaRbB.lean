/-
  Contract of the document's Blocks.
-/
import Derived.Test.YtljacfhkjhhbgaaCobE
import Derived.Test.YtljacfhkjhhbgaaLists
namespace Go.Proofs.Ytljacfhkjhhbgaa
open Go.RowKit
set_option maxRecDepth 100000

theorem listInfo : (Try.prog.info? 22).map (fun i => (i.zero, i.size, i.bytes)) = some (some (.slice none 0 0), 1, 24) := by kernel_rfl
/-- what the document's Blocks leaves -/
def RBlk (w : World) (bl : List (List Int)) (e : Ending) (w' : World) : Prop := ∃ A c, e = .returned (.slice A bl.length c) ∧ bl.length ≤ c ∧ ListAt .u8 w' w'.heap.size A bl ∧ Below w.heap.size w w'
theorem RBlk.of {w w' : World} {bl O : List (List Int)} {N : List Int} {v u : Value} {xs : List Value} {te tl : TypeId} {base : Nat} (h : Ls te tl .u8 base w' v u xs O N) (he : bl = O) (hb : Below w.heap.size w w') : RBlk w bl (.returned v) w' := by
  subst he
  obtain ⟨A, c, rfl, hc, hl⟩ := h.lies
  exact ⟨A, c, rfl, hc, hl, hb⟩

theorem own_slice {w : World} {base : Nat} {e : TypeId} {size n : Nat} {v : Value} {xs : List Value} (h : w.ownsRow base e size v n xs) : ∃ A c, v = .slice A n c := by
  rcases h.2 with ⟨rfl, h0⟩ | ⟨g, cap, cur, rfl, _⟩
  · subst h0; exact ⟨none, 0, rfl⟩
  · exact ⟨_, cap, rfl⟩

set_option maxHeartbeats 4000000 in
theorem rblocks_any (a : Option Addr) (n c : Nat) (zs : List Int) (w : World) (hn : zs.length = n) (hl : n ≤ 1000000) (h1 : Nums .u8 w w.heap.size a zs) :
    Calls Try.prog 13 #[.slice a n c] w (RBlk w (Cb.blocks zs)) := by
  obtain ⟨i0, hi, hz0, hz1, hz2⟩ := info_parts byteInfo
  obtain ⟨j0, hj, hj0, hj1, hj2⟩ := info_parts listInfo
  have HL := Lib.hid hn
  clear hn
  go_enter Try.func13, Try.ntmps13
  go_wp2
  go_loopw [3, 4, 5, 6] (fun v u ev iv wr => ∃ (k : Nat) (e : Bool) (xs : List Value) (O : List (List Int)) (N : List Int), k ≤ n ∧ iv = .int .i64 k ∧ ev = .bool e ∧ O.length ≤ k ∧ N.length < 254 ∧ Hid (Cb.NZ N) ∧ Hid (e = true → N = []) ∧ Hid (Cb.blocks zs = O ++ Cb.rem e (N ++ zs.drop k)) ∧ Hid (Ls 5 22 .u8 w.heap.size wr v u xs O N) ∧ Hid (Below w.heap.size w wr))
    (fun _ _ _ iv _ => n - (intOf iv).toNat)
  case atStart => exact ⟨0, false, [], [], [], by omega, rfl, rfl, by simp, by simp, fun c hc => by simp at hc, fun _ => rfl, by show _ = _; simp [Cb.rem_false], Ls.start _ _ _ _ _, Below.refl _ _⟩
  case round =>
    obtain ⟨k, e, xs, O, N, hk, rfl, rfl, hOk, hN4, HN, HEm, HB, HLs, HBe⟩ := hrel
    by_cases hlt : k < n
    · obtain ⟨z, hzk⟩ : ∃ z, zs[k]? = some z := ⟨_, List.getElem?_eq_getElem (by rw [HL.out]; exact hlt)⟩
      have hbe := HBe.out
      obtain ⟨b1, o1, rfl, hb1, hc1⟩ := (h1.below hbe).open hzk
      have hlt' : (k : Int) < (n : Int) := by omega
      have hdrop : zs.drop k = z :: zs.drop (k + 1) := by
        rw [List.getElem?_eq_getElem (by rw [HL.out]; exact hlt)] at hzk
        injection hzk with hzk
        rw [← hzk, List.getElem_cons_drop]
      have hbz : Cb.blocks zs = O ++ Cb.blocks (N ++ z :: zs.drop (k + 1)) := by rw [HB.out, hdrop, Cb.rem_cons _ _ (by simp)]
      have hsz := hbe.size
      by_cases hz00 : z = 0
      · have HB2 : Hid (Cb.blocks zs = (O ++ [N]) ++ Cb.rem false ([] ++ zs.drop (k + 1))) := by
          show _ = _
          rw [hbz, hz00, Cb.blocks_nought HN.out hN4, Cb.rem_false]; simp
        subst hz00
        clear hbz hdrop hzk
        obtain ⟨Au, cu, rfl⟩ := own_slice HLs.out.now
        have HX1 : Hid (O.length + 1 ≤ maxLen) := by show _ ≤ _; unfold maxLen; omega
        have HX2 : Hid ((O.length + 1) * 24 ≤ 140737488355328) := by show _ ≤ _; omega
        have HX3 : Hid (w.heap.size ≤ (wr.alloc (.cells #[.slice Au N.length cu] 22)).heap.size) := by show _ ≤ _; rw [World.size_alloc]; omega
        go_wp2_with (at_builtin; refine wpList_append_own_at _ rfl (.tmp 18) (.tmp 20) 30 rfl w.heap.size 22 j0 (.slice none 0 0) 1 24 Try.underlying30 hj hj0 hj1 hj2 rfl (by decide) _ _ _ rfl (HLs.out.out.alloc _) ⟨wr.heap.size, 0, none⟩ 1 1 [_] rfl rfl (cell_one_new _ _ _) (by simp [Value.oneCell']) HX1.out HX2.out HX3.out ?_)
        intro v1 w1 hown hg _ _
        have HL1 := Lib.hid (HLs.out.push (by decide) hown hg)
        have HB1 := Lib.hid (((hbe.alloc hsz _).grown hg (by rw [World.size_alloc]; omega) (fun g hk => (HLs.out.out.lt g hk).1)))
        clear hown hg
        go_wp2
        go_roundw
        case rel => exact ⟨k + 1, false, _, O ++ [N], [], by omega, by go_num, rfl, by rw [List.length_append, List.length_singleton]; omega, by simp, fun c hc => by simp at hc, fun _ => rfl, HB2, HL1, HB1⟩
        case measure => simp [intOf]; omega
      · have hz01 : (z == 0) = false := by simp [hz00]
        have hz02 : ¬ z = 0 := hz00
        have HNz : Hid (Cb.NZ (N ++ [z])) := HN.out.append (fun c hc => by simp at hc; subst hc; exact hz00)
        have HX1 : Hid (N.length + 1 ≤ maxLen) := by show _ ≤ _; unfold maxLen; omega
        have HX2 : Hid ((N.length + 1) * 1 ≤ 140737488355328) := by show _ ≤ _; omega
        have HX3 : Hid (w.heap.size ≤ (wr.alloc (.cells #[.int .u8 z] 5)).heap.size) := by show _ ≤ _; rw [World.size_alloc]; omega
        have HBz := Lib.hid hbz
        clear hbz hdrop hzk hz00
        go_wp2_with (at_builtin; refine wpList_append_own_at _ rfl (.tmp 22) (.tmp 27) 22 rfl w.heap.size 5 i0 (.int .u8 0) 1 1 Try.underlying22 hi hz0 hz1 hz2 rfl (by decide) _ _ _ rfl (HLs.out.now.alloc _) ⟨wr.heap.size, 0, none⟩ 1 1 [.int .u8 z] rfl rfl (cell_one_new _ _ _) (by simp [Value.oneCell']) HX1.out HX2.out HX3.out ?_)
        intro u1 w1 hown hg _ hat
        obtain ⟨g1, cap1, rfl⟩ := ownsRow_succ hown
        have HL1 := Lib.hid (HLs.out.grow (z := z) (by decide) hown hg (by rw [World.size_alloc]; exact hat))
        have HB1 := Lib.hid (((hbe.alloc hsz _).grown hg (by rw [World.size_alloc]; omega) (fun g hk => (HLs.out.now.lt g hk).1)))
        clear hown hg hat HX1 HX2 HX3 HLs HBe
        have hs1 := HB1.out.size
        by_cases h254 : N.length + 1 = 254
        · have h255 : (N.length : Int) + 1 = 254 := by omega
          have HB2 : Hid (Cb.blocks zs = (O ++ [N ++ [z]]) ++ Cb.rem true ([] ++ zs.drop (k + 1))) := by
            show _ = _
            rw [HBz.out, show N ++ z :: zs.drop (k + 1) = (N ++ [z]) ++ zs.drop (k + 1) by simp, Cb.rem_full HNz.out (by simp; omega)]
            simp
          have H254 := Lib.hid h254
          clear h254
          have HX1 : Hid (O.length + 1 ≤ maxLen) := by show _ ≤ _; unfold maxLen; omega
          have HX2 : Hid ((O.length + 1) * 24 ≤ 140737488355328) := by show _ ≤ _; omega
          have HX3 : Hid (w.heap.size ≤ (w1.alloc (.cells #[.slice (some ⟨g1, 0, none⟩) (N.length + 1) cap1] 22)).heap.size) := by show _ ≤ _; rw [World.size_alloc]; omega
          go_wp2_with (at_builtin; refine wpList_append_own_at _ rfl (.tmp 32) (.tmp 34) 30 rfl w.heap.size 22 j0 (.slice none 0 0) 1 24 Try.underlying30 hj hj0 hj1 hj2 rfl (by decide) _ _ _ rfl (HL1.out.out.alloc _) ⟨w1.heap.size, 0, none⟩ 1 1 [_] rfl rfl (cell_one_new _ _ _) (by simp [Value.oneCell']) HX1.out HX2.out HX3.out ?_)
          intro v2 w2 hown hg _ _
          have HL2 := Lib.hid (HL1.out.push (by decide) hown hg)
          have HB3 := Lib.hid (((HB1.out.alloc hs1 _).grown hg (by rw [World.size_alloc]; omega) (fun g hk => (HL1.out.out.lt g hk).1)))
          clear hown hg
          go_wp2
          go_roundw
          case rel => exact ⟨k + 1, true, _, O ++ [N ++ [z]], [], by omega, by go_num, rfl, by rw [List.length_append, List.length_singleton]; omega, by simp, fun c hc => by simp at hc, fun _ => rfl, HB2, HL2, HB3⟩
          case measure => simp [intOf]; omega
        · have h255 : ¬ (N.length : Int) + 1 = 254 := by omega
          have h256 : ((N.length : Int) + 1 == 254) = false := by rw [beq_eq_false_iff_ne]; exact h255
          have HB2 : Hid (Cb.blocks zs = O ++ Cb.rem false ((N ++ [z]) ++ zs.drop (k + 1))) := by
            show _ = _
            rw [HBz.out, Cb.rem_false]; simp
          have H254 := Lib.hid h254
          clear h254
          go_wp2
          go_roundw
          case rel => exact ⟨k + 1, false, _, O, N ++ [z], by omega, by go_num, rfl, by omega, by rw [List.length_append, List.length_singleton]; have := H254.out; omega, HNz, fun h => by simp at h, HB2, HL1, HB1⟩
          case measure => simp [intOf]; omega
    · have hkn : k = n := by omega
      have hdr : zs.drop k = [] := List.drop_eq_nil_of_le (by rw [HL.out]; omega)
      have hsz := HBe.out.size
      cases e with
      | true =>
        have HF : Hid (Cb.blocks zs = O) := by
          show _ = _
          rw [HB.out, HEm.out rfl, hdr]; simp [Cb.rem]
        clear hdr
        go_wp2
        go_ret
        exact RBlk.of HLs.out HF.out HBe.out
      | false =>
        have HF : Hid (Cb.blocks zs = O ++ [N]) := by
          show _ = _
          rw [HB.out, hdr, Cb.rem_false, List.append_nil, Cb.blocks_last HN.out (by omega)]
        obtain ⟨Au, cu, rfl⟩ := own_slice HLs.out.now
        clear hdr
        have HX1 : Hid (O.length + 1 ≤ maxLen) := by show _ ≤ _; unfold maxLen; omega
        have HX2 : Hid ((O.length + 1) * 24 ≤ 140737488355328) := by show _ ≤ _; omega
        have HX3 : Hid (w.heap.size ≤ (wr.alloc (.cells #[.slice Au N.length cu] 22)).heap.size) := by show _ ≤ _; rw [World.size_alloc]; omega
        go_wp2_with (at_builtin; refine wpList_append_own_at _ rfl (.tmp 38) (.tmp 40) 30 rfl w.heap.size 22 j0 (.slice none 0 0) 1 24 Try.underlying30 hj hj0 hj1 hj2 rfl (by decide) _ _ _ rfl (HLs.out.out.alloc _) ⟨wr.heap.size, 0, none⟩ 1 1 [_] rfl rfl (cell_one_new _ _ _) (by simp [Value.oneCell']) HX1.out HX2.out HX3.out ?_)
        intro v1 w1 hown hg _ _
        have HL1 := Lib.hid (HLs.out.push (by decide) hown hg)
        have HB1 := Lib.hid (((HBe.out.alloc hsz _).grown hg (by rw [World.size_alloc]; omega) (fun g hk => (HLs.out.out.lt g hk).1)))
        clear hown hg
        go_wp2
        go_ret
        exact RBlk.of HL1.out HF.out HB1.out
end Go.Proofs.Ytljacfhkjhhbgaa
