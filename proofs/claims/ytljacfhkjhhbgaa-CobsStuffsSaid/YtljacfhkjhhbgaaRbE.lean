/-
  Contract of the document's Encode.
-/
import Derived.Test.YtljacfhkjhhbgaaRbB
import Derived.Test.YtljacfhkjhhbgaaIn
namespace Go.Proofs.Ytljacfhkjhhbgaa
open Go.RowKit
set_option maxRecDepth 100000

theorem blocks_254 (zs : List Int) : ∀ b ∈ Cb.blocks zs, b.length ≤ 254 := by
  refine Cb.along (p := fun zs => ∀ b ∈ Cb.blocks zs, b.length ≤ 254) ?_ ?_ ?_ zs
  · intro b h hl x hx
    rw [Cb.blocks_last h hl] at hx
    simp at hx; subst hx; exact hl
  · intro b r h hl ih x hx
    rw [Cb.blocks_nought h hl] at hx
    rcases List.mem_cons.1 hx with rfl | hx
    · omega
    · exact ih x hx
  · intro b r h hl hr ih x hx
    rw [Cb.blocks_full h hl hr] at hx
    rcases List.mem_cons.1 hx with rfl | hx
    · omega
    · exact ih x hx
theorem join_pre {bs ys : List (List Int)} (h : bs <+: ys) : (Cb.join bs).length ≤ (Cb.join ys).length := by
  obtain ⟨t, rfl⟩ := h
  rw [Cb.join_append, List.length_append]
  omega
theorem join_take {bl : List (List Int)} {i : Nat} {b : List Int} (h : bl[i]? = some b) : Cb.join (bl.take (i + 1)) = (Cb.join (bl.take i) ++ [(b.length : Int) + 1]) ++ b := by
  rw [List.take_add_one, h, Cb.join_append]
  simp [Cb.join, Cb.one]

set_option maxHeartbeats 4000000 in
theorem rencode_any (a : Option Addr) (n c : Nat) (zs : List Int) (w : World) (hn : zs.length = n) (hl : n ≤ 1000000) (h1 : Nums .u8 w w.heap.size a zs) :
    Calls Try.prog 8 #[.slice a n c] w fun e w' => ∃ v, e = .returned v ∧ MadeK 5 .u8 w w' (Cb.enc zs) v := by
  obtain ⟨i0, hi, hz0, hz1, hz2⟩ := info_parts byteInfo
  have K := rblocks_any a n c zs w hn hl h1
  have hbn := blocks_many zs
  have H4 := Lib.hid (blocks_254 zs)
  have HE : Hid (Cb.enc zs = Cb.join (Cb.blocks zs)) := rfl
  have hE1 := (Cb.enc_len zs).2.1
  have HJ : ∀ i, Hid ((Cb.join ((Cb.blocks zs).take i)).length ≤ (Cb.enc zs).length) := fun i => join_pre (List.take_prefix _ _)
  generalize Cb.blocks zs = bl at *
  go_enter Try.func8, Try.ntmps8
  go_wp2_with fail
  refine K.mono ?_
  rintro e w1 ⟨A, c1, rfl, hc1, hL, hb1⟩
  clear K
  obtain ⟨M, hM⟩ : ∃ M, bl.length = M := ⟨_, rfl⟩
  rw [hM] at hc1 hbn ⊢
  have HM := Lib.hid hM
  have HB1 := Lib.hid hb1
  have HL := Lib.hid hL
  have hE2 : (Cb.enc zs).length ≤ 3000000 := by omega
  clear hM hL hE1 h1
  go_wp2
  go_loopw [3, 5] (fun v iv wr => ∃ k : Nat, k ≤ M ∧ iv = .int .i64 k ∧ Hid (MadeK 5 .u8 w1 wr (Cb.join (bl.take k)) v)) (fun _ iv _ => M - (intOf iv).toNat)
  case atStart => exact ⟨0, by omega, rfl, by show MadeK _ _ _ _ _ _; rw [List.take_zero]; exact MadeK.nil _ _ (Below.refl _ _)⟩
  case round =>
    obtain ⟨k, hk, rfl, HMd⟩ := hrel
    have hbe := HMd.out.2
    have hsz := hbe.size
    have hJk := (HJ k).out
    by_cases hlt : k < M
    · obtain ⟨b, hbk⟩ : ∃ b, bl[k]? = some b := ⟨_, List.getElem?_eq_getElem (by rw [HM.out]; exact hlt)⟩
      obtain ⟨g, Ai, ci, rfl, hg, hcell, hbl, hnb⟩ := (HL.out.below hbe) k b hbk
      have hb4 := H4.out b (List.mem_of_getElem? hbk)
      have HT := Lib.hid (join_take hbk)
      have hJk1 := (HJ (k + 1)).out
      rw [HT.out] at hJk1
      simp only [List.length_append, List.length_singleton] at hJk1
      have hlt' : (k : Int) < (M : Int) := by omega
      have hMc : (M : Int) ≤ (c1 : Int) := by omega
      have hb5 : (b.length : Int) ≤ 254 := by omega
      obtain ⟨q, hq⟩ : ∃ q, b.length = q := ⟨_, rfl⟩
      have HQ := Lib.hid hq
      rw [hq] at hcell hbl hb4 hJk1 HT hb5
      have HBK := Lib.hid hbk
      have HZ1 := Lib.hid (Nums.new .u8 wr 5 [(q : Int) + 1] #[.int .u8 ((q : Int) + 1)] rfl)
      have HX1 : Hid ((Cb.join (bl.take k)).length + 1 ≤ maxLen) := by show _ ≤ _; unfold maxLen; omega
      have HX2 : Hid (((Cb.join (bl.take k)).length + 1) * 1 ≤ 140737488355328) := by show _ ≤ _; omega
      have HX3 : Hid (w1.heap.size ≤ (wr.alloc (.cells #[.int .u8 ((q : Int) + 1)] 5)).heap.size) := by show _ ≤ _; rw [World.size_alloc]; omega
      clear hnb hq hbk
      go_wp2_with (at_builtin; refine wpList_append_any rfl (.tmp 14) (.tmp 22) 22 rfl w1.heap.size 5 i0 (.int .u8 0) 1 Try.underlying22 hi hz0 hz1 hz2 rfl .u8 (Cb.join (bl.take k)) [(q : Int) + 1] _ rfl (HMd.out.1.alloc _) _ 1 1 _ rfl rfl HZ1.out HX1.out HX2.out HX3.out ?_)
      intro v2 w2 hown hg2
      have HM2 := Lib.hid ((HMd.out.later (.cells #[.int .u8 ((q : Int) + 1)] 5)).more (zs := [(q : Int) + 1]) (v' := v2) (by simpa using hown) hg2)
      clear hown hg2 HX1 HX2 HX3 HZ1 hcell
      have hbe2 := HM2.out.2
      obtain ⟨g', Ai', ci', e', hg', hcell2, _, hnb2⟩ := (HL.out.below hbe2) k b (by have := HQ.out; exact HBK.out)
      injection e' with e'
      injection e' with e'
      subst e'
      rw [HQ.out] at hcell2
      have HNb2 := Lib.hid hnb2
      clear hnb2
      have hJl : (Cb.join (bl.take k) ++ [(q : Int) + 1]).length = (Cb.join (bl.take k)).length + 1 := by simp
      have HX1 : Hid ((Cb.join (bl.take k) ++ [(q : Int) + 1]).length + q ≤ maxLen) := by show _ ≤ _; rw [hJl]; unfold maxLen; omega
      have HX2 : Hid (((Cb.join (bl.take k) ++ [(q : Int) + 1]).length + q) * 1 ≤ 140737488355328) := by show _ ≤ _; rw [hJl]; omega
      have hsz2 := hbe2.size
      clear hJl
      go_wp2_with (at_builtin; refine wpList_append_any rfl (.tmp 24) (.tmp 28) 22 rfl w1.heap.size 5 i0 (.int .u8 0) 1 Try.underlying22 hi hz0 hz1 hz2 rfl .u8 (Cb.join (bl.take k) ++ [(q : Int) + 1]) b _ rfl HM2.out.1 _ q _ _ rfl HQ.out HNb2.out HX1.out HX2.out hsz2 ?_)
      intro v3 w3 hown hg3
      have HM3 := Lib.hid (HM2.out.more (zs := b) (v' := v3) (by simpa [Nat.add_assoc] using hown) hg3)
      clear hown hg3
      go_wp2
      go_roundw
      case rel => exact ⟨k + 1, by omega, by go_num, by show MadeK _ _ _ _ _ _; rw [HT.out]; exact HM3.out⟩
      case measure => simp [intOf]; omega
    · have HF : Hid (Cb.join (bl.take k) = Cb.enc zs) := by show _ = _; rw [HE.out, List.take_of_length_le (by rw [HM.out]; omega)]
      go_wp2
      go_ret
      exact ⟨_, rfl, by rw [← HF.out]; exact HMd.out.less HB1.out⟩
end Go.Proofs.Ytljacfhkjhhbgaa
