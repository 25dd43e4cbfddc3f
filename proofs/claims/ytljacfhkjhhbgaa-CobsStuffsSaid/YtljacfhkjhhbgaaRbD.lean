/-
  Contract of the document's Decode.
-/
import Derived.Test.YtljacfhkjhhbgaaRbE
import Derived.Test.YtljacfhkjhhbgaaCobK
namespace Go.Proofs.Ytljacfhkjhhbgaa
open Go.RowKit
set_option maxRecDepth 100000

theorem MadeK.on {e : TypeId} {k : IntKind} {w w1 w2 : World} {L : List Int} {v : Value} (h : MadeK e k w w1 L v) (hb : Below w1.heap.size w1 w2) : MadeK e k w w2 L v := by
  refine ⟨⟨h.1.1, ?_⟩, h.2.trans (hb.mono h.2.size)⟩
  rcases h.1.2 with h0 | ⟨g, cap, cur, hv, hg, hh, rest⟩
  · exact .inl h0
  · exact .inr ⟨g, cap, cur, hv, hg, (hb.block g (Array.getElem?_eq_some_iff.1 hh).1).trans hh, rest⟩

/-- what is known at a place of bytes, if some are these, stuffed: what has been decoded, and what is left; or all -/
def Dp (zs : List Int) (at_ : Nat) (o : List Int) : Prop :=
  ∀ x, Cb.enc x = zs → (at_ < zs.length ∧ ∃ y, x = o ++ y ∧ Cb.enc y = zs.drop at_) ∨ (at_ = zs.length ∧ x = o)
theorem Dp.start (zs : List Int) : Dp zs 0 [] := fun x h => .inl ⟨by
    have := Cb.enc_ne x
    rw [h] at this
    exact List.length_pos_iff.2 this, x, rfl, by simpa using h⟩
/-- one code on: q the code, the bytes behind it, and a 0, if the code is below 255 and something is left -/
theorem Dp.next {zs o : List Int} {p q : Nat} (h : Dp zs p o) (hp : p < zs.length) (hq : zs[p]? = some (q : Int)) :
    Dp zs (p + q) (if q < 255 ∧ p + q < zs.length then (o ++ (zs.drop (p + 1)).take (q - 1)) ++ [0] else o ++ (zs.drop (p + 1)).take (q - 1)) := by
  intro x hx
  rcases h x hx with ⟨_, y, hxy, hy⟩ | ⟨h0, _⟩
  · have hd : zs.drop p = (q : Int) :: zs.drop (p + 1) := by
      rw [List.getElem?_eq_getElem hp] at hq
      injection hq with hq
      rw [← hq, List.getElem_cons_drop]
    rw [hd] at hy
    have hlen : zs.length = p + (1 + (zs.drop (p + 1)).length) := by rw [List.length_drop]; omega
    have hdd : ∀ m, zs.drop (p + (m + 1)) = (zs.drop (p + 1)).drop m := fun m => by rw [List.drop_drop]; congr 1; omega
    rcases Cb.shape y with ⟨ha, hb⟩ | ⟨b, r, ha, hb, rfl⟩ | ⟨b, r, ha, hb, hc, rfl⟩
    · rw [Cb.enc_last ha hb, Cb.one] at hy
      injection hy with h1 h2
      have hq1 : q = y.length + 1 := by omega
      have hl2 := congrArg List.length h2
      rw [← h2, hq1, Nat.add_sub_cancel, List.take_length, if_neg (by omega)]
      exact .inr ⟨by omega, hxy⟩
    · rw [Cb.enc_nought ha hb, Cb.one, List.cons_append] at hy
      injection hy with h1 h2
      have hq1 : q = b.length + 1 := by omega
      have hl2 := congrArg List.length h2
      have hr := List.length_pos_iff.2 (Cb.enc_ne r)
      rw [List.length_append] at hl2
      rw [hq1, Nat.add_sub_cancel, if_pos (by omega), hdd b.length, ← h2]
      refine .inl ⟨by omega, r, by rw [hxy]; simp, ?_⟩
      exact (List.drop_left' rfl).symm
    · rw [Cb.enc_full ha hb hc, Cb.one, List.cons_append] at hy
      injection hy with h1 h2
      have hq1 : q = b.length + 1 := by omega
      have hl2 := congrArg List.length h2
      have hr := List.length_pos_iff.2 (Cb.enc_ne r)
      rw [List.length_append] at hl2
      rw [hq1, Nat.add_sub_cancel, if_neg (by omega), hdd b.length, ← h2]
      refine .inl ⟨by omega, r, by rw [hxy]; simp, ?_⟩
      exact (List.drop_left' rfl).symm
  · omega
/-- behind all codes -/
theorem Dp.fin {zs o : List Int} {p : Nat} (h : Dp zs p o) (hz : ∀ z ∈ zs, z < 256) (hp : zs.length ≤ p) : Cb.dec false zs = if Cb.enc o = zs then some o else none := by
  by_cases he : Cb.enc o = zs
  · rw [if_pos he]; exact (Cb.dec_iff hz).2 he
  · rw [if_neg he]
    cases hd : Cb.dec false zs with
    | none => rfl
    | some x =>
      have h1 := (Cb.dec_iff hz).1 hd
      rcases h x h1 with ⟨h2, _⟩ | ⟨_, h2⟩
      · omega
      · rw [h2] at h1; exact absurd h1 he
theorem dec_nought {zs : List Int} (hz : ∀ z ∈ zs, z < 256) (h : 0 ∈ zs) : Cb.dec false zs = none := by
  cases hd : Cb.dec false zs with
  | none => rfl
  | some x =>
    have h1 := (Cb.dec_iff hz).1 hd
    have h2 := Cb.enc_nz x
    rw [h1] at h2
    exact absurd rfl (h2 0 h)

set_option maxHeartbeats 4000000 in
theorem rdecode_any (a : Option Addr) (n c : Nat) (zs : List Int) (w : World) (hn : zs.length = n) (hl : n ≤ 100000) (hz : Bytes zs) (h1 : Nums .u8 w w.heap.size a zs) :
    Calls Try.prog 16 #[.slice a n c] w fun e w' => DecR w (Cb.dec false zs) e w' := by
  obtain ⟨i0, hi, hz0, hz1, hz2⟩ := info_parts byteInfo
  have HL := Lib.hid hn
  have HZ := Lib.hid hz
  clear hn hz
  go_enter Try.func16, Try.ntmps16
  go_wp2
  go_loopw [4, 5] (fun v pv wr => ∃ (p : Nat) (o : List Int), pv = .int .i64 p ∧ p ≤ n + 255 ∧ o.length ≤ p ∧ Hid (Bytes o) ∧ Hid (Dp zs p o) ∧ Hid (MadeK 5 .u8 w wr o v)) (fun _ pv _ => n - (intOf pv).toNat)
  case atStart => exact ⟨0, [], rfl, by omega, by simp, fun z hz => by simp at hz, Dp.start zs, MadeK.nil _ _ (Below.refl _ _)⟩
  case round =>
    obtain ⟨p, o, rfl, hpn, hop, HO, HD, HM⟩ := hrel
    have hbe := HM.out.2
    have hsz := hbe.size
    by_cases hlt : p < n
    · obtain ⟨z, hzk⟩ : ∃ z, zs[p]? = some z := ⟨_, List.getElem?_eq_getElem (by rw [HL.out]; exact hlt)⟩
      have hzb := HZ.out z (List.mem_of_getElem? hzk)
      obtain ⟨q, rfl⟩ : ∃ q : Nat, z = (q : Int) := ⟨z.toNat, by omega⟩
      obtain ⟨b1, o1, rfl, hb1, hc1⟩ := (h1.below hbe).open hzk
      have hlt' : (p : Int) < (n : Int) := by omega
      have HDn := Lib.hid (HD.out.next (by rw [HL.out]; exact hlt) hzk)
      have hq256 : q < 256 := by omega
      have HK := Lib.hid hzk
      clear hzb hzk
      go_wp2
      go_loopw [4, 7] (fun v iv wx => ∃ (i : Nat), iv = .int .i64 ((i + 1 : Nat) : Int) ∧ i ≤ q - 1 ∧ p + 1 + i ≤ n ∧ Hid (MadeK 5 .u8 w wx (o ++ (zs.drop (p + 1)).take i) v)) (fun _ iv _ => n + q - (intOf iv).toNat)
      case atStart => exact ⟨0, rfl, by omega, by omega, by show MadeK _ _ _ _ _ _; simpa using HM.out⟩
      case round =>
        obtain ⟨i, rfl, hiq, hin, HMi⟩ := hrel
        have hbi := HMi.out.2
        have hszi := hbi.size
        have hti : ((zs.drop (p + 1)).take i).length = i := by rw [List.length_take, List.length_drop, HL.out]; omega
        have HTi := Lib.hid hti
        clear hti
        by_cases hgo : i + 1 < q ∧ p + (i + 1) < n
        · obtain ⟨hg1, hg2⟩ := hgo
          obtain ⟨z, hz2k⟩ : ∃ z, zs[p + (i + 1)]? = some z := ⟨_, List.getElem?_eq_getElem (by rw [HL.out]; exact hg2)⟩
          obtain ⟨b2, o2, e2, hb2, hc2⟩ := (h1.below hbi).open hz2k
          injection e2 with e2
          injection e2 with e3 e4
          subst e3 e4
          have hg1' : ((i + 1 : Nat) : Int) < (q : Int) := by omega
          have hg2' : (p : Int) + ((i + 1 : Nat) : Int) < (n : Int) := by omega
          have HT : Hid ((zs.drop (p + 1)).take (i + 1) = (zs.drop (p + 1)).take i ++ [z]) := by
            show _ = _
            rw [List.take_add_one, List.getElem?_drop, show p + 1 + i = p + (i + 1) by omega, hz2k]; rfl
          have HZ1 := Lib.hid (Nums.new .u8 wr 5 [z] #[.int .u8 z] rfl)
          have HX1 : Hid ((o ++ (zs.drop (p + 1)).take i).length + 1 ≤ maxLen) := by show _ ≤ _; rw [List.length_append, HTi.out]; unfold maxLen; omega
          have HX2 : Hid (((o ++ (zs.drop (p + 1)).take i).length + 1) * 1 ≤ 140737488355328) := by show _ ≤ _; rw [List.length_append, HTi.out]; omega
          have HX3 : Hid (w.heap.size ≤ (wr.alloc (.cells #[.int .u8 z] 5)).heap.size) := by show _ ≤ _; rw [World.size_alloc]; omega
          obtain ⟨I, hI⟩ : ∃ I, i + 1 = I := ⟨_, rfl⟩
          rw [hI] at hg1' hg2' hc2 hg2 ⊢
          have HI := Lib.hid hI
          clear hI hz2k
          go_wp2_with (at_builtin; refine wpList_append_any rfl (.tmp 30) (.tmp 37) 22 rfl w.heap.size 5 i0 (.int .u8 0) 1 Try.underlying22 hi hz0 hz1 hz2 rfl .u8 (o ++ (zs.drop (p + 1)).take i) [z] _ rfl (HMi.out.1.alloc _) _ 1 1 _ rfl rfl HZ1.out HX1.out HX2.out HX3.out ?_)
          intro v2 w2 hown hg
          have HM2 := Lib.hid ((HMi.out.later (.cells #[.int .u8 z] 5)).more (zs := [z]) (v' := v2) (by simpa [Nat.add_assoc] using hown) hg)
          clear hown hg
          go_wp2
          go_roundw
          case rel => exact ⟨i + 1, by rw [HI.out]; go_num, by omega, by have := HI.out; omega, by show MadeK _ _ _ _ _ _; rw [HT.out, ← List.append_assoc]; exact HM2.out⟩
          case measure => simp [intOf]; omega
        · have HT : Hid ((zs.drop (p + 1)).take i = (zs.drop (p + 1)).take (q - 1)) := by
            show _ = _
            rcases Nat.lt_or_ge (i + 1) q with h | h
            · rw [List.take_of_length_le (by rw [List.length_drop, HL.out]; omega), List.take_of_length_le (by rw [List.length_drop, HL.out]; omega)]
            · rw [show i = q - 1 by omega]
          have HM3 := HMi
          rw [HT.out] at HM3
          have hbe3 := HM3.out.2
          have hlt3 : ((zs.drop (p + 1)).take (q - 1)).length ≤ q - 1 := by rw [List.length_take]; omega
          have HB3 : Hid (Bytes ((zs.drop (p + 1)).take (q - 1))) := (HZ.out.drop _).take _
          obtain ⟨I, hI⟩ : ∃ I, i + 1 = I := ⟨_, rfl⟩
          rw [hI] at hgo ⊢
          have HI := Lib.hid hI
          clear hI HMi HTi
          by_cases hq0 : q = 0
          · have hd := Lib.hid (dec_nought HZ.out.lt (by have := List.mem_of_getElem? HK.out; rw [hq0] at this; exact this))
            subst hq0
            have hI0 : ¬ (I : Int) < 0 := by omega
            go_wp2
            go_ret2
            exact DecR.none_of hd.out hbe3
          · have hq1 : ((q : Int) == 0) = false := by rw [beq_eq_false_iff_ne]; omega
            by_cases hIq : I < q
            · have hIq' : (I : Int) < (q : Int) := by omega
              have hpI : ¬ (p : Int) + (I : Int) < (n : Int) := by omega
              clear hgo
              by_cases hq255 : q < 255
              · have hq255' : (q : Int) < 255 := by omega
                by_cases hpq : p + q < n
                · omega
                · have hpq' : ¬ (p : Int) + (q : Int) < (n : Int) := by omega
                  have HD2 : Hid (Dp zs (p + q) (o ++ (zs.drop (p + 1)).take (q - 1))) := by
                    have := HDn.out
                    rwa [if_neg (fun h => hpq (by rw [← HL.out]; exact h.2))] at this
                  go_wp2
                  go_roundw
                  case rel => exact ⟨p + q, o ++ (zs.drop (p + 1)).take (q - 1), by go_num, by omega, by rw [List.length_append]; omega, HO.out.append HB3.out, HD2, HM3⟩
                  case measure => simp [intOf]; omega
              · have hq255' : ¬ (q : Int) < 255 := by omega
                have HD2 : Hid (Dp zs (p + q) (o ++ (zs.drop (p + 1)).take (q - 1))) := by
                  have := HDn.out
                  rwa [if_neg (fun h => hq255 h.1)] at this
                go_wp2
                go_roundw
                case rel => exact ⟨p + q, o ++ (zs.drop (p + 1)).take (q - 1), by go_num, by omega, by rw [List.length_append]; omega, HO.out.append HB3.out, HD2, HM3⟩
                case measure => simp [intOf]; omega
            · have hIq' : ¬ (I : Int) < (q : Int) := by omega
              clear hgo
              by_cases hq255 : q < 255
              · have hq255' : (q : Int) < 255 := by omega
                by_cases hpq : p + q < n
                · have hpq' : (p : Int) + (q : Int) < (n : Int) := by omega
                  have HD2 : Hid (Dp zs (p + q) ((o ++ (zs.drop (p + 1)).take (q - 1)) ++ [0])) := by
                    have := HDn.out
                    rwa [if_pos ⟨hq255, by rw [HL.out]; exact hpq⟩] at this
                  have HZ1 := Lib.hid (Nums.new .u8 wr 5 [0] #[.int .u8 0] rfl)
                  have HX1 : Hid ((o ++ (zs.drop (p + 1)).take (q - 1)).length + 1 ≤ maxLen) := by show _ ≤ _; rw [List.length_append]; unfold maxLen; omega
                  have HX2 : Hid (((o ++ (zs.drop (p + 1)).take (q - 1)).length + 1) * 1 ≤ 140737488355328) := by show _ ≤ _; rw [List.length_append]; omega
                  have HX3 : Hid (w.heap.size ≤ (wr.alloc (.cells #[.int .u8 0] 5)).heap.size) := by show _ ≤ _; rw [World.size_alloc]; have := hbe3.size; omega
                  go_wp2_with (at_builtin; refine wpList_append_any rfl (.tmp 52) (.tmp 53) 22 rfl w.heap.size 5 i0 (.int .u8 0) 1 Try.underlying22 hi hz0 hz1 hz2 rfl .u8 (o ++ (zs.drop (p + 1)).take (q - 1)) [0] _ rfl (HM3.out.1.alloc _) _ 1 1 _ rfl rfl HZ1.out HX1.out HX2.out HX3.out ?_)
                  intro v2 w2 hown hg
                  have HM4 := Lib.hid ((HM3.out.later (.cells #[.int .u8 0] 5)).more (zs := [0]) (v' := v2) (by simpa [Nat.add_assoc] using hown) hg)
                  clear hown hg
                  go_wp2
                  go_roundw
                  case rel => exact ⟨p + q, (o ++ (zs.drop (p + 1)).take (q - 1)) ++ [0], by go_num, by omega, by rw [List.length_append, List.length_append, List.length_singleton]; omega, (HO.out.append HB3.out).append (fun z hz => by simp at hz; omega), HD2, HM4⟩
                  case measure => simp [intOf]; omega
                · have hpq' : ¬ (p : Int) + (q : Int) < (n : Int) := by omega
                  have HD2 : Hid (Dp zs (p + q) (o ++ (zs.drop (p + 1)).take (q - 1))) := by
                    have := HDn.out
                    rwa [if_neg (fun h => hpq (by rw [← HL.out]; exact h.2))] at this
                  go_wp2
                  go_roundw
                  case rel => exact ⟨p + q, o ++ (zs.drop (p + 1)).take (q - 1), by go_num, by omega, by rw [List.length_append]; omega, HO.out.append HB3.out, HD2, HM3⟩
                  case measure => simp [intOf]; omega
              · have hq255' : ¬ (q : Int) < 255 := by omega
                have HD2 : Hid (Dp zs (p + q) (o ++ (zs.drop (p + 1)).take (q - 1))) := by
                  have := HDn.out
                  rwa [if_neg (fun h => hq255 h.1)] at this
                go_wp2
                go_roundw
                case rel => exact ⟨p + q, o ++ (zs.drop (p + 1)).take (q - 1), by go_num, by omega, by rw [List.length_append]; omega, HO.out.append HB3.out, HD2, HM3⟩
                case measure => simp [intOf]; omega
    · have hpn' : ¬ (p : Int) < (n : Int) := by omega
      have HF := Lib.hid (HD.out.fin HZ.out.lt (by rw [HL.out]; omega))
      obtain ⟨q, hq⟩ : ∃ q, o.length = q := ⟨_, rfl⟩
      obtain ⟨A, co, hu, hco, hno⟩ := HM.out.slice
      subst hu
      rw [hq] at hco hop
      have HQ := Lib.hid hq
      have K := rencode_any A q co o wr hq (by omega) hno
      have hoB := HO.out
      rw [hq]
      clear hq
      go_wp2_with fail
      refine K.mono ?_
      rintro e w1 ⟨v, rfl, hm1⟩
      clear K
      obtain ⟨Q, hQ⟩ : ∃ Q, (Cb.enc o).length = Q := ⟨_, rfl⟩
      have hQl := (Cb.enc_len o).2.1
      rw [HQ.out, hQ] at hQl
      obtain ⟨A1, c1, rfl, hc1, hn1⟩ := hm1.slice
      have hb01 := hbe.trans (hm1.2.mono hsz)
      have hM1 := HM.out
      rw [hQ] at hc1 ⊢
      have E := same_any w1.heap.size A1 a Q n c1 c (Cb.enc o) zs w1 hQ HL.out (by omega) hn1 ((h1.below hb01).mono hb01.size)
      have hmo := MadeK.on HM.out hm1.2
      rw [HQ.out] at hmo
      have HMo := Lib.hid hmo
      clear hmo
      clear hm1 hn1 hM1
      by_cases he : Cb.enc o = zs
      · rw [decide_eq_true he] at E
        have hd : Hid (Cb.dec false zs = some o) := by show _ = _; rw [HF.out, if_pos he]
        clear he hQ
        go_wp2_with fail
        refine E.mono ?_
        rintro e w2 ⟨rfl, d, hw2⟩
        have HM2 := Lib.hid (MadeK.on HMo.out (by rw [hw2]; exact below_drewN (Below.refl _ _) d : Below w1.heap.size w1 w2))
        clear hw2 E
        go_wp2
        go_ret2
        exact DecR.some_of hd.out HM2.out
      · rw [decide_eq_false he] at E
        have hd : Hid (Cb.dec false zs = none) := by show _ = _; rw [HF.out, if_neg he]
        clear he hQ
        go_wp2_with fail
        refine E.mono ?_
        rintro e w2 ⟨rfl, d, hw2⟩
        have hb2 : Below w.heap.size w w2 := by rw [hw2]; exact below_drewN hb01 d
        clear hw2 E
        go_wp2
        go_ret2
        exact DecR.none_of hd.out hb2
end Go.Proofs.Ytljacfhkjhhbgaa
