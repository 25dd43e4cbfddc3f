/-
  The frame of any segment, or what is wrong, is the document's, and what is unpacked is packed to just that segment: FrameUnpacks returns true at every input, and leaves its argument as it was.
-/
import Derived.ArgAppend
import Derived.Test.YtbohdmconeebeaaRows
import Derived.Below
import Derived.WalkKit
import Derived.ProofKit
import Derived.OpenShut
import Derived.ShutString
import Derived.ChangeOld
import Derived.Test.YtbohdmconeebeaaMBUnpacksProof1
namespace Go.Proofs.Ytbohdmconeebeaa
open Go.RowKit
set_option maxRecDepth 100000

theorem MadeK.on {e : TypeId} {k : IntKind} {w w1 w2 : World} {L : List Int} {v : Value} (h : MadeK e k w w1 L v) (hb : Below w1.heap.size w1 w2) : MadeK e k w w2 L v := by
  refine ⟨⟨h.1.1, ?_⟩, h.2.trans (hb.mono h.2.size)⟩
  rcases h.1.2 with h0 | ⟨g, cap, cur, hv, hg, hh, rest⟩
  · exact .inl h0
  · exact .inr ⟨g, cap, cur, hv, hg, (hb.block g (Array.getElem?_eq_some_iff.1 hh).1).trans hh, rest⟩

/-- what is known at a place of bytes, if some are these, stuffed: what has been decoded, and what is left; or all -/
def Dp (zs : List Int) (at_ : Nat) (o : List Int) : Prop :=
  ∀ x, Cb.enc x = zs → (at_ < zs.length ∧ ∃ y, x = o ++ y ∧ Cb.enc y = zs.drop at_) ∨ (at_ = zs.length ∧ x = o)
theorem Dp.start (zs : List Int) : Dp zs 0 [] := fun x h => .inl ⟨by
    have := Cb.enc_ne x
    rw [h] at this
    exact List.length_pos_iff.2 this, x, rfl, by simpa using h⟩
/-- one code on: q the code, the bytes behind it, and a 0, if the code is below 255 and something is left -/
theorem Dp.next {zs o : List Int} {p q : Nat} (h : Dp zs p o) (hp : p < zs.length) (hq : zs[p]? = some (q : Int)) :
    Dp zs (p + q) (if q < 255 ∧ p + q < zs.length then (o ++ (zs.drop (p + 1)).take (q - 1)) ++ [0] else o ++ (zs.drop (p + 1)).take (q - 1)) := by
  intro x hx
  rcases h x hx with ⟨_, y, hxy, hy⟩ | ⟨h0, _⟩
  · have hd : zs.drop p = (q : Int) :: zs.drop (p + 1) := by
      rw [List.getElem?_eq_getElem hp] at hq
      injection hq with hq
      rw [← hq, List.getElem_cons_drop]
    rw [hd] at hy
    have hlen : zs.length = p + (1 + (zs.drop (p + 1)).length) := by rw [List.length_drop]; omega
    have hdd : ∀ m, zs.drop (p + (m + 1)) = (zs.drop (p + 1)).drop m := fun m => by rw [List.drop_drop]; congr 1; omega
    rcases Cb.shape y with ⟨ha, hb⟩ | ⟨b, r, ha, hb, rfl⟩ | ⟨b, r, ha, hb, hc, rfl⟩
    · rw [Cb.enc_last ha hb, Cb.one] at hy
      injection hy with h1 h2
      have hq1 : q = y.length + 1 := by omega
      have hl2 := congrArg List.length h2
      rw [← h2, hq1, Nat.add_sub_cancel, List.take_length, if_neg (by omega)]
      exact .inr ⟨by omega, hxy⟩
    · rw [Cb.enc_nought ha hb, Cb.one, List.cons_append] at hy
      injection hy with h1 h2
      have hq1 : q = b.length + 1 := by omega
      have hl2 := congrArg List.length h2
      have hr := List.length_pos_iff.2 (Cb.enc_ne r)
      rw [List.length_append] at hl2
      rw [hq1, Nat.add_sub_cancel, if_pos (by omega), hdd b.length, ← h2]
      refine .inl ⟨by omega, r, by rw [hxy]; simp, ?_⟩
      exact (List.drop_left' rfl).symm
    · rw [Cb.enc_full ha hb hc, Cb.one, List.cons_append] at hy
      injection hy with h1 h2
      have hq1 : q = b.length + 1 := by omega
      have hl2 := congrArg List.length h2
      have hr := List.length_pos_iff.2 (Cb.enc_ne r)
      rw [List.length_append] at hl2
      rw [hq1, Nat.add_sub_cancel, if_neg (by omega), hdd b.length, ← h2]
      refine .inl ⟨by omega, r, by rw [hxy]; simp, ?_⟩
      exact (List.drop_left' rfl).symm
  · omega
/-- behind all codes -/
theorem Dp.fin {zs o : List Int} {p : Nat} (h : Dp zs p o) (hz : ∀ z ∈ zs, z < 256) (hp : zs.length ≤ p) : Cb.dec false zs = if Cb.enc o = zs then some o else none := by
  by_cases he : Cb.enc o = zs
  · rw [if_pos he]; exact (Cb.dec_iff hz).2 he
  · rw [if_neg he]
    cases hd : Cb.dec false zs with
    | none => rfl
    | some x =>
      have h1 := (Cb.dec_iff hz).1 hd
      rcases h x h1 with ⟨h2, _⟩ | ⟨_, h2⟩
      · omega
      · rw [h2] at h1; exact absurd h1 he
theorem dec_nought {zs : List Int} (hz : ∀ z ∈ zs, z < 256) (h : 0 ∈ zs) : Cb.dec false zs = none := by
  cases hd : Cb.dec false zs with
  | none => rfl
  | some x =>
    have h1 := (Cb.dec_iff hz).1 hd
    have h2 := Cb.enc_nz x
    rw [h1] at h2
    exact absurd rfl (h2 0 h)

set_option maxHeartbeats 4000000 in
theorem rdecode_any (a : Option Addr) (n c : Nat) (zs : List Int) (w : World) (hn : zs.length = n) (hl : n ≤ 100000) (hz : Bytes zs) (h1 : Nums .u8 w w.heap.size a zs) :
    Calls Try.prog 25 #[.slice a n c] w fun e w' => DecR w (Cb.dec false zs) e w' := by
  obtain ⟨i0, hi, hz0, hz1, hz2⟩ := info_parts byteInfo
  have HL := Lib.hid hn
  have HZ := Lib.hid hz
  clear hn hz
  go_enter Try.func25, Try.ntmps25
  go_wp2
  go_loopw [4, 5] (fun v pv wr => ∃ (p : Nat) (o : List Int), pv = .int .i64 p ∧ p ≤ n + 255 ∧ o.length ≤ p ∧ Hid (Bytes o) ∧ Hid (Dp zs p o) ∧ Hid (MadeK 5 .u8 w wr o v)) (fun _ pv _ => n - (intOf pv).toNat)
  case atStart => exact ⟨0, [], rfl, by omega, by simp, fun z hz => by simp at hz, Dp.start zs, MadeK.nil _ _ (Below.refl _ _)⟩
  case round =>
    obtain ⟨p, o, rfl, hpn, hop, HO, HD, HM⟩ := hrel
    have hbe := HM.out.2
    have hsz := hbe.size
    by_cases hlt : p < n
    · obtain ⟨z, hzk⟩ : ∃ z, zs[p]? = some z := ⟨_, List.getElem?_eq_getElem (by rw [HL.out]; exact hlt)⟩
      have hzb := HZ.out z (List.mem_of_getElem? hzk)
      obtain ⟨q, rfl⟩ : ∃ q : Nat, z = (q : Int) := ⟨z.toNat, by omega⟩
      obtain ⟨b1, o1, rfl, hb1, hc1⟩ := (h1.below hbe).open hzk
      have hlt' : (p : Int) < (n : Int) := by omega
      have HDn := Lib.hid (HD.out.next (by rw [HL.out]; exact hlt) hzk)
      have hq256 : q < 256 := by omega
      have HK := Lib.hid hzk
      clear hzb hzk
      go_wp2
      go_loopw [4, 7] (fun v iv wx => ∃ (i : Nat), iv = .int .i64 ((i + 1 : Nat) : Int) ∧ i ≤ q - 1 ∧ p + 1 + i ≤ n ∧ Hid (MadeK 5 .u8 w wx (o ++ (zs.drop (p + 1)).take i) v)) (fun _ iv _ => n + q - (intOf iv).toNat)
      case atStart => exact ⟨0, rfl, by omega, by omega, by show MadeK _ _ _ _ _ _; simpa using HM.out⟩
      case round =>
        obtain ⟨i, rfl, hiq, hin, HMi⟩ := hrel
        have hbi := HMi.out.2
        have hszi := hbi.size
        have hti : ((zs.drop (p + 1)).take i).length = i := by rw [List.length_take, List.length_drop, HL.out]; omega
        have HTi := Lib.hid hti
        clear hti
        by_cases hgo : i + 1 < q ∧ p + (i + 1) < n
        · obtain ⟨hg1, hg2⟩ := hgo
          obtain ⟨z, hz2k⟩ : ∃ z, zs[p + (i + 1)]? = some z := ⟨_, List.getElem?_eq_getElem (by rw [HL.out]; exact hg2)⟩
          obtain ⟨b2, o2, e2, hb2, hc2⟩ := (h1.below hbi).open hz2k
          injection e2 with e2
          injection e2 with e3 e4
          subst e3 e4
          have hg1' : ((i + 1 : Nat) : Int) < (q : Int) := by omega
          have hg2' : (p : Int) + ((i + 1 : Nat) : Int) < (n : Int) := by omega
          have HT : Hid ((zs.drop (p + 1)).take (i + 1) = (zs.drop (p + 1)).take i ++ [z]) := by
            show _ = _
            rw [List.take_add_one, List.getElem?_drop, show p + 1 + i = p + (i + 1) by omega, hz2k]; rfl
          have HZ1 := Lib.hid (Nums.new .u8 wr 5 [z] #[.int .u8 z] rfl)
          have HX1 : Hid ((o ++ (zs.drop (p + 1)).take i).length + 1 ≤ maxLen) := by show _ ≤ _; rw [List.length_append, HTi.out]; unfold maxLen; omega
          have HX2 : Hid (((o ++ (zs.drop (p + 1)).take i).length + 1) * 1 ≤ 140737488355328) := by show _ ≤ _; rw [List.length_append, HTi.out]; omega
          have HX3 : Hid (w.heap.size ≤ (wr.alloc (.cells #[.int .u8 z] 5)).heap.size) := by show _ ≤ _; rw [World.size_alloc]; omega
          obtain ⟨I, hI⟩ : ∃ I, i + 1 = I := ⟨_, rfl⟩
          rw [hI] at hg1' hg2' hc2 hg2 ⊢
          have HI := Lib.hid hI
          clear hI hz2k
          go_wp2_with (at_builtin; refine wpList_append_any rfl (.tmp 30) (.tmp 37) 22 rfl w.heap.size 5 i0 (.int .u8 0) 1 Try.underlying22 hi hz0 hz1 hz2 rfl .u8 (o ++ (zs.drop (p + 1)).take i) [z] _ rfl (HMi.out.1.alloc _) _ 1 1 _ rfl rfl HZ1.out HX1.out HX2.out HX3.out ?_)
          intro v2 w2 hown hg
          have HM2 := Lib.hid ((HMi.out.later (.cells #[.int .u8 z] 5)).more (zs := [z]) (v' := v2) (by simpa [Nat.add_assoc] using hown) hg)
          clear hown hg
          go_wp2
          go_roundw
          case rel => exact ⟨i + 1, by rw [HI.out]; go_num, by omega, by have := HI.out; omega, by show MadeK _ _ _ _ _ _; rw [HT.out, ← List.append_assoc]; exact HM2.out⟩
          case measure => simp [intOf]; omega
        · have HT : Hid ((zs.drop (p + 1)).take i = (zs.drop (p + 1)).take (q - 1)) := by
            show _ = _
            rcases Nat.lt_or_ge (i + 1) q with h | h
            · rw [List.take_of_length_le (by rw [List.length_drop, HL.out]; omega), List.take_of_length_le (by rw [List.length_drop, HL.out]; omega)]
            · rw [show i = q - 1 by omega]
          have HM3 := HMi
          rw [HT.out] at HM3
          have hbe3 := HM3.out.2
          have hlt3 : ((zs.drop (p + 1)).take (q - 1)).length ≤ q - 1 := by rw [List.length_take]; omega
          have HB3 : Hid (Bytes ((zs.drop (p + 1)).take (q - 1))) := (HZ.out.drop _).take _
          obtain ⟨I, hI⟩ : ∃ I, i + 1 = I := ⟨_, rfl⟩
          rw [hI] at hgo ⊢
          have HI := Lib.hid hI
          clear hI HMi HTi
          by_cases hq0 : q = 0
          · have hd := Lib.hid (dec_nought HZ.out.lt (by have := List.mem_of_getElem? HK.out; rw [hq0] at this; exact this))
            subst hq0
            have hI0 : ¬ (I : Int) < 0 := by omega
            go_wp2
            go_ret2
            exact DecR.none_of hd.out hbe3
          · have hq1 : ((q : Int) == 0) = false := by rw [beq_eq_false_iff_ne]; omega
            by_cases hIq : I < q
            · have hIq' : (I : Int) < (q : Int) := by omega
              have hpI : ¬ (p : Int) + (I : Int) < (n : Int) := by omega
              clear hgo
              by_cases hq255 : q < 255
              · have hq255' : (q : Int) < 255 := by omega
                by_cases hpq : p + q < n
                · omega
                · have hpq' : ¬ (p : Int) + (q : Int) < (n : Int) := by omega
                  have HD2 : Hid (Dp zs (p + q) (o ++ (zs.drop (p + 1)).take (q - 1))) := by
                    have := HDn.out
                    rwa [if_neg (fun h => hpq (by rw [← HL.out]; exact h.2))] at this
                  go_wp2
                  go_roundw
                  case rel => exact ⟨p + q, o ++ (zs.drop (p + 1)).take (q - 1), by go_num, by omega, by rw [List.length_append]; omega, HO.out.append HB3.out, HD2, HM3⟩
                  case measure => simp [intOf]; omega
              · have hq255' : ¬ (q : Int) < 255 := by omega
                have HD2 : Hid (Dp zs (p + q) (o ++ (zs.drop (p + 1)).take (q - 1))) := by
                  have := HDn.out
                  rwa [if_neg (fun h => hq255 h.1)] at this
                go_wp2
                go_roundw
                case rel => exact ⟨p + q, o ++ (zs.drop (p + 1)).take (q - 1), by go_num, by omega, by rw [List.length_append]; omega, HO.out.append HB3.out, HD2, HM3⟩
                case measure => simp [intOf]; omega
            · have hIq' : ¬ (I : Int) < (q : Int) := by omega
              clear hgo
              by_cases hq255 : q < 255
              · have hq255' : (q : Int) < 255 := by omega
                by_cases hpq : p + q < n
                · have hpq' : (p : Int) + (q : Int) < (n : Int) := by omega
                  have HD2 : Hid (Dp zs (p + q) ((o ++ (zs.drop (p + 1)).take (q - 1)) ++ [0])) := by
                    have := HDn.out
                    rwa [if_pos ⟨hq255, by rw [HL.out]; exact hpq⟩] at this
                  have HZ1 := Lib.hid (Nums.new .u8 wr 5 [0] #[.int .u8 0] rfl)
                  have HX1 : Hid ((o ++ (zs.drop (p + 1)).take (q - 1)).length + 1 ≤ maxLen) := by show _ ≤ _; rw [List.length_append]; unfold maxLen; omega
                  have HX2 : Hid (((o ++ (zs.drop (p + 1)).take (q - 1)).length + 1) * 1 ≤ 140737488355328) := by show _ ≤ _; rw [List.length_append]; omega
                  have HX3 : Hid (w.heap.size ≤ (wr.alloc (.cells #[.int .u8 0] 5)).heap.size) := by show _ ≤ _; rw [World.size_alloc]; have := hbe3.size; omega
                  go_wp2_with (at_builtin; refine wpList_append_any rfl (.tmp 52) (.tmp 53) 22 rfl w.heap.size 5 i0 (.int .u8 0) 1 Try.underlying22 hi hz0 hz1 hz2 rfl .u8 (o ++ (zs.drop (p + 1)).take (q - 1)) [0] _ rfl (HM3.out.1.alloc _) _ 1 1 _ rfl rfl HZ1.out HX1.out HX2.out HX3.out ?_)
                  intro v2 w2 hown hg
                  have HM4 := Lib.hid ((HM3.out.later (.cells #[.int .u8 0] 5)).more (zs := [0]) (v' := v2) (by simpa [Nat.add_assoc] using hown) hg)
                  clear hown hg
                  go_wp2
                  go_roundw
                  case rel => exact ⟨p + q, (o ++ (zs.drop (p + 1)).take (q - 1)) ++ [0], by go_num, by omega, by rw [List.length_append, List.length_append, List.length_singleton]; omega, (HO.out.append HB3.out).append (fun z hz => by simp at hz; omega), HD2, HM4⟩
                  case measure => simp [intOf]; omega
                · have hpq' : ¬ (p : Int) + (q : Int) < (n : Int) := by omega
                  have HD2 : Hid (Dp zs (p + q) (o ++ (zs.drop (p + 1)).take (q - 1))) := by
                    have := HDn.out
                    rwa [if_neg (fun h => hpq (by rw [← HL.out]; exact h.2))] at this
                  go_wp2
                  go_roundw
                  case rel => exact ⟨p + q, o ++ (zs.drop (p + 1)).take (q - 1), by go_num, by omega, by rw [List.length_append]; omega, HO.out.append HB3.out, HD2, HM3⟩
                  case measure => simp [intOf]; omega
              · have hq255' : ¬ (q : Int) < 255 := by omega
                have HD2 : Hid (Dp zs (p + q) (o ++ (zs.drop (p + 1)).take (q - 1))) := by
                  have := HDn.out
                  rwa [if_neg (fun h => hq255 h.1)] at this
                go_wp2
                go_roundw
                case rel => exact ⟨p + q, o ++ (zs.drop (p + 1)).take (q - 1), by go_num, by omega, by rw [List.length_append]; omega, HO.out.append HB3.out, HD2, HM3⟩
                case measure => simp [intOf]; omega
    · have hpn' : ¬ (p : Int) < (n : Int) := by omega
      have HF := Lib.hid (HD.out.fin HZ.out.lt (by rw [HL.out]; omega))
      obtain ⟨q, hq⟩ : ∃ q, o.length = q := ⟨_, rfl⟩
      obtain ⟨A, co, hu, hco, hno⟩ := HM.out.slice
      subst hu
      rw [hq] at hco hop
      have HQ := Lib.hid hq
      have K := rencode_any A q co o wr hq (by omega) hno
      have hoB := HO.out
      rw [hq]
      clear hq
      go_wp2_with fail
      refine K.mono ?_
      rintro e w1 ⟨v, rfl, hm1⟩
      clear K
      obtain ⟨Q, hQ⟩ : ∃ Q, (Cb.enc o).length = Q := ⟨_, rfl⟩
      have hQl := (Cb.enc_len o).2.1
      rw [HQ.out, hQ] at hQl
      obtain ⟨A1, c1, rfl, hc1, hn1⟩ := hm1.slice
      have hb01 := hbe.trans (hm1.2.mono hsz)
      have hM1 := HM.out
      rw [hQ] at hc1 ⊢
      have E := same_any w1.heap.size A1 a Q n c1 c (Cb.enc o) zs w1 hQ HL.out (by omega) hn1 ((h1.below hb01).mono hb01.size)
      have hmo := MadeK.on HM.out hm1.2
      rw [HQ.out] at hmo
      have HMo := Lib.hid hmo
      clear hmo
      clear hm1 hn1 hM1
      by_cases he : Cb.enc o = zs
      · rw [decide_eq_true he] at E
        have hd : Hid (Cb.dec false zs = some o) := by show _ = _; rw [HF.out, if_pos he]
        clear he hQ
        go_wp2_with fail
        refine E.mono ?_
        rintro e w2 ⟨rfl, d, hw2⟩
        have HM2 := Lib.hid (MadeK.on HMo.out (by rw [hw2]; exact below_drewN (Below.refl _ _) d : Below w1.heap.size w1 w2))
        clear hw2 E
        go_wp2
        go_ret2
        exact DecR.some_of hd.out HM2.out
      · rw [decide_eq_false he] at E
        have hd : Hid (Cb.dec false zs = none) := by show _ = _; rw [HF.out, if_neg he]
        clear he hQ
        go_wp2_with fail
        refine E.mono ?_
        rintro e w2 ⟨rfl, d, hw2⟩
        have hb2 : Below w.heap.size w w2 := by rw [hw2]; exact below_drewN hb01 d
        clear hw2 E
        go_wp2
        go_ret2
        exact DecR.none_of hd.out hb2
end Go.Proofs.Ytbohdmconeebeaa

namespace Go.Proofs.Ytbohdmconeebeaa
open Go.RowKit Go.Shelf
set_option maxRecDepth 100000
attribute [local go_sem] Oper.semAt_some

theorem exec_app {P : Program} {w w' : World} {o : Oper} {b : Act} {v1 v2 v' : Value} (s x : Operand) (t : TypeId) (hop : o.op = Op.call { callee := Callee.builtin Builtin.append, args := #[s, x], argTypes := #[t, t] })
    (hs : b.eval s = v1) (hx : b.eval x = v2) (hrun : (Builtin.append_ #[t, t] o.type #[v1, v2]).run P w = .ok v' w') : (execOp b.eval o).run P w = .ok (.value v') w' := by
  simp [execOp, hop, resolve, invoke, builtin, hs, hx, hrun, Result.andThen]
theorem rfInfo : (Try.prog.info? 35).map (·.size) = some 6 := by kernel_rfl
theorem rf_store (w : World) (R : Nat) (old cs : Array Value) (h : w.heap[R]? = some (.cells old 35 (0, 0))) (ho : old.size = 6) (hc : cs.size = 6) (h1 : cs.all (·.oneCell') = true) :
    (Instr.storeAt 35 (.pointer (some ⟨R, 0, none⟩)) (.agg cs)).run Try.prog w = .ok () (w.setRow R cs) := by
  simp only [Instr.storeAt, Instr.sureAddr, Sem.run_bind, Sem.run_pure, Result.andThen]
  exact run_storeVar_row w R 35 35 old cs h (by rw [hc]; exact rfInfo) (by omega) h1
/-- a block of at least 13 bytes, by the document's Open -/
theorem unB_open {b : List Int} (h : 12 < b.length) : unB b = if (openOf b).1 = 0 then (if (prs (b.take 8)).2 = 0 then (((prs (b.take 8)).1, (b.take (b.length - 4)).drop 8), 0) else (noFr, (prs (b.take 8)).2)) else (noFr, 11) := by
  have hsp : b.take (b.length - 4) ++ b.drop (b.length - 4) = b := List.take_append_drop _ _
  have ho : openOf b = if b.take (b.length - 4) ++ Cr.le4 (Cr.sum (b.take (b.length - 4))) = b then (0, b.take (b.length - 4)) else (11, []) := by unfold openOf; rw [if_neg (by omega)]
  have hu : unB b = if Cr.le4 (Cr.sum (b.take (b.length - 4))) = b.drop (b.length - 4) then (if (prs (b.take 8)).2 = 0 then (((prs (b.take 8)).1, (b.take (b.length - 4)).drop 8), 0) else (noFr, (prs (b.take 8)).2)) else (noFr, 11) := by unfold unB; exact if_neg (by omega)
  rw [hu, ho]
  by_cases hs : Cr.le4 (Cr.sum (b.take (b.length - 4))) = b.drop (b.length - 4)
  · have h2 : b.take (b.length - 4) ++ Cr.le4 (Cr.sum (b.take (b.length - 4))) = b := by rw [hs]; exact hsp
    simp only [if_pos hs, if_pos h2, if_true]
  · have h2 : ¬ b.take (b.length - 4) ++ Cr.le4 (Cr.sum (b.take (b.length - 4))) = b := fun e => hs (List.append_cancel_left (e.trans hsp.symm))
    simp only [if_neg hs, if_neg h2]
    rfl
theorem open_cases {b : List Int} (h : 12 < b.length) : openOf b = (0, b.take (b.length - 4)) ∨ openOf b = (11, []) := by
  unfold openOf
  rw [if_neg (by omega)]
  split
  · exact .inl rfl
  · exact .inr rfl
def FRr (R : Nat) (L : List Int) (v k s i d : Int) (q : Tmp) (x : Value) (W : World) : Prop :=
  if q = 44 then ∃ g, x = .slice (some ⟨g, 0, none⟩) 0 0
  else ∃ A c, x = (if q = 47 then .slice A L.length c else .agg (frC v k s i d (.slice A L.length c))) ∧ L.length ≤ c ∧ NumsS .u8 W (fun b => R < b ∧ b < W.heap.size) A L
theorem FRr.later {R : Nat} {L : List Int} {v k s i d : Int} {q : Tmp} {x : Value} {W W' : World} (hh : FRr R L v k s i d q x W) (hb : Below W.heap.size W W') : FRr R L v k s i d q x W' := by
  unfold FRr at *
  split
  · rename_i h; rw [if_pos h] at hh; exact hh
  · rename_i h
    rw [if_neg h] at hh
    obtain ⟨A, c, e, hc, hn⟩ := hh
    exact ⟨A, c, e, hc, (hn.keeps (KeepS.of_below hb fun k hk => hk.2)).more fun k hk => ⟨hk.1, Nat.lt_of_lt_of_le hk.2 hb.size⟩⟩

set_option maxHeartbeats 8000000 in
theorem rfunpack_any (a : Option Addr) (n c : Nat) (zs : List Int) (w : World) (hn : zs.length = n) (hl : n ≤ 100000) (hz : Bytes zs) (h1 : Nums .u8 w w.heap.size a zs) :
    Calls Try.prog 9 #[.slice a n c] w fun e w' => UnpR w w' (unS zs) e := by
  obtain ⟨i0, hi0, hz0, hz1, hz2⟩ := info_parts byteInfo
  by_cases h255 : 255 < n
  · have e0 : unS zs = (noFr, 2) := by unfold unS; rw [if_pos (by omega)]
    rw [e0]
    have hs' : 255 < (n : Int) := by omega
    clear e0 hn h1
    go_enter Try.func9, Try.ntmps9
    go_wp2
    refine bodyPost_ret (v := .tuple #[frV 0 0 0 0 0 (.slice none 0 0), .int .i64 2]) (by simp [results, Try.results9, go_sem, frV, frC]) rfl ?_
    exact UnpR.no rfl ((Below.refl _ w).alloc (Nat.le_refl _) _)
  · have HU : Hid (unS zs = match Cb.dec false zs with | none => (noFr, 12) | some b => unB b) := by show _ = _; unfold unS; exact if_neg (by omega)
    obtain ⟨w0, hw0⟩ : ∃ w0, w.alloc (.cells (frC 0 0 0 0 0 (.slice none 0 0)) 35) = w0 := ⟨_, rfl⟩
    have hb0 : Below w.heap.size w w0 := by rw [← hw0]; exact (Below.refl _ w).alloc (Nat.le_refl _) _
    have hs0 : w0.heap.size = w.heap.size + 1 := by rw [← hw0]; simp
    have hR0 : w0.heap[w.heap.size]? = some (.cells (frC 0 0 0 0 0 (.slice none 0 0)) 35 (0, 0)) := by rw [← hw0]; exact World.alloc_heap_new _ _
    have K := rdecode_any a n c zs w0 hn hl hz ((h1.below hb0).mono hb0.size)
    have hlt : w.heap.size < w0.heap.size := by omega
    have HW0 := Lib.hid hw0
    have HB0 := Lib.hid hb0
    have HR0 := Lib.hid hR0
    have HZ := Lib.hid hz
    have HN := Lib.hid hn
    have hs' : ¬ 255 < (n : Int) := by omega
    -- what a zero frame and an error r leave, stored in a world V
    have fin0 : ∀ V : World, Below w0.heap.size w0 V → V.heap[w.heap.size]? = some (.cells (frC 0 0 0 0 0 (.slice none 0 0)) 35 (0, 0)) ∧ (V.setRow w.heap.size (frC 0 0 0 0 0 (.slice none 0 0))).heap[w.heap.size]? = some (.cells (frC 0 0 0 0 0 (.slice none 0 0)) 35 (0, 0)) ∧ Below w.heap.size w (V.setRow w.heap.size (frC 0 0 0 0 0 (.slice none 0 0))) := fun V hV => by
      have hR1 := (hV.block _ hlt).trans hR0
      have hB1 := hb0.trans (hV.mono hb0.size)
      exact ⟨hR1, setRow_heap V w.heap.size _ _ _ _ hR1, hB1.trans ((Off.setRow (S := fun k => k = w.heap.size) (Off.of_below (Below.refl V.heap.size V)) rfl _).below (fun k hk => by omega) hB1.size)⟩
    have HF0 := Lib.hid fin0
    unfold frC at HW0
    clear hw0 hb0 hR0 hs0 hz hn h1 fin0
    go_enter Try.func9, Try.ntmps9
    go_wp2_with fail
    rw [HW0.out]
    refine K.mono ?_
    intro e w1 hr
    clear K
    cases hd : Cb.dec false zs with
    | none =>
      rw [hd] at hr HU
      obtain ⟨rfl, hb1⟩ := hr
      obtain ⟨hR1, hfin, hbf⟩ := HF0.out w1 hb1
      have HR1 := Lib.hid hR1
      clear hR1 hb1 hd
      go_wp2_with (refine wpList_store_row rfl 35 (.tmp 2) (.tmp 18) rfl w.heap.size (frC 0 0 0 0 0 (.slice none 0 0)) rfl rfl 35 _ HR1.out rfInfo rfl (fr_one _ _ _ _ _ _ _ _) ?_)
      generalize w1.setRow w.heap.size (frC 0 0 0 0 0 (.slice none 0 0)) = Wf at *
      obtain ⟨d0, d1, d2, d3, d4, d5⟩ := fr_block hfin
      refine bodyPost_ret (v := .tuple #[frV 0 0 0 0 0 (.slice none 0 0), .int .i64 12]) (by simp [results, Try.results9, go_sem, frV, frC, d0, d1, d2, d3, d4, d5]) rfl ?_
      rw [HU.out]
      exact UnpR.no rfl hbf
    | some x =>
      rw [hd] at hr HU
      obtain ⟨vv, rfl, hm⟩ := hr
      obtain ⟨A, c1, rfl, hc1, hn1⟩ := hm.slice
      have hxl := dec_shorter HZ.out hd
      have hxb : Bytes x := decoded_bytes HZ.out hd
      have hb01 := hm.2
      have HXB := Lib.hid hxb
      have HN1 := Lib.hid hn1
      clear hm hd hxb hn1
      obtain ⟨q, hq⟩ : ∃ q, x.length = q := ⟨_, rfl⟩
      rw [hq] at hc1 ⊢
      have HQ := Lib.hid hq
      have hqn : q ≤ 100000 := by have := HN.out; omega
      have HXL := Lib.hid hxl
      clear hq hxl
      by_cases h13 : q < 13
      · have h13' : (q : Int) < 13 := by omega
        have hub : unB x = (noFr, 13) := by unfold unB; rw [if_pos (by rw [HQ.out]; omega)]
        have HUB := Lib.hid hub
        obtain ⟨hR1, hfin, hbf⟩ := HF0.out w1 hb01
        have HR1 := Lib.hid hR1
        clear hR1 hub hb01
        go_wp2_with (refine wpList_store_row rfl 35 (.tmp 2) (.tmp 23) rfl w.heap.size (frC 0 0 0 0 0 (.slice none 0 0)) rfl rfl 35 _ HR1.out rfInfo rfl (fr_one _ _ _ _ _ _ _ _) ?_)
        generalize w1.setRow w.heap.size (frC 0 0 0 0 0 (.slice none 0 0)) = Wf at *
        obtain ⟨d0, d1, d2, d3, d4, d5⟩ := fr_block hfin
        refine bodyPost_ret (v := .tuple #[frV 0 0 0 0 0 (.slice none 0 0), .int .i64 13]) (by simp [results, Try.results9, go_sem, frV, frC, d0, d1, d2, d3, d4, d5]) rfl ?_
        rw [HU.out]
        show UnpR w Wf (unB x) _
        rw [HUB.out]
        exact UnpR.no rfl hbf
      · have h13' : ¬ (q : Int) < 13 := by omega
        have hxlen := HQ.out
        have K2 := ropen_any w1.heap.size A q c1 x w1 (Nat.le_refl _) HQ.out hc1 (by omega) HXB.out HN1.out
        have HUB := Lib.hid (unB_open (b := x) (by omega))
        rcases open_cases (b := x) (by omega) with ho | ho
        · rw [ho] at K2 HUB
          rw [if_pos rfl] at HUB
          obtain ⟨p, rfl⟩ : ∃ p, q = p + 4 := ⟨q - 4, by omega⟩
          obtain ⟨T, hT⟩ : ∃ T, x.take (x.length - 4) = T := ⟨_, rfl⟩
          have hTp : T.length = p := by rw [← hT, List.length_take]; omega
          have hTb : Bytes T := by rw [← hT]; exact HXB.out.take _
          have hT8 : T.take 8 = x.take 8 := by rw [← hT, List.take_take]; congr 1; omega
          rw [hT] at K2 HUB
          rw [← hT8] at HUB
          clear ho hxlen hT hT8
          go_wp2_with fail
          refine K2.mono ?_
          rintro e w2 ⟨A2, c2, rfl, hc2, hn2, hb2⟩
          clear K2
          rw [hTp] at hc2 ⊢
          simp only [] at hn2
          have hb02 := hb01.trans (hb2.mono hb01.size)
          have K := rparse_any A2 8 c2 (T.take 8) w2 (by rw [List.length_take]; omega) (hTb.take 8) (hn2.take 8)
          obtain ⟨⟨⟨v, k, s, i, d⟩, er⟩, hP⟩ : ∃ y, prs (T.take 8) = y := ⟨_, rfl⟩
          rw [hP] at HUB K
          simp only [hdP] at K HUB
          unfold hdV at K
          have h8c : (8 : Int) ≤ (c2 : Int) := by omega
          have h8p : (8 : Int) ≤ (p : Int) := by omega
          have hpc : (p : Int) ≤ (c2 : Int) := by omega
          have HN2 := Lib.hid hn2
          have HTP := Lib.hid hTp
          clear hP hn2 hTp hb01 hb2
          go_wp2_with fail
          refine K.mono ?_
          rintro e W3 ⟨rfl, hb3⟩
          clear K
          obtain ⟨w4, hw4⟩ : ∃ w4, W3.alloc (.cells #[.int .i64 v, .int .i64 k, .int .u32 s, .int .i64 i, .int .i64 d] 33) = w4 := ⟨_, rfl⟩
          have hs4 : w4.heap.size = W3.heap.size + 1 := by rw [← hw4]; simp
          have hb34 : Below W3.heap.size W3 w4 := by rw [← hw4]; exact (Below.refl _ W3).alloc (Nat.le_refl _) _
          have hbox : w4.heap[W3.heap.size]? = some (.cells #[.int .i64 v, .int .i64 k, .int .u32 s, .int .i64 i, .int .i64 d] 33 (0, 0)) := by rw [← hw4]; exact World.alloc_heap_new _ _
          have hb24 := hb3.trans (hb34.mono hb3.size)
          have hb04 := hb02.trans (hb24.mono hb02.size)
          obtain ⟨hR4, hfin4, hbf4⟩ := HF0.out w4 hb04
          have HR4 := Lib.hid hR4
          have HW4 := Lib.hid hw4
          have HX := Lib.hid hbox
          have hR4lt : w.heap.size < w4.heap.size := (Array.getElem?_eq_some_iff.1 hR4).1
          have HR4a : Hid ((W3.alloc (.cells #[.int .i64 v, .int .i64 k, .int .u32 s, .int .i64 i, .int .i64 d] 33)).heap[w.heap.size]? = some (.cells (frC 0 0 0 0 0 (.slice none 0 0)) 35 (0, 0))) := by show _ = _; rw [hw4]; exact hR4
          have HB4 := Lib.hid (HB0.out.trans (hb04.mono HB0.out.size))
          have HN4 := Lib.hid ((HN2.out.below hb24).mono hb24.size)
          clear hw4 hbox hR4 hb34 hb3 hb24 hb04 hb02
          by_cases h0 : er = 0
          · subst h0
            rw [if_pos rfl] at HUB
            obtain ⟨L, hL⟩ : ∃ L, T.drop 8 = L := ⟨_, rfl⟩
            have hLl : L.length = p - 8 := by rw [← hL, List.length_drop, HTP.out]
            obtain ⟨A8, hA8⟩ : ∃ A8, A2.map (fun x => ({ block := x.block, off := x.off + 8 } : Addr)) = A8 := ⟨_, rfl⟩
            have hLn : Nums .u8 w4 w4.heap.size A8 L := by
              have hdr := HN4.out.drop (i := 8) (cap := c2) (by rw [HTP.out]; exact hc2)
              rw [hL] at hdr
              obtain ⟨b1, o1, rfl, _⟩ := HN4.out (by intro e; have := HTP.out; rw [e] at this; simp at this; omega)
              rw [if_neg (by omega)] at hdr
              rw [← hA8]
              simpa [Addr.add] using hdr
            have HL := Lib.hid hLl
            have HLN := Lib.hid hLn
            have HLL := Lib.hid hL
            clear hLn hLl hL hfin4 hbf4 HR4a
            go_wp2_with fail
            rw [HW4.out]
            have hload : ∀ W, Below w4.heap.size w4 W → (Instr.loadAt 33 (.pointer (some ⟨W3.heap.size, 0, none⟩))).run Try.prog W = .ok (.agg #[.int .i64 v, .int .i64 k, .int .u32 s, .int .i64 i, .int .i64 d]) W := fun V hV => by
              obtain ⟨d0, d1, d2, d3, d4⟩ := hd_block ((hV.block W3.heap.size (by rw [hs4]; omega)).trans HX.out)
              simp [Instr.loadAt, go_sem, d0, d1, d2, d3, d4]
            refine wp_region_FS 49 6 4 [44, 47, 48] (FRr w.heap.size L v k s i d) (fun V => Below w4.heap.size w4 V) (fun xs V V' => ∃ A c2, xs 48 = .agg (frC v k s i d (.slice A L.length c2)) ∧ V' = V.setRow w.heap.size (frC v k s i d (.slice A L.length c2))) (by kernel_rfl) (by kernel_rfl) (by rfl) (by kernel_rfl) (by rfl) (by simp) (fun W W' h hb => h.trans (hb.mono h.size)) (fun q x W W' h hb => h.later hb) (Below.refl _ _).drew ?_
            refine wpFS_step (wpF_load (.agg #[.int .i64 v, .int .i64 k, .int .u32 s, .int .i64 i, .int .i64 d]) rfl (by rfl) (by rfl) (by rfl) hload ?_)
            simp only [wpF, Act.put, List.setIfInBounds_toArray, List.set_cons_succ, List.set_cons_zero]
            refine wpFS_step (wpF_src 44 (by simp) rfl rfl rfl (fun V hV => ⟨.slice (some ⟨V.heap.size, 0, none⟩) 0 0, V.alloc (.cells #[] 5), ?_, ?_, (Below.refl _ _).alloc (Nat.le_refl _) _⟩) ?_)
            · simp [go_sem]
            · unfold FRr; rw [if_pos rfl]; exact ⟨_, rfl⟩
            simp only [wpF, Act.put, List.setIfInBounds_toArray, List.set_cons_succ, List.set_cons_zero]
            repeat (refine wpFS_step (wpF_pure rfl rfl ?_); go_big_quiet_step (fail); refine wpQuiet_nil ?_; simp only [wpF])
            refine wpFS_step (wpF_mix 47 [44] (by simp) rfl (by kernel_rfl) (by kernel_rfl) (fun xs => by rfl) (fun xs V hV hx => ?_) ?_)
            · have h44 := hx 44 (by simp)
              unfold FRr at h44
              rw [if_pos rfl] at h44
              obtain ⟨g, e44⟩ := h44
              obtain ⟨b1, o1, ea, hb1, hcl⟩ := HLN.out.below hV (by intro e; have := HL.out; rw [e] at this; simp at this; omega)
              obtain ⟨x', w', hrun, hown, hgr⟩ := run_append_arg_grows (P := Try.prog) (w := V) 22 22 5 i0 (.int .u8 0) 1 1 Try.underlying22 hi0 hz0 hz1 hz2 rfl (by decide)
                ⟨g, 0, none⟩ 0 0 [] (by rfl) (fun j u hj => by simp at hj) ⟨b1, o1, none⟩ (p - 8) (c2 - 8) (L.map (Value.int .u8)) (by rw [List.length_map, HL.out]; omega)
                (fun j u hj => by
                  rw [List.getElem?_map] at hj
                  obtain ⟨y, hy, rfl⟩ := Option.map_eq_some_iff.1 hj
                  rw [Addr.add_lit]
                  exact hcl j y hy) (by omega) (by unfold maxLen; omega) (by omega)
              have hbV : Below V.heap.size V w' := ⟨hgr.os, hgr.tape, hgr.output, hgr.size, fun q hq => hgr.block q hq (by simp)⟩
              have hm : MadeK 5 .u8 V w' L x' := ⟨by rw [HL.out]; simpa using hown, hbV⟩
              obtain ⟨A, c3, rfl, hc3, _⟩ := hm.slice
              refine ⟨_, w', exec_app (.tmp 44) (.tmp 46) 22 rfl (by simp [fill, Act.put, Act.eval, e44]) (by simp [fill, Act.put, Act.eval, ea]) hrun, ?_, hbV⟩
              unfold FRr
              rw [if_neg (by decide)]
              exact ⟨A, c3, by rw [if_pos rfl], hc3, (hm.numsS rfl).more fun j hj => ⟨by have := hV.size; omega, hj.2⟩⟩
            simp only [wpF, Act.put, List.setIfInBounds_toArray, List.set_cons_succ, List.set_cons_zero]
            refine wpFS_step (wpF_mix 48 [47] (by simp) rfl (by kernel_rfl) (by kernel_rfl) (fun xs => by rfl) (fun xs V hV hx => ?_) ?_)
            · have h47 := hx 47 (by simp)
              unfold FRr at h47
              rw [if_neg (by decide)] at h47
              obtain ⟨A, c3, e47, hc3, hn3⟩ := h47
              rw [if_pos rfl] at e47
              refine ⟨.agg (frC v k s i d (.slice A L.length c3)), V, ?_, ?_, Below.refl _ _⟩
              · simp [execOp, fill, Act.put, Act.eval, e47, frC, go_sem]
              · unfold FRr; rw [if_neg (by decide)]; exact ⟨A, c3, by rw [if_neg (by decide)], hc3, hn3⟩
            simp only [wpF, Act.put, List.setIfInBounds_toArray, List.set_cons_succ, List.set_cons_zero]
            refine wpFS_store rfl rfl rfl ⟨w.heap.size, 0, none⟩ (fun xs => xs 48) (fun xs => by simp [fill, Act.put, Act.eval]) (fun xs => by simp [fill, Act.put, Act.eval]) (fun xs V hV hx => ?_) ?_
            · have h48 := hx 48 (by simp)
              unfold FRr at h48
              rw [if_neg (by decide)] at h48
              obtain ⟨A, c3, e48, hc3, hn3⟩ := h48
              rw [if_neg (by decide)] at e48
              refine ⟨_, ?_, A, c3, e48, rfl⟩
              rw [e48]
              exact rf_store V w.heap.size _ _ ((hV.block _ hR4lt).trans HR4.out) rfl rfl (fr_one _ _ _ _ _ _ _ _)
            refine wpFS_pure rfl rfl ?_
            go_big_quiet_step (fail)
            refine wpQuiet_nil ?_
            simp only [wpFS]
            rintro xs V V' hV hx ⟨A, c3, e48, rfl⟩
            have h48 := hx 48 (by simp)
            unfold FRr at h48
            rw [if_neg (by decide), e48] at h48
            obtain ⟨A', c3', e48', hc3, hn3⟩ := h48
            rw [if_neg (by decide)] at e48'
            obtain ⟨rfl, rfl⟩ : A = A' ∧ c3 = c3' := by simpa [frC] using e48'
            simp only [fill, Act.put, List.setIfInBounds_toArray, List.set_cons_succ, List.set_cons_zero]
            have hfin := setRow_heap V w.heap.size _ (frC v k s i d (.slice A L.length c3)) _ _ ((hV.block _ hR4lt).trans HR4.out)
            have hoff := (Off.setRow (S := fun k => k = w.heap.size) (Off.of_below (Below.refl V.heap.size V)) rfl (frC v k s i d (.slice A L.length c3)))
            have hbf : Below w.heap.size w (V.setRow w.heap.size (frC v k s i d (.slice A L.length c3))) := (HB4.out.trans (hV.mono HB4.out.size)).trans (hoff.below (fun k hk => by omega) (by have := hV.size; omega))
            have hnf : NumsS .u8 (V.setRow w.heap.size (frC v k s i d (.slice A L.length c3))) (fun b => w.heap.size ≤ b ∧ b < (V.setRow w.heap.size (frC v k s i d (.slice A L.length c3))).heap.size) A L :=
              (hn3.keeps (S := _) ⟨hoff.size, fun j hj => hoff.block j hj.2 (by omega)⟩).more fun j hj => ⟨by omega, Nat.lt_of_lt_of_le hj.2 hoff.size⟩
            generalize V.setRow w.heap.size (frC v k s i d (.slice A L.length c3)) = Wf at *
            obtain ⟨d0, d1, d2, d3, d4, d5⟩ := fr_block hfin
            clear hx
            generalize xs 44 = x44
            generalize xs 47 = x47
            generalize xs 48 = x48 at *
            go_wp2_with fail
            refine bodyPost_ret (v := .tuple #[frV v k s i d (.slice A L.length c3), .int .i64 0]) (by simp [results, Try.results9, go_sem, frV, frC, d0, d1, d2, d3, d4, d5]) rfl ?_
            rw [HU.out]
            show UnpR w Wf (unB x) _
            rw [HUB.out, HLL.out]
            exact ⟨A, c3, rfl, hc3, hnf, hbf⟩
          · rw [if_neg h0] at HUB
            have h1 : (er != 0) = true := by simpa using h0
            have HE := Lib.hid h0
            clear h0
            go_wp2_with (refine wpList_store_row rfl 35 (.tmp 2) (.tmp 41) rfl w.heap.size (frC 0 0 0 0 0 (.slice none 0 0)) rfl rfl 35 _ HR4a.out rfInfo rfl (fr_one _ _ _ _ _ _ _ _) ?_)
            rw [HW4.out]
            generalize w4.setRow w.heap.size (frC 0 0 0 0 0 (.slice none 0 0)) = Wf at *
            obtain ⟨d0, d1, d2, d3, d4, d5⟩ := fr_block hfin4
            refine bodyPost_ret (v := .tuple #[frV 0 0 0 0 0 (.slice none 0 0), .int .i64 er]) (by simp [results, Try.results9, go_sem, frV, frC, d0, d1, d2, d3, d4, d5]) rfl ?_
            rw [HU.out]
            show UnpR w Wf (unB x) _
            rw [HUB.out]
            exact UnpR.no rfl hbf4
        · rw [ho] at K2 HUB
          rw [if_neg (by decide)] at HUB
          clear ho hxlen
          go_wp2_with fail
          refine K2.mono ?_
          rintro e w2 ⟨A2, c2, rfl, _, _, hb2⟩
          clear K2
          obtain ⟨hR1, hfin, hbf⟩ := HF0.out w2 (hb01.trans (hb2.mono hb01.size))
          have HR1 := Lib.hid hR1
          clear hR1 hb01 hb2
          go_wp2_with (refine wpList_store_row rfl 35 (.tmp 2) (.tmp 31) rfl w.heap.size (frC 0 0 0 0 0 (.slice none 0 0)) rfl rfl 35 _ HR1.out rfInfo rfl (fr_one _ _ _ _ _ _ _ _) ?_)
          generalize w2.setRow w.heap.size (frC 0 0 0 0 0 (.slice none 0 0)) = Wf at *
          obtain ⟨d0, d1, d2, d3, d4, d5⟩ := fr_block hfin
          refine bodyPost_ret (v := .tuple #[frV 0 0 0 0 0 (.slice none 0 0), .int .i64 11]) (by simp [results, Try.results9, go_sem, frV, frC, d0, d1, d2, d3, d4, d5]) rfl ?_
          rw [HU.out]
          show UnpR w Wf (unB x) _
          rw [HUB.out]
          exact UnpR.no rfl hbf
end Go.Proofs.Ytbohdmconeebeaa

namespace Go.Proofs.Ytbohdmconeebeaa
open Go.RowKit Go.Shelf
set_option maxRecDepth 100000
attribute [local go_sem] Oper.semAt_some

theorem unB_ok {b L : List Int} {v k s i d : Int} (hb : Bytes b) (hl : b.length ≤ 254) (h : unB b = (((v, k, s, i, d), L), 0)) : fchk v k i d L.length = 0 ∧ 0 ≤ s ∧ s ≤ 4294967295 ∧ fblk v k s i d L = b ∧ Bytes L := by
  unfold unB at h
  by_cases h12 : b.length ≤ 12
  · rw [if_pos h12] at h; simp [noFr] at h
  · rw [if_neg h12] at h
    by_cases hs : Cr.le4 (Cr.sum (b.take (b.length - 4))) = b.drop (b.length - 4)
    · rw [if_pos hs] at h
      by_cases hp : (prs (b.take 8)).2 = 0
      · rw [if_pos hp] at h
        injection h with h _
        injection h with h hL
        have hpp : prs (b.take 8) = ((v, k, s, i, d), 0) := by rw [← h, ← hp]
        obtain ⟨hk, s0, s1, hB, _⟩ := prs_ok (hb.take 8) hpp
        have hLl : L.length = b.length - 12 := by rw [← hL, List.length_drop, List.length_take]; omega
        refine ⟨?_, s0, s1, ?_, by rw [← hL]; exact (hb.take _).drop _⟩
        · unfold fchk
          rw [if_neg (by simpa using hk), if_neg (by omega), if_neg (by omega)]
        · have h8 : hdB v k s i d ++ L = b.take (b.length - 4) := by
            rw [hB, ← hL]
            have : b.take 8 = (b.take (b.length - 4)).take 8 := by rw [List.take_take]; congr 1; omega
            rw [this]
            exact List.take_append_drop 8 _
          unfold fblk sld
          rw [h8, hs]
          exact List.take_append_drop _ _
      · rw [if_neg hp] at h
        injection h with _ h
        exact absurd h hp
    · rw [if_neg hs] at h; simp [noFr] at h
theorem unS_ok {zs L : List Int} {v k s i d : Int} (hz : Bytes zs) (h : unS zs = (((v, k, s, i, d), L), 0)) : fchk v k i d L.length = 0 ∧ 0 ≤ s ∧ s ≤ 4294967295 ∧ Cb.enc (fblk v k s i d L) = zs ∧ Bytes L := by
  unfold unS at h
  by_cases h255 : 255 < zs.length
  · rw [if_pos h255] at h; simp [noFr] at h
  · rw [if_neg h255] at h
    cases hd : Cb.dec false zs with
    | none => rw [hd] at h; simp [noFr] at h
    | some b =>
      rw [hd] at h
      have hlen := dec_shorter hz hd
      obtain ⟨h1, h2, h3, h4, h5⟩ := unB_ok (decoded_bytes hz hd) (by omega) h
      exact ⟨h1, h2, h3, by rw [h4]; exact (Cb.dec_iff hz.lt).1 hd, h5⟩
theorem unB_len {b : List Int} (h : b.length ≤ 100000) : (unB b).1.2.length ≤ 100000 := by
  unfold unB
  split
  · simp [noFr]
  · split
    · split
      · simp only [List.length_drop, List.length_take]; omega
      · simp [noFr]
    · simp [noFr]
theorem unS_len {zs : List Int} (hz : Bytes zs) (h : zs.length ≤ 100000) : (unS zs).1.2.length ≤ 100000 := by
  unfold unS
  split
  · simp [noFr]
  · cases hd : Cb.dec false zs with
    | none => simp [noFr]
    | some b => exact unB_len (by have := dec_shorter hz hd; omega)

theorem of_frame (v k s i c : Int) (A : Option Addr) (n cp : Nat) (w : World) : Calls Try.prog 11 #[frV v k s i c (.slice A n cp)] w fun e w' => e = .returned (frV v k s i c (.slice A n cp)) ∧ Below w.heap.size w w' := by
  have hb : Below w.heap.size w ((w.alloc (.cells (frC v k s i c (.slice A n cp)) 29)).alloc (.cells (frC v k s i c (.slice A n cp)) 35)) := ((Below.refl _ w).alloc (Nat.le_refl _) _).alloc (by simp) _
  have HB := Lib.hid hb
  unfold frV
  have HF : Hid (frC v k s i c (.slice A n cp) = #[.int .i64 v, .int .i64 k, .int .u32 s, .int .i64 i, .int .i64 c, .slice A n cp]) := rfl
  rw [HF.out] at HB ⊢
  clear hb
  go_enter Try.func11, Try.ntmps11
  go_wp2
  refine bodyPost_ret (v := .agg #[.int .i64 v, .int .i64 k, .int .u32 s, .int .i64 i, .int .i64 c, .slice A n cp]) (by simp [results, Try.results11, go_sem]) rfl ?_
  exact ⟨rfl, HB.out⟩
end Go.Proofs.Ytbohdmconeebeaa

namespace Go.Proofs.Ytbohdmconeebeaa
open Go.RowKit Go.Shelf
set_option maxRecDepth 100000
attribute [local go_sem] Oper.semAt_some

theorem sameZ_refl (v k s i c : Int) (xs : List Int) : sameZ v k s i c v k s i c xs xs = true := by simp [sameZ]

set_option maxHeartbeats 8000000 in
theorem unpacks_go (a : Option Addr) (n m c : Nat) (es : List Int) (w : World) (hn : es.length = n) (hc : n ≤ c) (hz : Bytes es) (h1 : Nums .u8 w w.heap.size a es)
    (hm : min (n : Int) 300 = (m : Int)) (hmn : m ≤ n) (hm2 : m ≤ 300) :
    Calls Try.prog 3 #[.slice a n c] w fun e w' => e = .returned (.bool true) ∧ Below w.heap.size w w' := by
  have hmc : (m : Int) ≤ (c : Int) := by omega
  have hlen : (es.take m).length = m := by rw [List.length_take]; omega
  have hzb := hz.take m
  have hnum := h1.take m
  generalize es.take m = bs at *
  clear hz h1 hn
  have HZ := Lib.hid hzb
  have HL := Lib.hid hlen
  have HNM := Lib.hid hnum
  go_enter Try.func3, Try.ntmps3
  go_wp2_with fail
  refine (fnew_any _).mono ?_
  rintro e w1 ⟨rfl, hcd, hb1, -⟩
  generalize w.heap.size + 1 = cb at *
  have K := funpack_any cb a m c bs w1 hcd hlen (by omega) (by omega) hzb ((hnum.below hb1).mono hb1.size)
  obtain ⟨⟨⟨⟨v, k, s, i, d⟩, L⟩, er⟩, hP⟩ : ∃ y, unS bs = y := ⟨_, rfl⟩
  have hLl := unS_len hzb (by omega)
  rw [hP] at K hLl
  simp only [] at hLl
  have HP := Lib.hid hP
  have HC := Lib.hid hcd
  have HB1 := Lib.hid hb1
  clear hP hcd hb1 hlen hzb hnum
  go_wp2_with fail
  refine K.mono ?_
  rintro e w2 ⟨A1, c1, rfl, hc1, hn1, hb2⟩
  replace hn1 := hn1.nums (B := w2.heap.size) fun k hk => hk.2
  clear K
  simp only [frP] at hc1 hn1 ⊢
  unfold frV frC
  have HN1 := Lib.hid hn1
  have HB12 := Lib.hid hb2
  have hb02 := HB1.out.trans (hb2.mono HB1.out.size)
  have HB2 := Lib.hid hb02
  clear hn1 hb2 hb02
  have hf1 : (w2.alloc (.cells (frC v k s i d (.slice A1 L.length c1)) 29)).heap[w2.heap.size]? = some (.cells (frC v k s i d (.slice A1 L.length c1)) 29 (0, 0)) := World.alloc_heap_new _ _
  obtain ⟨w3, hw3⟩ : ∃ w3, w2.alloc (.cells (frC v k s i d (.slice A1 L.length c1)) 29) = w3 := ⟨_, rfl⟩
  have hb23 : Below w2.heap.size w2 w3 := by rw [← hw3]; exact (Below.refl _ w2).alloc (Nat.le_refl _) _
  have hs3 : w3.heap.size = w2.heap.size + 1 := by rw [← hw3]; simp
  rw [hw3] at hf1
  have hb03 := HB2.out.trans (hb23.mono HB2.out.size)
  have K := rfunpack_any a m c bs w3 HL.out (by omega) HZ.out ((HNM.out.below hb03).mono hb03.size)
  rw [HP.out] at K
  have HW3 := Lib.hid hw3
  have HF1 := Lib.hid hf1
  have HB3 := Lib.hid hb03
  have HB23 := Lib.hid hb23
  have HS3 := Lib.hid hs3
  have HFC : Hid (frC v k s i d (.slice A1 L.length c1) = #[.int .i64 v, .int .i64 k, .int .u32 s, .int .i64 i, .int .i64 d, .slice A1 L.length c1]) := rfl
  rw [HFC.out] at HW3
  clear hw3 hf1 hb03 hb23 hs3
  go_wp2_with fail
  rw [HW3.out]
  refine K.mono ?_
  rintro e w4 ⟨A2, c2, rfl, hc2, hn2, hb4⟩
  replace hn2 := hn2.nums (B := w4.heap.size) fun k hk => hk.2
  clear K
  simp only [frP] at hc2 hn2 ⊢
  unfold frV frC
  obtain ⟨w5, hw5⟩ : ∃ w5, w4.alloc (.cells (frC v k s i d (.slice A2 L.length c2)) 35) = w5 := ⟨_, rfl⟩
  have hb45 : Below w4.heap.size w4 w5 := by rw [← hw5]; exact (Below.refl _ w4).alloc (Nat.le_refl _) _
  have hs5 : w5.heap.size = w4.heap.size + 1 := by rw [← hw5]; simp
  have hf2 : w5.heap[w4.heap.size]? = some (.cells (frC v k s i d (.slice A2 L.length c2)) 35 (0, 0)) := by rw [← hw5]; exact World.alloc_heap_new _ _
  have hb35 := hb4.trans (hb45.mono hb4.size)
  have hb25 := HB23.out.trans (hb35.mono HB23.out.size)
  have hf1 : w5.heap[w2.heap.size]? = some (.cells (frC v k s i d (.slice A1 L.length c1)) 29 (0, 0)) := (hb35.block _ (by rw [HS3.out]; omega)).trans HF1.out
  have hn15 := (HN1.out.below hb25).mono hb25.size
  have hn25 := (hn2.below hb45).mono hb45.size
  have hb05 := HB2.out.trans (hb25.mono HB2.out.size)
  have hc5 := (HC.out.below ((by exact HB12.out : Below w1.heap.size w1 w2).trans (hb25.mono HB12.out.size))).mono (Nat.le_trans HB12.out.size hb25.size)
  have hw2lt : w2.heap.size < w5.heap.size := by have := hb25.size; have := HS3.out; have := hb35.size; omega
  have hw4lt : w4.heap.size < w5.heap.size := by omega
  have hl1 : ∀ W, Below w5.heap.size w5 W → (Instr.loadAt 29 (.pointer (some ⟨w2.heap.size, 0, none⟩))).run Try.prog W = .ok (.agg #[.int .i64 v, .int .i64 k, .int .u32 s, .int .i64 i, .int .i64 d, .slice A1 L.length c1]) W := fun V hV => by
    obtain ⟨d0, d1, d2, d3, d4, d5⟩ := fr_block ((hV.block _ hw2lt).trans hf1)
    simp [Instr.loadAt, go_sem, d0, d1, d2, d3, d4, d5]
  have hl2 : ∀ W, Below w5.heap.size w5 W → (Instr.loadAt 35 (.pointer (some ⟨w4.heap.size, 0, none⟩))).run Try.prog W = .ok (.agg #[.int .i64 v, .int .i64 k, .int .u32 s, .int .i64 i, .int .i64 d, .slice A2 L.length c2]) W := fun V hV => by
    obtain ⟨d0, d1, d2, d3, d4, d5⟩ := fr_block ((hV.block _ hw4lt).trans hf2)
    simp [Instr.loadAt, go_sem, d0, d1, d2, d3, d4, d5]
  have hOf : ∀ W, Calls Try.prog 11 #[.agg #[.int .i64 v, .int .i64 k, .int .u32 s, .int .i64 i, .int .i64 d, .slice A1 L.length c1]] W fun e w'' => e = .returned (.agg #[.int .i64 v, .int .i64 k, .int .u32 s, .int .i64 i, .int .i64 d, .slice A1 L.length c1]) ∧ Below W.heap.size W w'' := fun W => of_frame v k s i d A1 L.length c1 W
  have hSm : ∀ W, Below w5.heap.size w5 W → Calls Try.prog 10 #[.agg #[.int .i64 v, .int .i64 k, .int .u32 s, .int .i64 i, .int .i64 d, .slice A1 L.length c1], .agg #[.int .i64 v, .int .i64 k, .int .u32 s, .int .i64 i, .int .i64 d, .slice A2 L.length c2]] W fun e w'' => e = .returned (.bool true) ∧ Below W.heap.size W w'' := fun W hW => by
    have h := rfsame_any v k s i d v k s i d W.heap.size A1 A2 L.length c1 L.length c2 L L W rfl rfl (by omega) (Nat.le_refl _) ((hn15.below hW).mono hW.size) ((hn25.below hW).mono hW.size)
    rw [sameZ_refl] at h
    exact h
  have hne : (er != er) = false := by simp
  unfold frC at hw5
  have HW5 := Lib.hid hw5
  have HB5 := Lib.hid hb05
  have HC5 := Lib.hid hc5
  have HN15 := Lib.hid hn15
  have HF15 := Lib.hid hf1
  clear hw5 hb45 hs5 hf2 hb35 hb25 hf1 hn15 hn25 hb05 hc5 hb4 hn2 HN1 HW3 HF1 HB23 HS3
  go_wp2_with fail
  rw [HW5.out]
  refine wp_region_F 56 [] (fun _ _ _ => True) (fun W => Below w5.heap.size w5 W) (by kernel_rfl) (by kernel_rfl) (by rfl) (by simp) (fun W W' h hb => h.trans (hb.mono h.size)) (fun q x W W' h hb => trivial) (Below.refl _ _).drew ?_
  repeat (refine wpF_pure rfl rfl ?_; go_big_quiet_step (fail); refine wpQuiet_nil ?_)
  refine wpF_load (.agg #[.int .i64 v, .int .i64 k, .int .u32 s, .int .i64 i, .int .i64 d, .slice A1 L.length c1]) rfl (by rfl) (by rfl) (by rfl) hl1 ?_
  simp only [Act.put, List.setIfInBounds_toArray, List.set_cons_succ, List.set_cons_zero]
  refine wpF_call (f := 11) (args := #[.agg #[.int .i64 v, .int .i64 k, .int .u32 s, .int .i64 i, .int .i64 d, .slice A1 L.length c1]]) (.agg #[.int .i64 v, .int .i64 k, .int .u32 s, .int .i64 i, .int .i64 d, .slice A1 L.length c1]) rfl rfl (fun x => by first | rfl | (simp [go_sem]; done)) (fun W _ => hOf W) ?_
  simp only [Act.put, List.setIfInBounds_toArray, List.set_cons_succ, List.set_cons_zero]
  refine wpF_load (.agg #[.int .i64 v, .int .i64 k, .int .u32 s, .int .i64 i, .int .i64 d, .slice A2 L.length c2]) rfl (by rfl) (by rfl) (by rfl) hl2 ?_
  simp only [Act.put, List.setIfInBounds_toArray, List.set_cons_succ, List.set_cons_zero]
  refine wpF_call (f := 10) (args := #[.agg #[.int .i64 v, .int .i64 k, .int .u32 s, .int .i64 i, .int .i64 d, .slice A1 L.length c1], .agg #[.int .i64 v, .int .i64 k, .int .u32 s, .int .i64 i, .int .i64 d, .slice A2 L.length c2]]) (.bool true) rfl rfl (fun x => by first | rfl | (simp [go_sem]; done)) (fun W hW => hSm W hW) ?_
  simp only [Act.put, List.setIfInBounds_toArray, List.set_cons_succ, List.set_cons_zero]
  repeat (refine wpF_pure rfl rfl ?_; go_big_quiet_step (fail); refine wpQuiet_nil ?_)
  intro xs W hW _
  simp only [fill]
  have hbW := HB5.out.trans (hW.mono HB5.out.size)
  have HBW := Lib.hid hbW
  have hcW := (HC5.out.below hW).mono hW.size
  have hnW := (HN15.out.below hW).mono hW.size
  have hfW := (hW.block _ hw2lt).trans HF15.out
  have HFW := Lib.hid hfW
  have HCW := Lib.hid hcW
  have HNW := Lib.hid hnW
  clear hbW hcW hnW hfW hl1 hl2 hOf hSm HW5 HB5 HC5 HN15 HF15 hW hw2lt hw4lt
  by_cases h0 : er = 0
  · subst h0
    obtain ⟨hk0, hs0, hs1, henc, hLb⟩ := unS_ok HZ.out HP.out
    have K := fsegment_any cb v k s i d A1 L.length c1 L ⟨hs0, hs1⟩ W HCW.out rfl hc1 hLb HNW.out
    rw [hk0, henc] at K
    unfold frV at K
    obtain ⟨d0, d1, d2, d3, d4, d5⟩ := fr_block HFW.out
    unfold frC at K
    clear hk0 hs0 hs1 henc hLb
    go_wp2_with fail
    refine K.mono ?_
    rintro e W1 (⟨h, _⟩ | ⟨_, vv, rfl, hm⟩)
    · exact absurd rfl h
    clear K d0 d1 d2 d3 d4 d5
    obtain ⟨A6, c6, rfl, _, hn6⟩ := hm.slice
    have HB6 := Lib.hid (HBW.out.trans (hm.2.mono HBW.out.size))
    have HN6 := Lib.hid hn6
    clear hm hn6
    rw [HL.out]
    go_wp2_with fail
    refine (fknown_any _).mono ?_
    rintro e W2 ⟨rfl, hb7⟩
    have HB7 := Lib.hid (HB6.out.trans (hb7.mono HB6.out.size))
    have KS := same_any W2.heap.size A6 a m m c6 c bs bs W2 HL.out HL.out (by omega) ((HN6.out.below hb7).mono hb7.size) ((HNM.out.below HB7.out).mono HB7.out.size)
    rw [decide_eq_true rfl] at KS
    clear hb7
    go_wp2_with fail
    refine KS.mono ?_
    rintro e W3 ⟨rfl, q, hq⟩
    have HB8 : Hid (Below w.heap.size w W3) := by rw [hq]; exact below_drewN HB7.out q
    clear KS hq
    go_wp2
    go_ret
    exact ⟨rfl, HB8.out⟩
  · have h1 : (er != 0) = true := by simpa using h0
    have HE := Lib.hid h0
    clear h0
    go_wp2_with fail
    refine (fknown_any _).mono ?_
    rintro e W2 ⟨rfl, hb7⟩
    have HB7 := Lib.hid (HBW.out.trans (hb7.mono HBW.out.size))
    clear hb7
    go_wp2
    go_ret
    exact ⟨rfl, HB7.out⟩
theorem walk_funpacks (a0 : Option Addr) (len0 cap0 : Nat) (z0 : List Int) (w : World) (w0 : IsRow .u8 w a0 len0 cap0 z0) :
    Calls Try.prog 3 #[.slice a0 len0 cap0] w fun e w' => e = .returned (.bool true) ∧ Below w.heap.size w w' := by
  obtain ⟨e0, l0, q0, m0, k0, r0⟩ := w0.elems
  exact unpacks_go a0 len0 (min len0 300) cap0 e0 w l0 q0 (bytes_of r0) k0 (by omega) (by omega) (by omega)
end Go.Proofs.Ytbohdmconeebeaa

namespace Go.Proofs.Ytbohdmconeebeaa.frameUnpacks
open Go.ChangeShapes Go.WideShapes Go.ChangeAt Go.RowKit
open Go.ChangeMaps (open_string shut_string)
set_option linter.unusedVariables false

theorem own : ownKnob Try.prog.godebug = none := by kernel_rfl
theorem laidOut : laidOutB Try.prog = true := by kernel_rfl

theorem walk (a0 : Option Addr) (len0 cap0 : Nat) (z0 : List Int) (w : World) (w0 : IsRow .u8 w a0 len0 cap0 z0) :
    Calls Try.prog 3 #[.slice a0 len0 cap0] w fun e w' => e = .returned (.bool true) ∧ Below w.heap.size w w' := walk_funpacks a0 len0 cap0 z0 w w0

set_option maxRecDepth 100000 in
theorem lifted (os : Os) (started : os.Started) (H : Type) (enc : TypeId × Value → H) :
    ReturnsInHanded {} Try.checked os 3 .any (Rows.frameUnpacksSpec.pre6 enc Try.prog Try.f3 Rows.frameUnpacksRow.domain false) (Rows.frameUnpacksSpec.post enc Try.prog Try.f3 false true false false) := by
  refine returnsInHanded_of_change (C := Try.checked) own started (by kernel_rfl) Try.func3
    (ChangeSpec.witness6 (enc := enc) (C := Try.checked) false ⟨#[], #[.slice none 0 0], []⟩ 8 (by kernel_rfl) (by kernel_rfl) (by kernel_rfl) (by kernel_rfl)) ?_
  intro W base args ds gs before hval0 hW hcnd _
  have hval : ∀ (j : Nat) t v, Try.f3.params[j]? = some t → args[j]? = some v → Value.okWide Try.prog W .any base t v := hval0
  have hW' := hW
  obtain ⟨p, q, hA0, hV, rfl, hfz, hnd⟩ := hW
  have hA : DataW.TrodAll enc Try.prog W 0 (fun _ => true) true Try.f3.params.toList args.toList ds p := hA0
  rw [Try.params3] at hA hval
  obtain ⟨v0, vs0, d0, ds0, p0, q0, hargs, rfl, rfl, h0, r0⟩ := trodAll_cons hA
  obtain ⟨rfl, rfl, rfl⟩ := trodAll_nil r0
  obtain rfl : args = #[v0] := by cases args; simp_all
  obtain ⟨rfl, rfl⟩ := trodVars_none hV
  obtain ⟨a0, len0, cap0, rfl⟩ := okWide_slice Try.underlying22 (hval 0 22 v0 rfl rfl)
  have k0 := h0
  have lt0 : ∀ x ∈ p0, x.block < W.heap.size := by obtain ⟨m, hm⟩ := k0; exact DataW.trod_lt m _ _ _ hm
  obtain ⟨z0, w0⟩ : ∃ zs, IsRow .u8 W a0 len0 cap0 zs := by
    obtain ⟨fuel, hf⟩ := h0
    rcases open_ints Try.underlying22 Try.underlying5 (by kernel_rfl) hf with ⟨hcs, _⟩ | ⟨x, l, c, zs, hcs, _, hl, hm, hz, _, hcell, hwz⟩
    · simp [Value.cells] at hcs
      obtain ⟨rfl, rfl, rfl⟩ := hcs
      exact ⟨[], .inl ⟨rfl, rfl, rfl, rfl⟩⟩
    · simp [Value.cells] at hcs
      obtain ⟨rfl, rfl, rfl⟩ := hcs
      exact ⟨zs, .inr ⟨_, rfl, hl, hm, by simpa using hz, hcell, hwz⟩⟩
  clear hA0 hval0
  refine (walk a0 len0 cap0 z0 W w0).mono fun e W' ⟨he, bel⟩ => ?_
  subst he
  exact ⟨_, rfl, _, _, _, [], _, [], hW', trodAll_mk1 (shut_bool Try.underlying4 _), (trodAll_cons_mk (Below.trod laidOut (by kernel_rfl) (of_decide_eq_true (by kernel_rfl)) k0 bel lt0) trodAll_mk0), rfl, bel.frame _, fun h => by cases h⟩

theorem over : Rows.frameUnpacksRow.holds Try.pinned (OpenSpec.ofChange Rows.frameUnpacksSpec) :=
  OpenClaim.holds_of_wide 3 Try.f3 rfl rfl rfl rfl rfl rfl rfl ⟨rfl, rfl, rfl, rfl, rfl⟩ rfl rfl rfl rfl rfl (by kernel_rfl) Try.func3 (by kernel_rfl)
    (of_decide_eq_true (by kernel_rfl)) (by unfold Func.isWrapper; first | (rw [if_pos (by decide +kernel)]; kernel_rfl) | (rw [if_neg (by decide +kernel)]; exact ⟨rfl, rfl⟩))
    (fun os started H enc _ => lifted os started H enc)

theorem proved : Rows.FrameUnpacksSaid := over
#print axioms proved
end Go.Proofs.Ytbohdmconeebeaa.frameUnpacks
