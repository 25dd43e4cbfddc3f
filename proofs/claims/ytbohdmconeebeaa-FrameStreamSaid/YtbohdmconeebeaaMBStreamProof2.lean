/-
  The law FrameStream returns true at every row and every stop.
-/
import Derived.ArgAppend
import Derived.Test.YtbohdmconeebeaaRows
import Derived.Maps.AppendAt
import Derived.OrdersIn
import Derived.TacticsIn
import Derived.RangeFuncCalls
import Derived.Below
import Derived.WalkKit
import Derived.ProofKit
import Derived.OpenShut
import Derived.ShutString
import Derived.ChangeOld
import Derived.Test.YtbohdmconeebeaaMBStreamProof1
namespace Go.Proofs.Ytbohdmconeebeaa
open Go.RowKit
set_option maxRecDepth 100000

theorem MadeK.on {e : TypeId} {k : IntKind} {w w1 w2 : World} {L : List Int} {v : Value} (h : MadeK e k w w1 L v) (hb : Below w1.heap.size w1 w2) : MadeK e k w w2 L v := by
  refine ⟨⟨h.1.1, ?_⟩, h.2.trans (hb.mono h.2.size)⟩
  rcases h.1.2 with h0 | ⟨g, cap, cur, hv, hg, hh, rest⟩
  · exact .inl h0
  · exact .inr ⟨g, cap, cur, hv, hg, (hb.block g (Array.getElem?_eq_some_iff.1 hh).1).trans hh, rest⟩

/-- what is known at a place of bytes, if some are these, stuffed: what has been decoded, and what is left; or all -/
def Dp (zs : List Int) (at_ : Nat) (o : List Int) : Prop :=
  ∀ x, Cb.enc x = zs → (at_ < zs.length ∧ ∃ y, x = o ++ y ∧ Cb.enc y = zs.drop at_) ∨ (at_ = zs.length ∧ x = o)
theorem Dp.start (zs : List Int) : Dp zs 0 [] := fun x h => .inl ⟨by
    have := Cb.enc_ne x
    rw [h] at this
    exact List.length_pos_iff.2 this, x, rfl, by simpa using h⟩
/-- one code on: q the code, the bytes behind it, and a 0, if the code is below 255 and something is left -/
theorem Dp.next {zs o : List Int} {p q : Nat} (h : Dp zs p o) (hp : p < zs.length) (hq : zs[p]? = some (q : Int)) :
    Dp zs (p + q) (if q < 255 ∧ p + q < zs.length then (o ++ (zs.drop (p + 1)).take (q - 1)) ++ [0] else o ++ (zs.drop (p + 1)).take (q - 1)) := by
  intro x hx
  rcases h x hx with ⟨_, y, hxy, hy⟩ | ⟨h0, _⟩
  · have hd : zs.drop p = (q : Int) :: zs.drop (p + 1) := by
      rw [List.getElem?_eq_getElem hp] at hq
      injection hq with hq
      rw [← hq, List.getElem_cons_drop]
    rw [hd] at hy
    have hlen : zs.length = p + (1 + (zs.drop (p + 1)).length) := by rw [List.length_drop]; omega
    have hdd : ∀ m, zs.drop (p + (m + 1)) = (zs.drop (p + 1)).drop m := fun m => by rw [List.drop_drop]; congr 1; omega
    rcases Cb.shape y with ⟨ha, hb⟩ | ⟨b, r, ha, hb, rfl⟩ | ⟨b, r, ha, hb, hc, rfl⟩
    · rw [Cb.enc_last ha hb, Cb.one] at hy
      injection hy with h1 h2
      have hq1 : q = y.length + 1 := by omega
      have hl2 := congrArg List.length h2
      rw [← h2, hq1, Nat.add_sub_cancel, List.take_length, if_neg (by omega)]
      exact .inr ⟨by omega, hxy⟩
    · rw [Cb.enc_nought ha hb, Cb.one, List.cons_append] at hy
      injection hy with h1 h2
      have hq1 : q = b.length + 1 := by omega
      have hl2 := congrArg List.length h2
      have hr := List.length_pos_iff.2 (Cb.enc_ne r)
      rw [List.length_append] at hl2
      rw [hq1, Nat.add_sub_cancel, if_pos (by omega), hdd b.length, ← h2]
      refine .inl ⟨by omega, r, by rw [hxy]; simp, ?_⟩
      exact (List.drop_left' rfl).symm
    · rw [Cb.enc_full ha hb hc, Cb.one, List.cons_append] at hy
      injection hy with h1 h2
      have hq1 : q = b.length + 1 := by omega
      have hl2 := congrArg List.length h2
      have hr := List.length_pos_iff.2 (Cb.enc_ne r)
      rw [List.length_append] at hl2
      rw [hq1, Nat.add_sub_cancel, if_neg (by omega), hdd b.length, ← h2]
      refine .inl ⟨by omega, r, by rw [hxy]; simp, ?_⟩
      exact (List.drop_left' rfl).symm
  · omega
/-- behind all codes -/
theorem Dp.fin {zs o : List Int} {p : Nat} (h : Dp zs p o) (hz : ∀ z ∈ zs, z < 256) (hp : zs.length ≤ p) : Cb.dec false zs = if Cb.enc o = zs then some o else none := by
  by_cases he : Cb.enc o = zs
  · rw [if_pos he]; exact (Cb.dec_iff hz).2 he
  · rw [if_neg he]
    cases hd : Cb.dec false zs with
    | none => rfl
    | some x =>
      have h1 := (Cb.dec_iff hz).1 hd
      rcases h x h1 with ⟨h2, _⟩ | ⟨_, h2⟩
      · omega
      · rw [h2] at h1; exact absurd h1 he
theorem dec_nought {zs : List Int} (hz : ∀ z ∈ zs, z < 256) (h : 0 ∈ zs) : Cb.dec false zs = none := by
  cases hd : Cb.dec false zs with
  | none => rfl
  | some x =>
    have h1 := (Cb.dec_iff hz).1 hd
    have h2 := Cb.enc_nz x
    rw [h1] at h2
    exact absurd rfl (h2 0 h)

set_option maxHeartbeats 4000000 in
theorem rdecode_any (a : Option Addr) (n c : Nat) (zs : List Int) (w : World) (hn : zs.length = n) (hl : n ≤ 100000) (hz : Bytes zs) (h1 : Nums .u8 w w.heap.size a zs) :
    Calls Try.prog 25 #[.slice a n c] w fun e w' => DecR w (Cb.dec false zs) e w' := by
  obtain ⟨i0, hi, hz0, hz1, hz2⟩ := info_parts byteInfo
  have HL := Lib.hid hn
  have HZ := Lib.hid hz
  clear hn hz
  go_enter Try.func25, Try.ntmps25
  go_wp2
  go_loopw [4, 5] (fun v pv wr => ∃ (p : Nat) (o : List Int), pv = .int .i64 p ∧ p ≤ n + 255 ∧ o.length ≤ p ∧ Hid (Bytes o) ∧ Hid (Dp zs p o) ∧ Hid (MadeK 5 .u8 w wr o v)) (fun _ pv _ => n - (intOf pv).toNat)
  case atStart => exact ⟨0, [], rfl, by omega, by simp, fun z hz => by simp at hz, Dp.start zs, MadeK.nil _ _ (Below.refl _ _)⟩
  case round =>
    obtain ⟨p, o, rfl, hpn, hop, HO, HD, HM⟩ := hrel
    have hbe := HM.out.2
    have hsz := hbe.size
    by_cases hlt : p < n
    · obtain ⟨z, hzk⟩ : ∃ z, zs[p]? = some z := ⟨_, List.getElem?_eq_getElem (by rw [HL.out]; exact hlt)⟩
      have hzb := HZ.out z (List.mem_of_getElem? hzk)
      obtain ⟨q, rfl⟩ : ∃ q : Nat, z = (q : Int) := ⟨z.toNat, by omega⟩
      obtain ⟨b1, o1, rfl, hb1, hc1⟩ := (h1.below hbe).open hzk
      have hlt' : (p : Int) < (n : Int) := by omega
      have HDn := Lib.hid (HD.out.next (by rw [HL.out]; exact hlt) hzk)
      have hq256 : q < 256 := by omega
      have HK := Lib.hid hzk
      clear hzb hzk
      go_wp2
      go_loopw [4, 7] (fun v iv wx => ∃ (i : Nat), iv = .int .i64 ((i + 1 : Nat) : Int) ∧ i ≤ q - 1 ∧ p + 1 + i ≤ n ∧ Hid (MadeK 5 .u8 w wx (o ++ (zs.drop (p + 1)).take i) v)) (fun _ iv _ => n + q - (intOf iv).toNat)
      case atStart => exact ⟨0, rfl, by omega, by omega, by show MadeK _ _ _ _ _ _; simpa using HM.out⟩
      case round =>
        obtain ⟨i, rfl, hiq, hin, HMi⟩ := hrel
        have hbi := HMi.out.2
        have hszi := hbi.size
        have hti : ((zs.drop (p + 1)).take i).length = i := by rw [List.length_take, List.length_drop, HL.out]; omega
        have HTi := Lib.hid hti
        clear hti
        by_cases hgo : i + 1 < q ∧ p + (i + 1) < n
        · obtain ⟨hg1, hg2⟩ := hgo
          obtain ⟨z, hz2k⟩ : ∃ z, zs[p + (i + 1)]? = some z := ⟨_, List.getElem?_eq_getElem (by rw [HL.out]; exact hg2)⟩
          obtain ⟨b2, o2, e2, hb2, hc2⟩ := (h1.below hbi).open hz2k
          injection e2 with e2
          injection e2 with e3 e4
          subst e3 e4
          have hg1' : ((i + 1 : Nat) : Int) < (q : Int) := by omega
          have hg2' : (p : Int) + ((i + 1 : Nat) : Int) < (n : Int) := by omega
          have HT : Hid ((zs.drop (p + 1)).take (i + 1) = (zs.drop (p + 1)).take i ++ [z]) := by
            show _ = _
            rw [List.take_add_one, List.getElem?_drop, show p + 1 + i = p + (i + 1) by omega, hz2k]; rfl
          have HZ1 := Lib.hid (Nums.new .u8 wr 5 [z] #[.int .u8 z] rfl)
          have HX1 : Hid ((o ++ (zs.drop (p + 1)).take i).length + 1 ≤ maxLen) := by show _ ≤ _; rw [List.length_append, HTi.out]; unfold maxLen; omega
          have HX2 : Hid (((o ++ (zs.drop (p + 1)).take i).length + 1) * 1 ≤ 140737488355328) := by show _ ≤ _; rw [List.length_append, HTi.out]; omega
          have HX3 : Hid (w.heap.size ≤ (wr.alloc (.cells #[.int .u8 z] 5)).heap.size) := by show _ ≤ _; rw [World.size_alloc]; omega
          obtain ⟨I, hI⟩ : ∃ I, i + 1 = I := ⟨_, rfl⟩
          rw [hI] at hg1' hg2' hc2 hg2 ⊢
          have HI := Lib.hid hI
          clear hI hz2k
          go_wp2_with (at_builtin; refine wpList_append_any rfl (.tmp 30) (.tmp 37) 22 rfl w.heap.size 5 i0 (.int .u8 0) 1 Try.underlying22 hi hz0 hz1 hz2 rfl .u8 (o ++ (zs.drop (p + 1)).take i) [z] _ rfl (HMi.out.1.alloc _) _ 1 1 _ rfl rfl HZ1.out HX1.out HX2.out HX3.out ?_)
          intro v2 w2 hown hg
          have HM2 := Lib.hid ((HMi.out.later (.cells #[.int .u8 z] 5)).more (zs := [z]) (v' := v2) (by simpa [Nat.add_assoc] using hown) hg)
          clear hown hg
          go_wp2
          go_roundw
          case rel => exact ⟨i + 1, by rw [HI.out]; go_num, by omega, by have := HI.out; omega, by show MadeK _ _ _ _ _ _; rw [HT.out, ← List.append_assoc]; exact HM2.out⟩
          case measure => simp [intOf]; omega
        · have HT : Hid ((zs.drop (p + 1)).take i = (zs.drop (p + 1)).take (q - 1)) := by
            show _ = _
            rcases Nat.lt_or_ge (i + 1) q with h | h
            · rw [List.take_of_length_le (by rw [List.length_drop, HL.out]; omega), List.take_of_length_le (by rw [List.length_drop, HL.out]; omega)]
            · rw [show i = q - 1 by omega]
          have HM3 := HMi
          rw [HT.out] at HM3
          have hbe3 := HM3.out.2
          have hlt3 : ((zs.drop (p + 1)).take (q - 1)).length ≤ q - 1 := by rw [List.length_take]; omega
          have HB3 : Hid (Bytes ((zs.drop (p + 1)).take (q - 1))) := (HZ.out.drop _).take _
          obtain ⟨I, hI⟩ : ∃ I, i + 1 = I := ⟨_, rfl⟩
          rw [hI] at hgo ⊢
          have HI := Lib.hid hI
          clear hI HMi HTi
          by_cases hq0 : q = 0
          · have hd := Lib.hid (dec_nought HZ.out.lt (by have := List.mem_of_getElem? HK.out; rw [hq0] at this; exact this))
            subst hq0
            have hI0 : ¬ (I : Int) < 0 := by omega
            go_wp2
            go_ret2
            exact DecR.none_of hd.out hbe3
          · have hq1 : ((q : Int) == 0) = false := by rw [beq_eq_false_iff_ne]; omega
            by_cases hIq : I < q
            · have hIq' : (I : Int) < (q : Int) := by omega
              have hpI : ¬ (p : Int) + (I : Int) < (n : Int) := by omega
              clear hgo
              by_cases hq255 : q < 255
              · have hq255' : (q : Int) < 255 := by omega
                by_cases hpq : p + q < n
                · omega
                · have hpq' : ¬ (p : Int) + (q : Int) < (n : Int) := by omega
                  have HD2 : Hid (Dp zs (p + q) (o ++ (zs.drop (p + 1)).take (q - 1))) := by
                    have := HDn.out
                    rwa [if_neg (fun h => hpq (by rw [← HL.out]; exact h.2))] at this
                  go_wp2
                  go_roundw
                  case rel => exact ⟨p + q, o ++ (zs.drop (p + 1)).take (q - 1), by go_num, by omega, by rw [List.length_append]; omega, HO.out.append HB3.out, HD2, HM3⟩
                  case measure => simp [intOf]; omega
              · have hq255' : ¬ (q : Int) < 255 := by omega
                have HD2 : Hid (Dp zs (p + q) (o ++ (zs.drop (p + 1)).take (q - 1))) := by
                  have := HDn.out
                  rwa [if_neg (fun h => hq255 h.1)] at this
                go_wp2
                go_roundw
                case rel => exact ⟨p + q, o ++ (zs.drop (p + 1)).take (q - 1), by go_num, by omega, by rw [List.length_append]; omega, HO.out.append HB3.out, HD2, HM3⟩
                case measure => simp [intOf]; omega
            · have hIq' : ¬ (I : Int) < (q : Int) := by omega
              clear hgo
              by_cases hq255 : q < 255
              · have hq255' : (q : Int) < 255 := by omega
                by_cases hpq : p + q < n
                · have hpq' : (p : Int) + (q : Int) < (n : Int) := by omega
                  have HD2 : Hid (Dp zs (p + q) ((o ++ (zs.drop (p + 1)).take (q - 1)) ++ [0])) := by
                    have := HDn.out
                    rwa [if_pos ⟨hq255, by rw [HL.out]; exact hpq⟩] at this
                  have HZ1 := Lib.hid (Nums.new .u8 wr 5 [0] #[.int .u8 0] rfl)
                  have HX1 : Hid ((o ++ (zs.drop (p + 1)).take (q - 1)).length + 1 ≤ maxLen) := by show _ ≤ _; rw [List.length_append]; unfold maxLen; omega
                  have HX2 : Hid (((o ++ (zs.drop (p + 1)).take (q - 1)).length + 1) * 1 ≤ 140737488355328) := by show _ ≤ _; rw [List.length_append]; omega
                  have HX3 : Hid (w.heap.size ≤ (wr.alloc (.cells #[.int .u8 0] 5)).heap.size) := by show _ ≤ _; rw [World.size_alloc]; have := hbe3.size; omega
                  go_wp2_with (at_builtin; refine wpList_append_any rfl (.tmp 52) (.tmp 53) 22 rfl w.heap.size 5 i0 (.int .u8 0) 1 Try.underlying22 hi hz0 hz1 hz2 rfl .u8 (o ++ (zs.drop (p + 1)).take (q - 1)) [0] _ rfl (HM3.out.1.alloc _) _ 1 1 _ rfl rfl HZ1.out HX1.out HX2.out HX3.out ?_)
                  intro v2 w2 hown hg
                  have HM4 := Lib.hid ((HM3.out.later (.cells #[.int .u8 0] 5)).more (zs := [0]) (v' := v2) (by simpa [Nat.add_assoc] using hown) hg)
                  clear hown hg
                  go_wp2
                  go_roundw
                  case rel => exact ⟨p + q, (o ++ (zs.drop (p + 1)).take (q - 1)) ++ [0], by go_num, by omega, by rw [List.length_append, List.length_append, List.length_singleton]; omega, (HO.out.append HB3.out).append (fun z hz => by simp at hz; omega), HD2, HM4⟩
                  case measure => simp [intOf]; omega
                · have hpq' : ¬ (p : Int) + (q : Int) < (n : Int) := by omega
                  have HD2 : Hid (Dp zs (p + q) (o ++ (zs.drop (p + 1)).take (q - 1))) := by
                    have := HDn.out
                    rwa [if_neg (fun h => hpq (by rw [← HL.out]; exact h.2))] at this
                  go_wp2
                  go_roundw
                  case rel => exact ⟨p + q, o ++ (zs.drop (p + 1)).take (q - 1), by go_num, by omega, by rw [List.length_append]; omega, HO.out.append HB3.out, HD2, HM3⟩
                  case measure => simp [intOf]; omega
              · have hq255' : ¬ (q : Int) < 255 := by omega
                have HD2 : Hid (Dp zs (p + q) (o ++ (zs.drop (p + 1)).take (q - 1))) := by
                  have := HDn.out
                  rwa [if_neg (fun h => hq255 h.1)] at this
                go_wp2
                go_roundw
                case rel => exact ⟨p + q, o ++ (zs.drop (p + 1)).take (q - 1), by go_num, by omega, by rw [List.length_append]; omega, HO.out.append HB3.out, HD2, HM3⟩
                case measure => simp [intOf]; omega
    · have hpn' : ¬ (p : Int) < (n : Int) := by omega
      have HF := Lib.hid (HD.out.fin HZ.out.lt (by rw [HL.out]; omega))
      obtain ⟨q, hq⟩ : ∃ q, o.length = q := ⟨_, rfl⟩
      obtain ⟨A, co, hu, hco, hno⟩ := HM.out.slice
      subst hu
      rw [hq] at hco hop
      have HQ := Lib.hid hq
      have K := rencode_any A q co o wr hq (by omega) hno
      have hoB := HO.out
      rw [hq]
      clear hq
      go_wp2_with fail
      refine K.mono ?_
      rintro e w1 ⟨v, rfl, hm1⟩
      clear K
      obtain ⟨Q, hQ⟩ : ∃ Q, (Cb.enc o).length = Q := ⟨_, rfl⟩
      have hQl := (Cb.enc_len o).2.1
      rw [HQ.out, hQ] at hQl
      obtain ⟨A1, c1, rfl, hc1, hn1⟩ := hm1.slice
      have hb01 := hbe.trans (hm1.2.mono hsz)
      have hM1 := HM.out
      rw [hQ] at hc1 ⊢
      have E := same_any w1.heap.size A1 a Q n c1 c (Cb.enc o) zs w1 hQ HL.out (by omega) hn1 ((h1.below hb01).mono hb01.size)
      have hmo := MadeK.on HM.out hm1.2
      rw [HQ.out] at hmo
      have HMo := Lib.hid hmo
      clear hmo
      clear hm1 hn1 hM1
      by_cases he : Cb.enc o = zs
      · rw [decide_eq_true he] at E
        have hd : Hid (Cb.dec false zs = some o) := by show _ = _; rw [HF.out, if_pos he]
        clear he hQ
        go_wp2_with fail
        refine E.mono ?_
        rintro e w2 ⟨rfl, d, hw2⟩
        have HM2 := Lib.hid (MadeK.on HMo.out (by rw [hw2]; exact below_drewN (Below.refl _ _) d : Below w1.heap.size w1 w2))
        clear hw2 E
        go_wp2
        go_ret2
        exact DecR.some_of hd.out HM2.out
      · rw [decide_eq_false he] at E
        have hd : Hid (Cb.dec false zs = none) := by show _ = _; rw [HF.out, if_neg he]
        clear he hQ
        go_wp2_with fail
        refine E.mono ?_
        rintro e w2 ⟨rfl, d, hw2⟩
        have hb2 : Below w.heap.size w w2 := by rw [hw2]; exact below_drewN hb01 d
        clear hw2 E
        go_wp2
        go_ret2
        exact DecR.none_of hd.out hb2
end Go.Proofs.Ytbohdmconeebeaa

namespace Go.Proofs.Ytbohdmconeebeaa
open Go.RowKit Go.Shelf
set_option maxRecDepth 100000
attribute [local go_sem] Oper.semAt_some

theorem exec_app {P : Program} {w w' : World} {o : Oper} {b : Act} {v1 v2 v' : Value} (s x : Operand) (t : TypeId) (hop : o.op = Op.call { callee := Callee.builtin Builtin.append, args := #[s, x], argTypes := #[t, t] })
    (hs : b.eval s = v1) (hx : b.eval x = v2) (hrun : (Builtin.append_ #[t, t] o.type #[v1, v2]).run P w = .ok v' w') : (execOp b.eval o).run P w = .ok (.value v') w' := by
  simp [execOp, hop, resolve, invoke, builtin, hs, hx, hrun, Result.andThen]
theorem rfInfo : (Try.prog.info? 35).map (·.size) = some 6 := by kernel_rfl
theorem rf_store (w : World) (R : Nat) (old cs : Array Value) (h : w.heap[R]? = some (.cells old 35 (0, 0))) (ho : old.size = 6) (hc : cs.size = 6) (h1 : cs.all (·.oneCell') = true) :
    (Instr.storeAt 35 (.pointer (some ⟨R, 0, none⟩)) (.agg cs)).run Try.prog w = .ok () (w.setRow R cs) := by
  simp only [Instr.storeAt, Instr.sureAddr, Sem.run_bind, Sem.run_pure, Result.andThen]
  exact run_storeVar_row w R 35 35 old cs h (by rw [hc]; exact rfInfo) (by omega) h1
/-- a block of at least 13 bytes, by the document's Open -/
theorem unB_open {b : List Int} (h : 12 < b.length) : unB b = if (openOf b).1 = 0 then (if (prs (b.take 8)).2 = 0 then (((prs (b.take 8)).1, (b.take (b.length - 4)).drop 8), 0) else (noFr, (prs (b.take 8)).2)) else (noFr, 11) := by
  have hsp : b.take (b.length - 4) ++ b.drop (b.length - 4) = b := List.take_append_drop _ _
  have ho : openOf b = if b.take (b.length - 4) ++ Cr.le4 (Cr.sum (b.take (b.length - 4))) = b then (0, b.take (b.length - 4)) else (11, []) := by unfold openOf; rw [if_neg (by omega)]
  have hu : unB b = if Cr.le4 (Cr.sum (b.take (b.length - 4))) = b.drop (b.length - 4) then (if (prs (b.take 8)).2 = 0 then (((prs (b.take 8)).1, (b.take (b.length - 4)).drop 8), 0) else (noFr, (prs (b.take 8)).2)) else (noFr, 11) := by unfold unB; exact if_neg (by omega)
  rw [hu, ho]
  by_cases hs : Cr.le4 (Cr.sum (b.take (b.length - 4))) = b.drop (b.length - 4)
  · have h2 : b.take (b.length - 4) ++ Cr.le4 (Cr.sum (b.take (b.length - 4))) = b := by rw [hs]; exact hsp
    simp only [if_pos hs, if_pos h2, if_true]
  · have h2 : ¬ b.take (b.length - 4) ++ Cr.le4 (Cr.sum (b.take (b.length - 4))) = b := fun e => hs (List.append_cancel_left (e.trans hsp.symm))
    simp only [if_neg hs, if_neg h2]
    rfl
theorem open_cases {b : List Int} (h : 12 < b.length) : openOf b = (0, b.take (b.length - 4)) ∨ openOf b = (11, []) := by
  unfold openOf
  rw [if_neg (by omega)]
  split
  · exact .inl rfl
  · exact .inr rfl
def FRr (R : Nat) (L : List Int) (v k s i d : Int) (q : Tmp) (x : Value) (W : World) : Prop :=
  if q = 44 then ∃ g, x = .slice (some ⟨g, 0, none⟩) 0 0
  else ∃ A c, x = (if q = 47 then .slice A L.length c else .agg (frC v k s i d (.slice A L.length c))) ∧ L.length ≤ c ∧ NumsS .u8 W (fun b => R < b ∧ b < W.heap.size) A L
theorem FRr.later {R : Nat} {L : List Int} {v k s i d : Int} {q : Tmp} {x : Value} {W W' : World} (hh : FRr R L v k s i d q x W) (hb : Below W.heap.size W W') : FRr R L v k s i d q x W' := by
  unfold FRr at *
  split
  · rename_i h; rw [if_pos h] at hh; exact hh
  · rename_i h
    rw [if_neg h] at hh
    obtain ⟨A, c, e, hc, hn⟩ := hh
    exact ⟨A, c, e, hc, (hn.keeps (KeepS.of_below hb fun k hk => hk.2)).more fun k hk => ⟨hk.1, Nat.lt_of_lt_of_le hk.2 hb.size⟩⟩

set_option maxHeartbeats 8000000 in
theorem rfunpack_any (a : Option Addr) (n c : Nat) (zs : List Int) (w : World) (hn : zs.length = n) (hl : n ≤ 100000) (hz : Bytes zs) (h1 : Nums .u8 w w.heap.size a zs) :
    Calls Try.prog 9 #[.slice a n c] w fun e w' => UnpR w w' (unS zs) e := by
  obtain ⟨i0, hi0, hz0, hz1, hz2⟩ := info_parts byteInfo
  by_cases h255 : 255 < n
  · have e0 : unS zs = (noFr, 2) := by unfold unS; rw [if_pos (by omega)]
    rw [e0]
    have hs' : 255 < (n : Int) := by omega
    clear e0 hn h1
    go_enter Try.func9, Try.ntmps9
    go_wp2
    refine bodyPost_ret (v := .tuple #[frV 0 0 0 0 0 (.slice none 0 0), .int .i64 2]) (by simp [results, Try.results9, go_sem, frV, frC]) rfl ?_
    exact UnpR.no rfl ((Below.refl _ w).alloc (Nat.le_refl _) _)
  · have HU : Hid (unS zs = match Cb.dec false zs with | none => (noFr, 12) | some b => unB b) := by show _ = _; unfold unS; exact if_neg (by omega)
    obtain ⟨w0, hw0⟩ : ∃ w0, w.alloc (.cells (frC 0 0 0 0 0 (.slice none 0 0)) 35) = w0 := ⟨_, rfl⟩
    have hb0 : Below w.heap.size w w0 := by rw [← hw0]; exact (Below.refl _ w).alloc (Nat.le_refl _) _
    have hs0 : w0.heap.size = w.heap.size + 1 := by rw [← hw0]; simp
    have hR0 : w0.heap[w.heap.size]? = some (.cells (frC 0 0 0 0 0 (.slice none 0 0)) 35 (0, 0)) := by rw [← hw0]; exact World.alloc_heap_new _ _
    have K := rdecode_any a n c zs w0 hn hl hz ((h1.below hb0).mono hb0.size)
    have hlt : w.heap.size < w0.heap.size := by omega
    have HW0 := Lib.hid hw0
    have HB0 := Lib.hid hb0
    have HR0 := Lib.hid hR0
    have HZ := Lib.hid hz
    have HN := Lib.hid hn
    have hs' : ¬ 255 < (n : Int) := by omega
    -- what a zero frame and an error r leave, stored in a world V
    have fin0 : ∀ V : World, Below w0.heap.size w0 V → V.heap[w.heap.size]? = some (.cells (frC 0 0 0 0 0 (.slice none 0 0)) 35 (0, 0)) ∧ (V.setRow w.heap.size (frC 0 0 0 0 0 (.slice none 0 0))).heap[w.heap.size]? = some (.cells (frC 0 0 0 0 0 (.slice none 0 0)) 35 (0, 0)) ∧ Below w.heap.size w (V.setRow w.heap.size (frC 0 0 0 0 0 (.slice none 0 0))) := fun V hV => by
      have hR1 := (hV.block _ hlt).trans hR0
      have hB1 := hb0.trans (hV.mono hb0.size)
      exact ⟨hR1, setRow_heap V w.heap.size _ _ _ _ hR1, hB1.trans ((Off.setRow (S := fun k => k = w.heap.size) (Off.of_below (Below.refl V.heap.size V)) rfl _).below (fun k hk => by omega) hB1.size)⟩
    have HF0 := Lib.hid fin0
    unfold frC at HW0
    clear hw0 hb0 hR0 hs0 hz hn h1 fin0
    go_enter Try.func9, Try.ntmps9
    go_wp2_with fail
    rw [HW0.out]
    refine K.mono ?_
    intro e w1 hr
    clear K
    cases hd : Cb.dec false zs with
    | none =>
      rw [hd] at hr HU
      obtain ⟨rfl, hb1⟩ := hr
      obtain ⟨hR1, hfin, hbf⟩ := HF0.out w1 hb1
      have HR1 := Lib.hid hR1
      clear hR1 hb1 hd
      go_wp2_with (refine wpList_store_row rfl 35 (.tmp 2) (.tmp 18) rfl w.heap.size (frC 0 0 0 0 0 (.slice none 0 0)) rfl rfl 35 _ HR1.out rfInfo rfl (fr_one _ _ _ _ _ _ _ _) ?_)
      generalize w1.setRow w.heap.size (frC 0 0 0 0 0 (.slice none 0 0)) = Wf at *
      obtain ⟨d0, d1, d2, d3, d4, d5⟩ := fr_block hfin
      refine bodyPost_ret (v := .tuple #[frV 0 0 0 0 0 (.slice none 0 0), .int .i64 12]) (by simp [results, Try.results9, go_sem, frV, frC, d0, d1, d2, d3, d4, d5]) rfl ?_
      rw [HU.out]
      exact UnpR.no rfl hbf
    | some x =>
      rw [hd] at hr HU
      obtain ⟨vv, rfl, hm⟩ := hr
      obtain ⟨A, c1, rfl, hc1, hn1⟩ := hm.slice
      have hxl := dec_shorter HZ.out hd
      have hxb : Bytes x := decoded_bytes HZ.out hd
      have hb01 := hm.2
      have HXB := Lib.hid hxb
      have HN1 := Lib.hid hn1
      clear hm hd hxb hn1
      obtain ⟨q, hq⟩ : ∃ q, x.length = q := ⟨_, rfl⟩
      rw [hq] at hc1 ⊢
      have HQ := Lib.hid hq
      have hqn : q ≤ 100000 := by have := HN.out; omega
      have HXL := Lib.hid hxl
      clear hq hxl
      by_cases h13 : q < 13
      · have h13' : (q : Int) < 13 := by omega
        have hub : unB x = (noFr, 13) := by unfold unB; rw [if_pos (by rw [HQ.out]; omega)]
        have HUB := Lib.hid hub
        obtain ⟨hR1, hfin, hbf⟩ := HF0.out w1 hb01
        have HR1 := Lib.hid hR1
        clear hR1 hub hb01
        go_wp2_with (refine wpList_store_row rfl 35 (.tmp 2) (.tmp 23) rfl w.heap.size (frC 0 0 0 0 0 (.slice none 0 0)) rfl rfl 35 _ HR1.out rfInfo rfl (fr_one _ _ _ _ _ _ _ _) ?_)
        generalize w1.setRow w.heap.size (frC 0 0 0 0 0 (.slice none 0 0)) = Wf at *
        obtain ⟨d0, d1, d2, d3, d4, d5⟩ := fr_block hfin
        refine bodyPost_ret (v := .tuple #[frV 0 0 0 0 0 (.slice none 0 0), .int .i64 13]) (by simp [results, Try.results9, go_sem, frV, frC, d0, d1, d2, d3, d4, d5]) rfl ?_
        rw [HU.out]
        show UnpR w Wf (unB x) _
        rw [HUB.out]
        exact UnpR.no rfl hbf
      · have h13' : ¬ (q : Int) < 13 := by omega
        have hxlen := HQ.out
        have K2 := ropen_any w1.heap.size A q c1 x w1 (Nat.le_refl _) HQ.out hc1 (by omega) HXB.out HN1.out
        have HUB := Lib.hid (unB_open (b := x) (by omega))
        rcases open_cases (b := x) (by omega) with ho | ho
        · rw [ho] at K2 HUB
          rw [if_pos rfl] at HUB
          obtain ⟨p, rfl⟩ : ∃ p, q = p + 4 := ⟨q - 4, by omega⟩
          obtain ⟨T, hT⟩ : ∃ T, x.take (x.length - 4) = T := ⟨_, rfl⟩
          have hTp : T.length = p := by rw [← hT, List.length_take]; omega
          have hTb : Bytes T := by rw [← hT]; exact HXB.out.take _
          have hT8 : T.take 8 = x.take 8 := by rw [← hT, List.take_take]; congr 1; omega
          rw [hT] at K2 HUB
          rw [← hT8] at HUB
          clear ho hxlen hT hT8
          go_wp2_with fail
          refine K2.mono ?_
          rintro e w2 ⟨A2, c2, rfl, hc2, hn2, hb2⟩
          clear K2
          rw [hTp] at hc2 ⊢
          simp only [] at hn2
          have hb02 := hb01.trans (hb2.mono hb01.size)
          have K := rparse_any A2 8 c2 (T.take 8) w2 (by rw [List.length_take]; omega) (hTb.take 8) (hn2.take 8)
          obtain ⟨⟨⟨v, k, s, i, d⟩, er⟩, hP⟩ : ∃ y, prs (T.take 8) = y := ⟨_, rfl⟩
          rw [hP] at HUB K
          simp only [hdP] at K HUB
          unfold hdV at K
          have h8c : (8 : Int) ≤ (c2 : Int) := by omega
          have h8p : (8 : Int) ≤ (p : Int) := by omega
          have hpc : (p : Int) ≤ (c2 : Int) := by omega
          have HN2 := Lib.hid hn2
          have HTP := Lib.hid hTp
          clear hP hn2 hTp hb01 hb2
          go_wp2_with fail
          refine K.mono ?_
          rintro e W3 ⟨rfl, hb3⟩
          clear K
          obtain ⟨w4, hw4⟩ : ∃ w4, W3.alloc (.cells #[.int .i64 v, .int .i64 k, .int .u32 s, .int .i64 i, .int .i64 d] 33) = w4 := ⟨_, rfl⟩
          have hs4 : w4.heap.size = W3.heap.size + 1 := by rw [← hw4]; simp
          have hb34 : Below W3.heap.size W3 w4 := by rw [← hw4]; exact (Below.refl _ W3).alloc (Nat.le_refl _) _
          have hbox : w4.heap[W3.heap.size]? = some (.cells #[.int .i64 v, .int .i64 k, .int .u32 s, .int .i64 i, .int .i64 d] 33 (0, 0)) := by rw [← hw4]; exact World.alloc_heap_new _ _
          have hb24 := hb3.trans (hb34.mono hb3.size)
          have hb04 := hb02.trans (hb24.mono hb02.size)
          obtain ⟨hR4, hfin4, hbf4⟩ := HF0.out w4 hb04
          have HR4 := Lib.hid hR4
          have HW4 := Lib.hid hw4
          have HX := Lib.hid hbox
          have hR4lt : w.heap.size < w4.heap.size := (Array.getElem?_eq_some_iff.1 hR4).1
          have HR4a : Hid ((W3.alloc (.cells #[.int .i64 v, .int .i64 k, .int .u32 s, .int .i64 i, .int .i64 d] 33)).heap[w.heap.size]? = some (.cells (frC 0 0 0 0 0 (.slice none 0 0)) 35 (0, 0))) := by show _ = _; rw [hw4]; exact hR4
          have HB4 := Lib.hid (HB0.out.trans (hb04.mono HB0.out.size))
          have HN4 := Lib.hid ((HN2.out.below hb24).mono hb24.size)
          clear hw4 hbox hR4 hb34 hb3 hb24 hb04 hb02
          by_cases h0 : er = 0
          · subst h0
            rw [if_pos rfl] at HUB
            obtain ⟨L, hL⟩ : ∃ L, T.drop 8 = L := ⟨_, rfl⟩
            have hLl : L.length = p - 8 := by rw [← hL, List.length_drop, HTP.out]
            obtain ⟨A8, hA8⟩ : ∃ A8, A2.map (fun x => ({ block := x.block, off := x.off + 8 } : Addr)) = A8 := ⟨_, rfl⟩
            have hLn : Nums .u8 w4 w4.heap.size A8 L := by
              have hdr := HN4.out.drop (i := 8) (cap := c2) (by rw [HTP.out]; exact hc2)
              rw [hL] at hdr
              obtain ⟨b1, o1, rfl, _⟩ := HN4.out (by intro e; have := HTP.out; rw [e] at this; simp at this; omega)
              rw [if_neg (by omega)] at hdr
              rw [← hA8]
              simpa [Addr.add] using hdr
            have HL := Lib.hid hLl
            have HLN := Lib.hid hLn
            have HLL := Lib.hid hL
            clear hLn hLl hL hfin4 hbf4 HR4a
            go_wp2_with fail
            rw [HW4.out]
            have hload : ∀ W, Below w4.heap.size w4 W → (Instr.loadAt 33 (.pointer (some ⟨W3.heap.size, 0, none⟩))).run Try.prog W = .ok (.agg #[.int .i64 v, .int .i64 k, .int .u32 s, .int .i64 i, .int .i64 d]) W := fun V hV => by
              obtain ⟨d0, d1, d2, d3, d4⟩ := hd_block ((hV.block W3.heap.size (by rw [hs4]; omega)).trans HX.out)
              simp [Instr.loadAt, go_sem, d0, d1, d2, d3, d4]
            refine wp_region_FS 49 6 4 [44, 47, 48] (FRr w.heap.size L v k s i d) (fun V => Below w4.heap.size w4 V) (fun xs V V' => ∃ A c2, xs 48 = .agg (frC v k s i d (.slice A L.length c2)) ∧ V' = V.setRow w.heap.size (frC v k s i d (.slice A L.length c2))) (by kernel_rfl) (by kernel_rfl) (by rfl) (by kernel_rfl) (by rfl) (by simp) (fun W W' h hb => h.trans (hb.mono h.size)) (fun q x W W' h hb => h.later hb) (Below.refl _ _).drew ?_
            refine wpFS_step (wpF_load (.agg #[.int .i64 v, .int .i64 k, .int .u32 s, .int .i64 i, .int .i64 d]) rfl (by rfl) (by rfl) (by rfl) hload ?_)
            simp only [wpF, Act.put, List.setIfInBounds_toArray, List.set_cons_succ, List.set_cons_zero]
            refine wpFS_step (wpF_src 44 (by simp) rfl rfl rfl (fun V hV => ⟨.slice (some ⟨V.heap.size, 0, none⟩) 0 0, V.alloc (.cells #[] 5), ?_, ?_, (Below.refl _ _).alloc (Nat.le_refl _) _⟩) ?_)
            · simp [go_sem]
            · unfold FRr; rw [if_pos rfl]; exact ⟨_, rfl⟩
            simp only [wpF, Act.put, List.setIfInBounds_toArray, List.set_cons_succ, List.set_cons_zero]
            repeat (refine wpFS_step (wpF_pure rfl rfl ?_); go_big_quiet_step (fail); refine wpQuiet_nil ?_; simp only [wpF])
            refine wpFS_step (wpF_mix 47 [44] (by simp) rfl (by kernel_rfl) (by kernel_rfl) (fun xs => by rfl) (fun xs V hV hx => ?_) ?_)
            · have h44 := hx 44 (by simp)
              unfold FRr at h44
              rw [if_pos rfl] at h44
              obtain ⟨g, e44⟩ := h44
              obtain ⟨b1, o1, ea, hb1, hcl⟩ := HLN.out.below hV (by intro e; have := HL.out; rw [e] at this; simp at this; omega)
              obtain ⟨x', w', hrun, hown, hgr⟩ := run_append_arg_grows (P := Try.prog) (w := V) 22 22 5 i0 (.int .u8 0) 1 1 Try.underlying22 hi0 hz0 hz1 hz2 rfl (by decide)
                ⟨g, 0, none⟩ 0 0 [] (by rfl) (fun j u hj => by simp at hj) ⟨b1, o1, none⟩ (p - 8) (c2 - 8) (L.map (Value.int .u8)) (by rw [List.length_map, HL.out]; omega)
                (fun j u hj => by
                  rw [List.getElem?_map] at hj
                  obtain ⟨y, hy, rfl⟩ := Option.map_eq_some_iff.1 hj
                  rw [Addr.add_lit]
                  exact hcl j y hy) (by omega) (by unfold maxLen; omega) (by omega)
              have hbV : Below V.heap.size V w' := ⟨hgr.os, hgr.tape, hgr.output, hgr.size, fun q hq => hgr.block q hq (by simp)⟩
              have hm : MadeK 5 .u8 V w' L x' := ⟨by rw [HL.out]; simpa using hown, hbV⟩
              obtain ⟨A, c3, rfl, hc3, _⟩ := hm.slice
              refine ⟨_, w', exec_app (.tmp 44) (.tmp 46) 22 rfl (by simp [fill, Act.put, Act.eval, e44]) (by simp [fill, Act.put, Act.eval, ea]) hrun, ?_, hbV⟩
              unfold FRr
              rw [if_neg (by decide)]
              exact ⟨A, c3, by rw [if_pos rfl], hc3, (hm.numsS rfl).more fun j hj => ⟨by have := hV.size; omega, hj.2⟩⟩
            simp only [wpF, Act.put, List.setIfInBounds_toArray, List.set_cons_succ, List.set_cons_zero]
            refine wpFS_step (wpF_mix 48 [47] (by simp) rfl (by kernel_rfl) (by kernel_rfl) (fun xs => by rfl) (fun xs V hV hx => ?_) ?_)
            · have h47 := hx 47 (by simp)
              unfold FRr at h47
              rw [if_neg (by decide)] at h47
              obtain ⟨A, c3, e47, hc3, hn3⟩ := h47
              rw [if_pos rfl] at e47
              refine ⟨.agg (frC v k s i d (.slice A L.length c3)), V, ?_, ?_, Below.refl _ _⟩
              · simp [execOp, fill, Act.put, Act.eval, e47, frC, go_sem]
              · unfold FRr; rw [if_neg (by decide)]; exact ⟨A, c3, by rw [if_neg (by decide)], hc3, hn3⟩
            simp only [wpF, Act.put, List.setIfInBounds_toArray, List.set_cons_succ, List.set_cons_zero]
            refine wpFS_store rfl rfl rfl ⟨w.heap.size, 0, none⟩ (fun xs => xs 48) (fun xs => by simp [fill, Act.put, Act.eval]) (fun xs => by simp [fill, Act.put, Act.eval]) (fun xs V hV hx => ?_) ?_
            · have h48 := hx 48 (by simp)
              unfold FRr at h48
              rw [if_neg (by decide)] at h48
              obtain ⟨A, c3, e48, hc3, hn3⟩ := h48
              rw [if_neg (by decide)] at e48
              refine ⟨_, ?_, A, c3, e48, rfl⟩
              rw [e48]
              exact rf_store V w.heap.size _ _ ((hV.block _ hR4lt).trans HR4.out) rfl rfl (fr_one _ _ _ _ _ _ _ _)
            refine wpFS_pure rfl rfl ?_
            go_big_quiet_step (fail)
            refine wpQuiet_nil ?_
            simp only [wpFS]
            rintro xs V V' hV hx ⟨A, c3, e48, rfl⟩
            have h48 := hx 48 (by simp)
            unfold FRr at h48
            rw [if_neg (by decide), e48] at h48
            obtain ⟨A', c3', e48', hc3, hn3⟩ := h48
            rw [if_neg (by decide)] at e48'
            obtain ⟨rfl, rfl⟩ : A = A' ∧ c3 = c3' := by simpa [frC] using e48'
            simp only [fill, Act.put, List.setIfInBounds_toArray, List.set_cons_succ, List.set_cons_zero]
            have hfin := setRow_heap V w.heap.size _ (frC v k s i d (.slice A L.length c3)) _ _ ((hV.block _ hR4lt).trans HR4.out)
            have hoff := (Off.setRow (S := fun k => k = w.heap.size) (Off.of_below (Below.refl V.heap.size V)) rfl (frC v k s i d (.slice A L.length c3)))
            have hbf : Below w.heap.size w (V.setRow w.heap.size (frC v k s i d (.slice A L.length c3))) := (HB4.out.trans (hV.mono HB4.out.size)).trans (hoff.below (fun k hk => by omega) (by have := hV.size; omega))
            have hnf : NumsS .u8 (V.setRow w.heap.size (frC v k s i d (.slice A L.length c3))) (fun b => w.heap.size ≤ b ∧ b < (V.setRow w.heap.size (frC v k s i d (.slice A L.length c3))).heap.size) A L :=
              (hn3.keeps (S := _) ⟨hoff.size, fun j hj => hoff.block j hj.2 (by omega)⟩).more fun j hj => ⟨by omega, Nat.lt_of_lt_of_le hj.2 hoff.size⟩
            generalize V.setRow w.heap.size (frC v k s i d (.slice A L.length c3)) = Wf at *
            obtain ⟨d0, d1, d2, d3, d4, d5⟩ := fr_block hfin
            clear hx
            generalize xs 44 = x44
            generalize xs 47 = x47
            generalize xs 48 = x48 at *
            go_wp2_with fail
            refine bodyPost_ret (v := .tuple #[frV v k s i d (.slice A L.length c3), .int .i64 0]) (by simp [results, Try.results9, go_sem, frV, frC, d0, d1, d2, d3, d4, d5]) rfl ?_
            rw [HU.out]
            show UnpR w Wf (unB x) _
            rw [HUB.out, HLL.out]
            exact ⟨A, c3, rfl, hc3, hnf, hbf⟩
          · rw [if_neg h0] at HUB
            have h1 : (er != 0) = true := by simpa using h0
            have HE := Lib.hid h0
            clear h0
            go_wp2_with (refine wpList_store_row rfl 35 (.tmp 2) (.tmp 41) rfl w.heap.size (frC 0 0 0 0 0 (.slice none 0 0)) rfl rfl 35 _ HR4a.out rfInfo rfl (fr_one _ _ _ _ _ _ _ _) ?_)
            rw [HW4.out]
            generalize w4.setRow w.heap.size (frC 0 0 0 0 0 (.slice none 0 0)) = Wf at *
            obtain ⟨d0, d1, d2, d3, d4, d5⟩ := fr_block hfin4
            refine bodyPost_ret (v := .tuple #[frV 0 0 0 0 0 (.slice none 0 0), .int .i64 er]) (by simp [results, Try.results9, go_sem, frV, frC, d0, d1, d2, d3, d4, d5]) rfl ?_
            rw [HU.out]
            show UnpR w Wf (unB x) _
            rw [HUB.out]
            exact UnpR.no rfl hbf4
        · rw [ho] at K2 HUB
          rw [if_neg (by decide)] at HUB
          clear ho hxlen
          go_wp2_with fail
          refine K2.mono ?_
          rintro e w2 ⟨A2, c2, rfl, _, _, hb2⟩
          clear K2
          obtain ⟨hR1, hfin, hbf⟩ := HF0.out w2 (hb01.trans (hb2.mono hb01.size))
          have HR1 := Lib.hid hR1
          clear hR1 hb01 hb2
          go_wp2_with (refine wpList_store_row rfl 35 (.tmp 2) (.tmp 31) rfl w.heap.size (frC 0 0 0 0 0 (.slice none 0 0)) rfl rfl 35 _ HR1.out rfInfo rfl (fr_one _ _ _ _ _ _ _ _) ?_)
          generalize w2.setRow w.heap.size (frC 0 0 0 0 0 (.slice none 0 0)) = Wf at *
          obtain ⟨d0, d1, d2, d3, d4, d5⟩ := fr_block hfin
          refine bodyPost_ret (v := .tuple #[frV 0 0 0 0 0 (.slice none 0 0), .int .i64 11]) (by simp [results, Try.results9, go_sem, frV, frC, d0, d1, d2, d3, d4, d5]) rfl ?_
          rw [HU.out]
          show UnpR w Wf (unB x) _
          rw [HUB.out]
          exact UnpR.no rfl hbf
end Go.Proofs.Ytbohdmconeebeaa

namespace Go.Proofs.Ytbohdmconeebeaa
open Go.RowKit
set_option maxRecDepth 100000
theorem intInfo : (Try.prog.info? 3).map (fun i => (i.zero, i.size, i.bytes)) = some (some (.int .i64 0), 1, 8) := by kernel_rfl
end Go.Proofs.Ytbohdmconeebeaa

namespace Go.Proofs.Ytbohdmconeebeaa
open Go.RowKit Go.Shelf
set_option maxRecDepth 100000
attribute [local go_sem] Oper.semAt_some

section
variable {te tl : TypeId} {k : IntKind} {base : Nat} {W w1 : World} {v v' u u' x : Value} {xs : List Value} {O : List (List Int)} {N b : List Int} {o : Obj}
/-- a row of a third type has grown -/
theorem Ls.far {e3 : TypeId} {n : Nat} {v3 : Value} {ys : List Value} (h : Ls te tl k base W v u xs O N) (h3 : W.ownsRow base e3 1 v3 n ys) (hne : te ≠ e3) (hne2 : tl ≠ e3) (hg : (W.alloc o).grownBy w1 v3.ownBlock) : Ls te tl k base w1 v u xs O N := by
  refine ⟨(h.out.alloc o).kept hg (own_far h.out h3 hne2), fun i b hb => ?_, (h.now.alloc o).kept hg (own_far h.now h3 hne)⟩
  obtain ⟨x, hx, A, c, rfl, hc, hcell⟩ := h.els i b hb
  refine ⟨_, hx, A, c, rfl, hc, fun hn => ?_⟩
  obtain ⟨g, cur, rfl, hbg, hh, hu, hz⟩ := hcell hn
  have hlt := (Array.getElem?_eq_some_iff.1 hh).1
  refine ⟨g, cur, rfl, hbg, ?_, hu, hz⟩
  rw [hg.block g (by rw [World.size_alloc]; omega) (fun e => ?_)]
  · exact (Below.heap_alloc W o g hlt).trans hh
  · rcases h3.2 with ⟨rfl, _⟩ | ⟨g2, cap2, cur2, rfl, _, hh2, _⟩
    · simp [Value.ownBlock] at e
    · simp only [Value.ownBlock, Option.some.injEq] at e
      subst e
      rw [hh] at hh2
      injection hh2 with hh2
      injection hh2 with _ ht
      exact hne ht
theorem Ls.renil (h : Ls te tl k base W v u xs O []) : Ls te tl k base W v (.slice none 0 0) xs O [] := by
  refine ⟨h.out, fun i b hb => ?_, World.ownsRow_nil _ _ _ _⟩
  obtain ⟨x, hx, A, c, rfl, hc, hcell⟩ := h.els i b hb
  refine ⟨_, hx, A, c, rfl, hc, fun hn => ?_⟩
  obtain ⟨g, cur, rfl, hbg, hh, _, hz⟩ := hcell hn
  exact ⟨g, cur, rfl, hbg, hh, by simp [Value.ownBlock], hz⟩
end

theorem own_slice_le {w : World} {base : Nat} {e : TypeId} {size n : Nat} {v : Value} {xs : List Value} (h : w.ownsRow base e size v n xs) : ∃ A c, v = .slice A n c ∧ n ≤ c := by
  rcases h.2 with ⟨rfl, h0⟩ | ⟨g, cap, cur, rfl, _, _, hle, _⟩
  · subst h0; exact ⟨none, 0, rfl, Nat.le_refl _⟩
  · exact ⟨_, cap, rfl, hle⟩

/-- the places, as the program's numbers -/
def plc (l : List (Nat × List Int)) : List Int := l.map fun x => (x.1 : Int)
theorem plc_append (a b : List (Nat × List Int)) : plc (a ++ b) = plc a ++ plc b := by simp [plc]
/-- what the document's Split leaves -/
def RSplit (w : World) (zs : List Int) (e : Ending) (w' : World) : Prop :=
  ∃ A1 c1 A2 c2 A3 c3, e = .returned (.tuple #[.slice A1 (Fc.segs zs).length c1, .slice A2 (Fc.segs zs).length c2, .slice A3 (Fc.opn [] zs).length c3]) ∧ (Fc.segs zs).length ≤ c1 ∧ (Fc.segs zs).length ≤ c2 ∧ (Fc.opn [] zs).length ≤ c3 ∧
    ListAt .u8 w' w'.heap.size A1 (Fc.segs zs) ∧ Nums .i64 w' w'.heap.size A2 (plc (Fc.scan 0 [] zs)) ∧ Nums .u8 w' w'.heap.size A3 (Fc.opn [] zs) ∧ Below w.heap.size w w'

set_option maxHeartbeats 4000000 in
theorem rsplit_any (a : Option Addr) (n c : Nat) (zs : List Int) (w : World) (hn : zs.length = n) (hl : n ≤ 1000000) (h1 : Nums .u8 w w.heap.size a zs) :
    Calls Try.prog 32 #[.slice a n c] w (RSplit w zs) := by
  obtain ⟨i0, hi, hz0, hz1, hz2⟩ := info_parts byteInfo
  obtain ⟨j0, hj, hj0, hj1, hj2⟩ := info_parts listInfo
  obtain ⟨m0, hm, hm0, hm1, hm2⟩ := info_parts intInfo
  have HL := Lib.hid hn
  clear hn
  go_enter Try.func32, Try.ntmps32
  go_wp2
  go_loopw [5, 6, 7, 8] (fun v p u iv wr => ∃ (k : Nat) (xs : List Value) (pre : List (Nat × List Int)) (N : List Int), k ≤ n ∧ iv = .int .i64 k ∧ pre.length ≤ k ∧ N.length ≤ k ∧
      Hid (Fc.scan 0 [] zs = pre ++ Fc.scan k N (zs.drop k)) ∧ Hid (Fc.opn [] zs = Fc.opn N (zs.drop k)) ∧ Hid (Ls 5 22 .u8 w.heap.size wr v u xs (pre.map (·.2)) N) ∧ Hid (wr.ownsRow w.heap.size 3 1 p pre.length ((plc pre).map (Value.int .i64))) ∧ Hid (Below w.heap.size w wr))
    (fun _ _ _ iv _ => n - (intOf iv).toNat)
  case atStart => exact ⟨0, [], [], [], by omega, rfl, by simp, by simp, rfl, rfl, Ls.start _ _ _ _ _, World.ownsRow_nil _ _ _ _, Below.refl _ _⟩
  case round =>
    obtain ⟨k, xs, pre, N, hk, rfl, hpk, hNk, HS, HO, HLs, HP, HBe⟩ := hrel
    by_cases hlt : k < n
    · obtain ⟨z, hzk⟩ : ∃ z, zs[k]? = some z := ⟨_, List.getElem?_eq_getElem (by rw [HL.out]; exact hlt)⟩
      have hbe := HBe.out
      obtain ⟨b1, o1, rfl, hb1, hc1⟩ := (h1.below hbe).open hzk
      have hlt' : (k : Int) < (n : Int) := by omega
      have hdrop : zs.drop k = z :: zs.drop (k + 1) := by
        rw [List.getElem?_eq_getElem (by rw [HL.out]; exact hlt)] at hzk
        injection hzk with hzk
        rw [← hzk, List.getElem_cons_drop]
      have hsz := hbe.size
      obtain ⟨Au, cu, rfl, hcu⟩ := own_slice_le HLs.out.now
      by_cases hz00 : z = 0
      · subst hz00
        by_cases hN0 : N.length = 0
        · have hN : N = [] := List.eq_nil_of_length_eq_zero hN0
          subst hN
          have HS2 : Hid (Fc.scan 0 [] zs = pre ++ Fc.scan (k + 1) [] (zs.drop (k + 1))) := by
            show _ = _
            rw [HS.out, hdrop, Fc.scan_zero, if_pos rfl, List.nil_append]
          have HO2 : Hid (Fc.opn [] zs = Fc.opn [] (zs.drop (k + 1))) := by show _ = _; rw [HO.out, hdrop, Fc.opn_zero]
          have HL2 := Lib.hid HLs.out.renil
          have hn0 : ¬ (0 : Int) < (([] : List Int).length : Int) := by simp
          clear hdrop hzk
          go_wp2
          go_roundw
          case rel => exact ⟨k + 1, xs, pre, [], by omega, by go_num, by omega, by simp, HS2, HO2, HL2, HP, HBe⟩
          case measure => simp [intOf]; omega
        · have hN : N ≠ [] := fun e => hN0 (by rw [e]; rfl)
          have HS2 : Hid (Fc.scan 0 [] zs = (pre ++ [(k - N.length, N)]) ++ Fc.scan (k + 1) [] (zs.drop (k + 1))) := by
            show _ = _
            rw [HS.out, hdrop, Fc.scan_zero, if_neg hN, List.append_assoc]
          have HO2 : Hid (Fc.opn [] zs = Fc.opn [] (zs.drop (k + 1))) := by show _ = _; rw [HO.out, hdrop, Fc.opn_zero]
          have hn0 : (0 : Int) < (N.length : Int) := by omega
          have HX1 : Hid ((pre.map (·.2)).length + 1 ≤ maxLen) := by show _ ≤ _; unfold maxLen; rw [List.length_map]; omega
          have HX2 : Hid (((pre.map (·.2)).length + 1) * 24 ≤ 140737488355328) := by show _ ≤ _; rw [List.length_map]; omega
          have HX3 : Hid (w.heap.size ≤ (wr.alloc (.cells #[.slice Au N.length cu] 22)).heap.size) := by show _ ≤ _; rw [World.size_alloc]; omega
          have HN := Lib.hid hN
          obtain ⟨O, hO⟩ : ∃ O, pre.map (·.2) = O := ⟨_, rfl⟩
          rw [hO] at HX1 HX2 HLs
          have HOe := Lib.hid hO
          obtain ⟨q, hq⟩ : ∃ q, N.length = q := ⟨_, rfl⟩
          have HQ := Lib.hid hq
          rw [hq] at hn0 hNk HX3 HLs ⊢
          clear hdrop hzk hO hN0 hN hq
          go_wp2_with (at_builtin; refine wpList_append_own_at _ rfl (.tmp 30) (.tmp 32) 71 rfl w.heap.size 22 j0 (.slice none 0 0) 1 24 Try.underlying71 hj hj0 hj1 hj2 rfl (by decide) _ _ _ rfl (HLs.out.out.alloc _) ⟨wr.heap.size, 0, none⟩ 1 1 [_] rfl rfl (cell_one_new _ _ _) (by simp [Value.oneCell']) HX1.out HX2.out HX3.out ?_)
          intro v1 w1 hown hg _ _
          have HL1 := Lib.hid (HLs.out.push (by decide) hown hg)
          have HP1 := Lib.hid ((HP.out.alloc (.cells #[.slice Au q cu] 22)).kept hg (own_far HP.out HLs.out.out (by decide)))
          have HB1 := Lib.hid ((hbe.alloc hsz (.cells #[.slice Au q cu] 22)).grown hg (by rw [World.size_alloc]; omega) (fun g hk => (HLs.out.out.lt g hk).1))
          have hs1 := HB1.out.size
          have HY1 : Hid (pre.length + 1 ≤ maxLen) := by show _ ≤ _; unfold maxLen; omega
          have HY2 : Hid ((pre.length + 1) * 8 ≤ 140737488355328) := by show _ ≤ _; omega
          have HY3 : Hid (w.heap.size ≤ (w1.alloc (.cells #[.int .i64 ((k : Int) - (q : Int))] 3)).heap.size) := by show _ ≤ _; rw [World.size_alloc]; omega
          clear hown hg HX1 HX2 HX3 HLs HP hbe HBe
          go_wp2_with (at_builtin; refine wpList_append_own_at _ rfl (.tmp 34) (.tmp 39) 46 rfl w.heap.size 3 m0 (.int .i64 0) 1 8 Try.underlying46 hm hm0 hm1 hm2 rfl (by decide) _ _ _ rfl (HP1.out.alloc _) ⟨w1.heap.size, 0, none⟩ 1 1 [_] rfl rfl (cell_one_new _ _ _) (by simp [Value.oneCell']) HY1.out HY2.out HY3.out ?_)
          intro p1 w2 hown hg _ _
          have HL2 := Lib.hid (HL1.out.far HP1.out (by decide) (by decide) hg)
          have HB2 := Lib.hid ((HB1.out.alloc hs1 (.cells #[.int .i64 ((k : Int) - (q : Int))] 3)).grown hg (by rw [World.size_alloc]; omega) (fun g hk => (HP1.out.lt g hk).1))
          have HLF : Hid (Ls 5 22 .u8 w.heap.size w2 v1 (.slice none 0 0) (xs ++ [.slice Au q cu]) ((pre ++ [(k - N.length, N)]).map (·.2)) []) := by
            show Ls _ _ _ _ _ _ _ _ _ _
            rw [List.map_append, HOe.out]; exact HL2.out
          have HPF : Hid (w2.ownsRow w.heap.size 3 1 p1 (pre ++ [(k - N.length, N)]).length ((plc (pre ++ [(k - N.length, N)])).map (Value.int .i64))) := by
            show World.ownsRow _ _ _ _ _ _ _
            rw [plc_append, List.map_append, List.length_append, List.length_singleton]
            have : (plc [(k - N.length, N)]).map (Value.int .i64) = [.int .i64 ((k : Int) - (q : Int))] := by
              simp only [plc, List.map_cons, List.map_nil, HQ.out]
              congr 2; omega
            rw [this]; exact hown
          clear hown hg HL1 HP1 HB1 HY1 HY2 HY3
          go_wp2
          go_roundw
          case rel => exact ⟨k + 1, _, pre ++ [(k - N.length, N)], [], by omega, by go_num, by rw [List.length_append, List.length_singleton]; omega, by simp, HS2, HO2, HLF, HPF, HB2⟩
          case measure => simp [intOf]; omega
      · have hz01 : (z != 0) = true := by simp [hz00]
        have hz02 : ¬ z = 0 := hz00
        have HS2 : Hid (Fc.scan 0 [] zs = pre ++ Fc.scan (k + 1) (N ++ [z]) (zs.drop (k + 1))) := by
          show _ = _
          rw [HS.out, hdrop, Fc.scan_ne hz00]
        have HO2 : Hid (Fc.opn [] zs = Fc.opn (N ++ [z]) (zs.drop (k + 1))) := by show _ = _; rw [HO.out, hdrop, Fc.opn_ne hz00]
        have HX1 : Hid (N.length + 1 ≤ maxLen) := by show _ ≤ _; unfold maxLen; omega
        have HX2 : Hid ((N.length + 1) * 1 ≤ 140737488355328) := by show _ ≤ _; omega
        have HX3 : Hid (w.heap.size ≤ (wr.alloc (.cells #[.int .u8 z] 5)).heap.size) := by show _ ≤ _; rw [World.size_alloc]; omega
        clear hdrop hzk hz00
        go_wp2_with (at_builtin; refine wpList_append_own_at _ rfl (.tmp 20) (.tmp 25) 22 rfl w.heap.size 5 i0 (.int .u8 0) 1 1 Try.underlying22 hi hz0 hz1 hz2 rfl (by decide) _ _ _ rfl (HLs.out.now.alloc _) ⟨wr.heap.size, 0, none⟩ 1 1 [.int .u8 z] rfl rfl (cell_one_new _ _ _) (by simp [Value.oneCell']) HX1.out HX2.out HX3.out ?_)
        intro u1 w1 hown hg _ hat
        have HL1 := Lib.hid (HLs.out.grow (z := z) (by decide) hown hg (by rw [World.size_alloc]; exact hat))
        have HP1 := Lib.hid ((HP.out.alloc (.cells #[.int .u8 z] 5)).kept hg (own_far HP.out HLs.out.now (by decide)))
        have HB1 := Lib.hid (((hbe.alloc hsz _).grown hg (by rw [World.size_alloc]; omega) (fun g hk => (HLs.out.now.lt g hk).1)))
        clear hown hg hat HX1 HX2 HX3 HLs HBe HP
        go_wp2
        go_roundw
        case rel => exact ⟨k + 1, xs, pre, N ++ [z], by omega, by go_num, by omega, by rw [List.length_append, List.length_singleton]; omega, HS2, HO2, HL1, HP1, HB1⟩
        case measure => simp [intOf]; omega
    · have hkn : k = n := by omega
      have hdr : zs.drop k = [] := List.drop_eq_nil_of_le (by rw [HL.out]; omega)
      have hF1 : Fc.scan 0 [] zs = pre := by rw [HS.out, hdr, Fc.scan, List.append_nil]
      have hF2 : Fc.opn [] zs = N := by rw [HO.out, hdr, Fc.opn]
      have hF3 : Fc.segs zs = pre.map (·.2) := by unfold Fc.segs; rw [hF1]
      obtain ⟨A1, c1, rfl, hc1, hLA⟩ := HLs.out.lies
      obtain ⟨A2, c2, rfl, hc2⟩ := own_slice_le HP.out
      obtain ⟨A3, c3, rfl, hc3⟩ := own_slice_le HLs.out.now
      have hpl : pre.length = (plc pre).length := by simp [plc]
      have HN2 : Hid (Nums .i64 wr wr.heap.size A2 (plc pre)) := by
        have h := HP.out
        rw [hpl] at h
        exact Nums.of_own h
      have HN3 : Hid (Nums .u8 wr wr.heap.size A3 N) := Nums.of_own HLs.out.now
      have HF1 := Lib.hid hF1
      have HF2 := Lib.hid hF2
      have HF3 := Lib.hid hF3
      have HLA := Lib.hid hLA
      have HC := Lib.hid (And.intro hc1 (And.intro hc2 hc3))
      clear hF1 hF2 hF3 hLA hdr hpl hc1 hc2 hc3 HS HO HLs HP
      go_wp2
      go_ret3
      refine ⟨A1, c1, A2, c2, A3, c3, ?_, ?_, ?_, ?_, ?_, ?_, ?_, HBe.out⟩
      · rw [HF3.out, HF2.out, List.length_map]; rfl
      · rw [HF3.out]; exact HC.out.1
      · rw [HF3.out, List.length_map]; exact HC.out.2.1
      · rw [HF2.out]; exact HC.out.2.2
      · rw [HF3.out]; exact HLA.out
      · rw [HF1.out]; exact HN2.out
      · rw [HF2.out]; exact HN3.out
end Go.Proofs.Ytbohdmconeebeaa

namespace Go.Proofs.Ytbohdmconeebeaa
open Go.RowKit Go.Shelf
set_option maxRecDepth 100000
attribute [local go_sem] Oper.semAt_some

/-- what an iterator over a copy of bytes is: a closure over a box with the copy -/
structure BoxSeq (w : World) (zs : List Int) (Bs : Nat) (A : Option Addr) (n c : Nat) (w' : World) : Prop where
  lo : w.heap.size ≤ Bs
  hi : Bs < w'.heap.size
  box : w'.cell? ⟨Bs, 0, none⟩ = some (.slice A n c)
  room : n ≤ c
  nums : NumsS .u8 w' (fun b => w.heap.size ≤ b ∧ b < w'.heap.size) A zs
  below : Below w.heap.size w w'

theorem segments_any (a : Option Addr) (n c : Nat) (zs : List Int) (w : World) (hn : zs.length = n) (hl : n ≤ 1000000) (h1 : Nums .u8 w w.heap.size a zs) :
    Calls Try.prog 34 #[.slice a n c] w fun e w' => ∃ Bs A c', e = .returned (.func (.func 52) #[] #[.pointer (some ⟨Bs, 0, none⟩)]) ∧ BoxSeq w zs Bs A n c' w' := by
  have K := clone_any a n c zs w hn hl h1
  clear h1
  go_enter Try.func34, Try.ntmps34
  go_wp2_with fail
  refine K.mono ?_
  rintro e w1 ⟨v, rfl, hm⟩
  obtain ⟨A, c1, rfl, hc, _⟩ := hm.slice
  have hnu := hm.numsS rfl
  rw [hn] at hc ⊢
  have hb := hm.2.size
  have hb2 := hm.2.alloc hb (.cells #[.slice A n c1] 22)
  have hn2 : NumsS .u8 (w1.alloc (.cells #[.slice A n c1] 22)) (fun b => w.heap.size ≤ b ∧ b < (w1.alloc (.cells #[.slice A n c1] 22)).heap.size) A zs :=
    (hnu.keeps (KeepS.of_below ((Below.refl w1.heap.size w1).alloc (Nat.le_refl _) _) (fun k hk => hk.2))).more (fun k hk => ⟨hk.1, by rw [World.size_alloc]; omega⟩)
  clear hm hnu K
  go_wp2
  go_ret
  exact ⟨w1.heap.size, A, c1, rfl, hb, by simp, by simp, hc, hn2, hb2⟩
theorem seg_not_nil (Bs : Nat) (w : World) : (binOp .eql 76 (.func (.func 52) #[] #[.pointer (some ⟨Bs, 0, none⟩)]) .nilFunc).run Try.prog w = .ok (.bool false) w := by
  kernel_rfl

set_option maxHeartbeats 4000000 in
theorem segments_in (n : Nat) (hn3 : 3 ≤ n) (m' l Bs m c Bi s0 : Nat) (A : Option Addr) (zs : List Int) (hm : zs.length = m) (hl : m ≤ 1000000) (hz : Bytes zs)
    (Dn : Nat → World → Prop) (Bk X : World → Prop) (hBi : Bi < s0) (hls : l < s0 + 2)
    (hDb : ∀ j A B, Dn j A → Below s0 A B → Dn j B)
    (hBk : ∀ A B, Bk A → A.heap.size ≤ B.heap.size → (∀ k, s0 ≤ k → k < s0 + 2 → B.heap[k]? = A.heap[k]?) → Bk B) (hBlt : ∀ A, Bk A → s0 + 2 ≤ A.heap.size)
    (hX : ∀ A l' o o', X A → s0 + 2 ≤ l' → A.heap[l']? = some o → o.isCells = false → X (A.putObj l' o'))
    (hY : ∀ j (x : Nat × Option Addr × List Int) W1, Dn j W1 → (Fc.scan 0 [] zs)[j]? = some (x.1, x.2.2) → Nums .u8 W1 W1.heap.size x.2.1 x.2.2 → Bk W1 →
      YieldAt Fence.wide m' Try.prog l #[Value.int .i64 (x.1 : Int), Value.slice x.2.1 x.2.2.length x.2.2.length] W1 (YPost s0 l (KpC Bi) (fun W2 => Dn (j + 1) W2 ∧ Bk W2) X W1))
    (W : World) (hBs : W.cell? ⟨Bs, 0, none⟩ = some (.slice A m c)) (hBsl : Bs < W.heap.size) (hN : Nums .u8 W W.heap.size A zs) (hD0 : Dn 0 W) (hB0 : Bk W) :
    CallsIn Fence.wide n Try.prog 52 #[.func (.yield l) #[] #[], .pointer (some ⟨Bs, 0, none⟩)] W fun e W' => (∃ v, e = .returned v) ∧ ((Dn (Fc.scan 0 [] zs).length W' ∧ Bk W') ∨ X W') := by
  have hn1 : 1 ≤ n := by omega
  have hsW := hBlt W hB0
  have hcl := clone_any A m c zs (W.alloc (.cells #[.func (.yield l) #[] #[]] 99)) hm hl ((hN.below ((Below.refl _ W).alloc (Nat.le_refl _) _)).mono (by simp))
  refine callsIn_of_wp_marks Try.func52 rfl trivial ?_ rfl
  simp only [Try.ntmps52, List.size_toArray, List.length_cons, List.length_nil, Nat.reduceAdd, Nat.reduceSub, Array.replicate_succ, Array.replicate_zero, List.push_toArray, List.append_toArray, List.nil_append, List.cons_append]
  gi_wp2_with fail
  refine ⟨trivial, ?_⟩
  refine (callsIn_wide.2 hcl).mono ?_
  rintro e W2 ⟨v, rfl, hmk⟩
  clear hcl
  obtain ⟨A2, c2, rfl, hc2, hnu2⟩ := hmk.slice
  rw [hm] at hc2 ⊢
  have hb2 := hmk.2
  rw [World.size_alloc] at hb2
  gi_wp2_with fail
  refine ⟨trivial, ?_⟩
  refine (callsIn_wide.2 (closed_any A2 m c2 W2)).mono ?_
  rintro e W3 ⟨rfl, hW3⟩
  have hs2 : W.heap.size + 1 ≤ W2.heap.size := by have := hb2.size; rw [World.size_alloc] at this; omega
  have hs3 : W3.heap.size = W2.heap.size + 1 := by rw [hW3]; simp
  have hbW3 : Below W.heap.size W W3 := by
    rw [hW3]
    exact (((Below.refl _ W).alloc (Nat.le_refl _) _).trans (hb2.mono (by simp))).alloc (by omega) _
  have hyb : W3.heap[W.heap.size]? = some (.cells #[.func (.yield l) #[] #[]] 99) := by
    rw [hW3]
    exact (Below.heap_alloc W2 _ _ (by omega)).trans ((hb2.block _ (by omega)).trans (heap_alloc_new W _))
  have hpb : W3.heap[W2.heap.size]? = some (.cells #[.slice A2 m c2] 22) := by
    rw [hW3]; exact heap_alloc_new W2 _
  obtain ⟨S, hSd⟩ : ∃ S : Nat → Prop, S = fun k => k = W.heap.size ∨ k = W2.heap.size ∨ (zs ≠ [] ∧ blockOf A2 k) := ⟨_, rfl⟩
  have hSc : ∀ k, S k → s0 ≤ k ∧ k < W3.heap.size ∧ ∃ o, W3.heap[k]? = some o ∧ o.isCells = true := by
    intro k hk
    rw [hSd] at hk
    rcases hk with rfl | rfl | ⟨hz0, hk⟩
    · exact ⟨by omega, by omega, _, hyb, rfl⟩
    · exact ⟨by omega, by omega, _, hpb, rfl⟩
    · obtain ⟨o, sp, rfl⟩ := hk
      obtain ⟨h1, cur, h2⟩ := hmk.own_ge (g := k) rfl
      rw [World.size_alloc] at h1
      have hlt := (Array.getElem?_eq_some_iff.1 h2).1
      exact ⟨by omega, by omega, .cells cur 5 (0, 0), by rw [hW3]; exact (Below.heap_alloc W2 _ _ hlt).trans h2, rfl⟩
  have hSlt : ∀ k, S k → k < W3.heap.size := fun k hk => (hSc k hk).2.1
  have hNS : NumsS .u8 W3 S A2 zs := fun h0 => by
    obtain ⟨b, off, e, hb, hcl⟩ := hnu2 h0
    refine ⟨b, off, e, by rw [hSd]; exact .inr (.inr ⟨h0, _, _, e⟩), fun j z hj => ?_⟩
    rw [hW3]
    exact (World.cell?_alloc_lt W2 _ ⟨b, off + j, none⟩ hb).trans (hcl j z hj)
  have hSy : S W.heap.size := by rw [hSd]; exact .inl rfl
  have hSp : S W2.heap.size := by rw [hSd]; exact .inr (.inl rfl)
  have hsm : ∀ V V', KeepS S W3 V → KpC Bi V V' → KeepS S V V' := fun V V' h1 h2 => ⟨h2.size, fun k hk => by
    obtain ⟨h3, _, o, h4, h5⟩ := hSc k hk
    have h6 := (h1.2 k hk).trans h4
    rw [h6]; exact h2.same k o (by omega) h6 h5⟩
  have hsb : s0 ≤ W.heap.size := by omega
  have hD3 := hDb 0 _ _ hD0 (hbW3.mono hsb)
  have hB3 : Bk W3 := hBk _ _ hB0 hbW3.size (fun k _ h2 => hbW3.block k (by omega))
  have hyc : W3.cell? ⟨W.heap.size, 0, none⟩ = some (.func (.yield l) #[] #[]) := by simp [World.cell?, hyb]
  have hpc : W3.cell? ⟨W2.heap.size, 0, none⟩ = some (.slice A2 m c2) := by simp [World.cell?, hpb]
  have hs03 : s0 ≤ W3.heap.size := by omega
  have hs032 : s0 + 2 ≤ W3.heap.size := by omega
  have hKo : ∀ (V : World) (l' : Nat) (o' : Obj), W3.heap.size ≤ l' → KeepS S V (V.putObj l' o') := fun V l' o' hl' => ⟨by simp [World.putObj], fun k hk => World.putObj_heap_other (by have := hSlt k hk; omega)⟩
  have hBo : ∀ (V : World) (l' : Nat) (o' : Obj), Bk V → W3.heap.size ≤ l' → Bk (V.putObj l' o') := fun V l' o' hb hl' => hBk _ _ hb (by simp [World.putObj]) (fun k _ h2 => World.putObj_heap_other (by omega))
  clear hW3 hSd hmk hb2 hyb hpb hN hBs hnu2
  gi_wp2_with fail
  refine range_stops rfl hn1 (gf := 69) (lb := #[.pointer (some ⟨W2.heap.size, 0, none⟩)]) rfl trivial (enters_of Try.func69 (by kernel_rfl) rfl)
    (fun x : Nat × Option Addr × List Int => #[Value.int .i64 (x.1 : Int), Value.slice x.2.1 x.2.2.length x.2.2.length]) (fun _ => rfl)
    (fun j x V => Dn j V ∧ Bk V ∧ KeepS S W3 V ∧ (Fc.scan 0 [] zs)[j]? = some (x.1, x.2.2) ∧ NumsS .u8 W3 S x.2.1 x.2.2)
    (fun j V => Dn j V ∧ Bk V ∧ KeepS S W3 V) (fun cd V => cd = .ret ∧ X V) (KeepS S) (Fc.scan 0 [] zs).length
    (fun j x V l' o o' h hl' ho hc' => ⟨hDb _ _ _ h.1 (below_put V o' (Nat.le_trans hs03 hl')), hBo V l' o' h.2.1 hl', h.2.2.1.trans (hKo V l' o' hl'), h.2.2.2⟩)
    (fun j V l' o o' h hl' ho hc' => ⟨hDb _ _ _ h.1 (below_put V o' (Nat.le_trans hs03 hl')), hBo V l' o' h.2.1 hl', h.2.2.trans (hKo V l' o' hl')⟩)
    (fun cd V l' o o' h hl' ho hc' => ⟨h.1, hX V l' o o' h.2 (Nat.le_trans hs032 hl') ho hc'⟩)
    (fun _ _ _ h k => h.trans k) (fun V l' o o' hl' ho hc' => hKo V l' o' hl')
    (fun o => ⟨hDb _ _ _ hD3 (((Below.refl s0 W3).alloc hs03 _).alloc (by rw [World.size_alloc]; omega) _), hBk _ _ hB3 (by simp; omega) (fun k _ h2 => (((Below.refl W3.heap.size W3).alloc (Nat.le_refl _) _).alloc (by simp) _).block k (by omega)), KeepS.of_below (((Below.refl W3.heap.size W3).alloc (Nat.le_refl _) _).alloc (by simp) _) hSlt⟩) ?a1 ?assign ?body ?iter ?done ?stop
  case assign =>
    intro l' x V K hK
    gi_wp2
    exact hK
  case body =>
    rintro l' j x V hl' ⟨hDV, hBV, hKV, hxj, hnx⟩ hj
    have hyV : V.cell? ⟨W.heap.size, 0, none⟩ = some (.func (.yield l) #[] #[]) := (hKV.cell (p := ⟨W.heap.size, 0, none⟩) hSy).trans hyc
    have hnV : Nums .u8 V V.heap.size x.2.1 x.2.2 := (hnx.keeps hKV).nums (fun k hk => by have := hSlt k hk; have := hKV.1; omega)
    obtain ⟨fn, tmps, assign, body, hy, hR⟩ := yield_any (n - 1 - 1 - 1) (hY j x V hDV hxj hnV hBV)
    have HR := Lib.hid hR
    have HKV := Lib.hid hKV
    clear hR hD3 hB3 hnV hKV hDV hBV hxj
    gi_wp2_with fail
    refine ⟨fun _ => by omega, ?_⟩
    refine RoundIn.mono (F := Fence.wide.inRound l') HR.out ?_
    rintro e V2 (⟨rfl, ⟨hd, hb⟩, hk, hkb⟩ | ⟨rfl, hx, hkb⟩)
    · have hkS := hsm V V2 HKV.out hk
      have hfin := Lib.hid (show KeepsFrom (W2.heap.size + 1) V V2 ∧ (Dn (j + 1) V2 ∧ Bk V2 ∧ KeepS S W3 V2) ∧ KeepS S V V2 from
        ⟨⟨hk.size, fun k o h1 h2 h3 => hkb.same k o (by omega) (by omega) h2 h3⟩, ⟨hd, hb, HKV.out.trans hkS⟩, hkS⟩)
      clear hd hb hk hkb hkS HKV HR
      gi_wp2
      rw [← hs3] at hfin
      exact hfin.out
    · have hfin := Lib.hid (show KeepsFrom (W2.heap.size + 1) V V2 ∧ X V2 from
        ⟨⟨hkb.size, fun k o h1 h2 h3 => hkb.same k o (by omega) (by omega) h2 h3⟩, hx⟩)
      clear hkb hx HKV HR
      gi_wp2
      rw [← hs3] at hfin
      exact ⟨hfin.out.1, rfl, hfin.out.2⟩
  case iter =>
    intro Bk2 X2 l2 V hBk2 hBlt2 hX2 hl2 hDV hBV hYV
    refine (closed_in (n - 1) (by omega) (n - 1 - 1) l2 W2.heap.size m c2 S W3 hSlt A2 zs hm hl hz hc2 (fun j V => (Dn j V ∧ Bk V ∧ KeepS S W3 V) ∧ Bk2 V) X2 ?_ V hSp hpc hDV.2.2 hNS ⟨hDV, hBV⟩).mono ?_
    · rintro j p A' b V1 ⟨⟨h1, h2, h3⟩, h4⟩ hk hx hnx
      have hj : j < (Fc.scan 0 [] zs).length := by
        rcases Nat.lt_or_ge j (Fc.scan 0 [] zs).length with h | h
        · exact h
        · rw [List.getElem?_eq_none h] at hx; cases hx
      refine (hYV j (p, A', b) V1 ⟨h1, h2, h3, hx, hnx⟩ h4 hj).mono ?_
      rintro e V2 (⟨rfl, hd, hkk, _⟩ | ⟨rfl, hx, _⟩)
      · exact .inl ⟨rfl, hd, hkk⟩
      · exact .inr ⟨rfl, hx⟩
    · rintro e V2 ⟨hv, ⟨h1, _⟩ | h⟩
      · exact ⟨hv, .inl h1⟩
      · exact ⟨hv, .inr h⟩
  case done =>
    rintro D V hD ⟨hDV, hBV, hKV⟩ hK
    have hfin := Lib.hid (And.intro (hDb _ _ _ hDV (below_put V (.deferred none) (Nat.le_trans hs03 hD))) (hBo V D (.deferred none) hBV hD))
    clear hDV hBV hKV hD3 hB3
    gi_wp2
    refine ⟨by simp, .inl ⟨_, _, rfl, run_takeDeferred hK, ?_⟩⟩
    refine ⟨_, results_none rfl _ _ _, ?_⟩
    exact ⟨⟨_, rfl⟩, .inl hfin.out⟩
  case stop =>
    rintro D cd V hD ⟨rfl, hx⟩ hK
    have hfin := Lib.hid (hX V D _ (.deferred none) hx (Nat.le_trans hs032 hD) hK rfl)
    clear hx
    gi_wp2
    refine ⟨by simp, .inl ⟨_, _, rfl, run_takeDeferred hK, ?_⟩⟩
    refine ⟨_, results_none rfl _ _ _, ?_⟩
    exact ⟨⟨_, rfl⟩, .inr hfin.out⟩
end Go.Proofs.Ytbohdmconeebeaa

namespace Go.Proofs.Ytbohdmconeebeaa
open Go.RowKit Go.Shelf
set_option maxRecDepth 100000
attribute [local go_sem] Oper.semAt_some

/-- what Frames leaves: the segments' iterator in the box Ba, the codec in the box Bc -/
structure FrSeq (w : World) (zs : List Int) (cb Bs Ba Bc : Nat) (A : Option Addr) (n c : Nat) (w' : World) : Prop where
  loS : w.heap.size ≤ Bs
  hiS : Bs < w'.heap.size
  loA : w.heap.size ≤ Ba
  hiA : Ba < w'.heap.size
  loC : w.heap.size ≤ Bc
  hiC : Bc < w'.heap.size
  boxS : w'.cell? ⟨Bs, 0, none⟩ = some (.slice A n c)
  boxA : w'.cell? ⟨Ba, 0, none⟩ = some (.func (.func 52) #[] #[.pointer (some ⟨Bs, 0, none⟩)])
  boxC : w'.cell? ⟨Bc, 0, none⟩ = some (.pointer (some ⟨cb, 0, none⟩))
  room : n ≤ c
  nums : NumsS .u8 w' (fun b => w.heap.size ≤ b ∧ b < w'.heap.size) A zs
  below : Below w.heap.size w w'
theorem store_func (W : World) (t : TypeId) (f : FuncId) (lb : Array Value) : (store ⟨W.heap.size, 0, none⟩ (.func (.func f) #[] lb)).run Try.prog (W.alloc (.cells #[.nilFunc] t)) = .ok () (W.alloc (.cells #[.func (.func f) #[] lb] t)) := by
  have hg := heap_alloc_new W (.cells #[.nilFunc] t)
  rw [run_store Try.prog _ _ _ _ (by rfl), cell_of_row _ _ 0 _ _ _ hg, frozen_of_row _ _ 0 _ _ hg, setCell_eq_setRow _ _ 0 _ t (0, 0) _ hg, World.setRow_alloc_new]
  rfl
theorem frames_any (cb : Nat) (a : Option Addr) (n c : Nat) (zs : List Int) (w : World) (hn : zs.length = n) (hl : n ≤ 1000000) (h1 : Nums .u8 w w.heap.size a zs) :
    Calls Try.prog 16 #[.pointer (some ⟨cb, 0, none⟩), .slice a n c] w fun e w' => ∃ Bs Ba Bc A c', e = .returned (.func (.func 35) #[] #[.pointer (some ⟨Ba, 0, none⟩), .pointer (some ⟨Bc, 0, none⟩)]) ∧ FrSeq w zs cb Bs Ba Bc A n c' w' := by
  obtain ⟨w0, hw0⟩ : ∃ w0, w.alloc (.cells #[.pointer (some ⟨cb, 0, none⟩)] 23) = w0 := ⟨_, rfl⟩
  have hb0 : Below w.heap.size w w0 := by rw [← hw0]; exact (Below.refl _ w).alloc (Nat.le_refl _) _
  have hs0 : w0.heap.size = w.heap.size + 1 := by rw [← hw0]; simp
  have hC0 : w0.cell? ⟨w.heap.size, 0, none⟩ = some (.pointer (some ⟨cb, 0, none⟩)) := by rw [← hw0]; exact World.cell?_alloc_at _ _ _ _ rfl
  have K := segments_any a n c zs w0 hn hl ((h1.below hb0).mono hb0.size)
  have HW0 := Lib.hid hw0
  have HB0 := Lib.hid hb0
  have HC0 := Lib.hid hC0
  have HS0 := Lib.hid hs0
  clear hw0 hb0 hC0 h1 hs0
  go_enter Try.func16, Try.ntmps16
  go_wp2_with fail
  rw [HW0.out]
  refine K.mono ?_
  rintro e w1 ⟨Bs, A, c', rfl, hq⟩
  clear K
  have HQ := Lib.hid hq
  clear hq
  have hst := store_func w1 76 52 #[.pointer (some ⟨Bs, 0, none⟩)]
  go_wp2
  go_ret
  have hq := HQ.out
  have hs0 := HS0.out
  have hlo := hq.lo
  have hhi := hq.hi
  have hsz := hq.below.size
  have hb2 := (Below.refl w1.heap.size w1).alloc (Nat.le_refl _) (.cells #[.func (.func 52) #[] #[.pointer (some ⟨Bs, 0, none⟩)]] 76)
  refine ⟨Bs, w1.heap.size, w.heap.size, A, c', rfl, by omega, by simp; omega, by omega, by simp, Nat.le_refl _, by simp; omega, ?_, ?_, ?_, hq.room, ?_, HB0.out.trans ((hq.below.trans (hb2.mono hsz)).mono HB0.out.size)⟩
  · exact (hb2.cell (p := ⟨Bs, 0, none⟩) hhi).trans hq.box
  · exact World.cell?_alloc_at _ _ _ _ rfl
  · exact (hb2.cell (p := ⟨w.heap.size, 0, none⟩) (by simp only; omega)).trans ((hq.below.cell (p := ⟨w.heap.size, 0, none⟩) (by simp only; omega)).trans HC0.out)
  · exact (hq.nums.keeps (KeepS.of_below hb2 fun k hk => hk.2)).more fun k hk => ⟨by omega, by rw [World.size_alloc]; omega⟩
theorem frs_not_nil (Ba Bc : Nat) (w : World) : (binOp .eql 50 (.func (.func 35) #[] #[.pointer (some ⟨Ba, 0, none⟩), .pointer (some ⟨Bc, 0, none⟩)]) .nilFunc).run Try.prog w = .ok (.bool false) w := by
  kernel_rfl

theorem scan_bytes {zs : List Int} (hz : Bytes zs) {p : Nat} {b : List Int} (h : (p, b) ∈ Fc.scan 0 [] zs) : Bytes b := by
  have key : ∀ (l : List Int) (p : Nat) (now : List Int), Bytes l → Bytes now → ∀ x ∈ Fc.scan p now l, Bytes x.2 := by
    intro l
    induction l with
    | nil => intro p now _ _ x hx; simp [Fc.scan] at hx
    | cons z r ih =>
      intro p now h1 h2 x hx
      have hr : Bytes r := fun c hc => h1 c (by simp [hc])
      by_cases hz0 : z = 0
      · subst hz0
        rw [Fc.scan_zero] at hx
        rcases List.mem_append.1 hx with hx | hx
        · split at hx
          · cases hx
          · obtain rfl : x = (p - now.length, now) := by simpa using hx
            exact h2
        · exact ih _ [] hr (fun c hc => by cases hc) x hx
      · rw [Fc.scan_ne hz0] at hx
        exact ih _ (now ++ [z]) hr (h2.append fun c hc => by
          obtain rfl : c = z := by simpa using hc
          exact h1 c (by simp)) x hx
  exact key zs 0 [] hz (fun c hc => by cases hc) _ h
set_option maxHeartbeats 8000000 in
theorem frames_in (n : Nat) (hn5 : 5 ≤ n) (m' l Bs Ba Bc cb m c Bi s0 : Nat) (A : Option Addr) (zs : List Int) (hm : zs.length = m) (hl : m ≤ 1000000) (hz : Bytes zs)
    (Dn : Nat → World → Prop) (Bk X : World → Prop) (hBi : Bi < s0) (hls : l < s0 + 2)
    (hDb : ∀ j A B, Dn j A → Below s0 A B → Dn j B) (hDc : ∀ j A, Dn j A → CodAt A A.heap.size cb)
    (hBk : ∀ A B, Bk A → A.heap.size ≤ B.heap.size → (∀ k, s0 ≤ k → k < s0 + 2 → B.heap[k]? = A.heap[k]?) → Bk B) (hBlt : ∀ A, Bk A → s0 + 2 ≤ A.heap.size)
    (hX : ∀ A l' o o', X A → s0 + 2 ≤ l' → A.heap[l']? = some o → o.isCells = false → X (A.putObj l' o'))
    (hY : ∀ (j p : Nat) (s : List Int) (A1 : Option Addr) (c1 : Nat) (W1 : World), Dn j W1 → (Fc.scan 0 [] zs)[j]? = some (p, s) → (unS s).1.2.length ≤ c1 → Nums .u8 W1 W1.heap.size A1 (unS s).1.2 → Bk W1 →
      YieldAt Fence.wide m' Try.prog l #[frP (unS s).1 (.slice A1 (unS s).1.2.length c1), .int .i64 (unS s).2] W1 (YPost s0 l (KpC Bi) (fun W2 => Dn (j + 1) W2 ∧ Bk W2) X W1))
    (W : World) (hBs : W.cell? ⟨Bs, 0, none⟩ = some (.slice A m c)) (hBa : W.cell? ⟨Ba, 0, none⟩ = some (.func (.func 52) #[] #[.pointer (some ⟨Bs, 0, none⟩)])) (hBc : W.cell? ⟨Bc, 0, none⟩ = some (.pointer (some ⟨cb, 0, none⟩)))
    (hBci : Bc ≠ Bi) (hN : Nums .u8 W W.heap.size A zs) (hD0 : Dn 0 W) (hB0 : Bk W) :
    CallsIn Fence.wide n Try.prog 35 #[.func (.yield l) #[] #[], .pointer (some ⟨Ba, 0, none⟩), .pointer (some ⟨Bc, 0, none⟩)] W fun e W' => (∃ v, e = .returned v) ∧ ((Dn (Fc.scan 0 [] zs).length W' ∧ Bk W') ∨ X W') := by
  have hn1 : 1 ≤ n := by omega
  have hsW := hBlt W hB0
  have hBsl := block_of_cell hBs
  have hBal := block_of_cell hBa
  have hBcl := block_of_cell hBc
  simp only at hBsl hBal hBcl
  refine callsIn_of_wp_marks Try.func35 rfl trivial ?_ rfl
  simp only [Try.ntmps35, List.size_toArray, List.length_cons, List.length_nil, Nat.reduceAdd, Nat.reduceSub, Array.replicate_succ, Array.replicate_zero, List.push_toArray, List.append_toArray, List.nil_append, List.cons_append]
  gi_wp2_with fail
  refine wpIn_wide.2 (wp_scope_straight ((wpIn_wide (n := n)).1 ?_))
  gi_wp2_with fail
  apply wpIn_label
  gi_wp2_with fail
  have hcc0 := hDc 0 W hD0
  obtain ⟨w1, hw1⟩ : ∃ w1, W.alloc (.cells #[.func (.yield l) #[] #[]] 74) = w1 := ⟨_, rfl⟩
  have hs1 : w1.heap.size = W.heap.size + 1 := by rw [← hw1]; simp
  have hb1 : Below W.heap.size W w1 := by rw [← hw1]; exact (Below.refl _ W).alloc (Nat.le_refl _) _
  have hyb : w1.heap[W.heap.size]? = some (.cells #[.func (.yield l) #[] #[]] 74 (0, 0)) := by rw [← hw1]; exact heap_alloc_new W _
  have hyc : w1.cell? ⟨W.heap.size, 0, none⟩ = some (.func (.yield l) #[] #[]) := by simp [World.cell?, hyb]
  obtain ⟨oc, hoc, hocc⟩ := cells_of_cell hBc
  have hsb : s0 ≤ W.heap.size := by omega
  have hD1 := hDb 0 _ _ hD0 (hb1.mono hsb)
  have hB1 : Bk w1 := hBk _ _ hB0 hb1.size (fun k _ h2 => hb1.block k (by omega))
  have hs01 : s0 ≤ w1.heap.size := by omega
  have hs012 : s0 + 2 ≤ w1.heap.size := by omega
  have hcw : w1.heap[Bc]? = some oc := (hb1.block _ hBcl).trans hoc
  -- the two boxes that a round reads stay as they are
  obtain ⟨BX, hBX⟩ : ∃ BX : World → Prop, BX = fun V => w1.heap.size ≤ V.heap.size ∧ V.heap[W.heap.size]? = w1.heap[W.heap.size]? ∧ V.heap[Bc]? = w1.heap[Bc]? := ⟨_, rfl⟩
  have hBX0 : ∀ V, BX V → w1.heap.size ≤ V.heap.size ∧ V.cell? ⟨W.heap.size, 0, none⟩ = some (.func (.yield l) #[] #[]) ∧ V.cell? ⟨Bc, 0, none⟩ = some (.pointer (some ⟨cb, 0, none⟩)) := fun V hV => by
    rw [hBX] at hV
    exact ⟨hV.1, (World.cell?_of_block (a := ⟨W.heap.size, 0, none⟩) hV.2.1).trans hyc, (World.cell?_of_block (a := ⟨Bc, 0, none⟩) (hV.2.2.trans (hcw.trans hoc.symm))).trans hBc⟩
  have hBXb : ∀ V V', BX V → Below w1.heap.size V V' → BX V' := fun V V' h hb => by
    rw [hBX] at h ⊢
    exact ⟨Nat.le_trans h.1 hb.size, (hb.block _ (by omega)).trans h.2.1, (hb.block _ (by omega)).trans h.2.2⟩
  have hBXk : ∀ V V', BX V → KpC Bi V V' → BX V' := fun V V' h hk => by
    rw [hBX] at h ⊢
    refine ⟨Nat.le_trans h.1 hk.size, ?_, ?_⟩
    · rw [hyb] at h ⊢; exact hk.same _ _ (by omega) h.2.1 rfl
    · rw [hcw] at h ⊢; exact hk.same _ _ hBci h.2.2 hocc
  have hBX1 : BX w1 := by rw [hBX]; exact ⟨Nat.le_refl _, rfl, rfl⟩
  have hW1b : ∀ j V, Dn j V ∧ Bk V ∧ BX V ∧ (j = 0 → Below w1.heap.size w1 V) → ∀ V', Below w1.heap.size V V' → Dn j V' ∧ Bk V' ∧ BX V' ∧ (j = 0 → Below w1.heap.size w1 V') := fun j V h V' hb =>
    ⟨hDb _ _ _ h.1 (hb.mono hs01), hBk _ _ h.2.1 hb.size (fun k _ h2 => hb.block k (by omega)), hBXb _ _ h.2.2.1 hb, fun h0 => (h.2.2.2 h0).trans hb⟩
  rw [hw1]
  clear hw1
  refine range_stops rfl hn1 (gf := 52) (lb := #[.pointer (some ⟨Bs, 0, none⟩)]) rfl trivial (enters_of Try.func52 (by kernel_rfl) rfl)
    (fun x : Nat × Option Addr × List Int => #[Value.int .i64 (x.1 : Int), Value.slice x.2.1 x.2.2.length x.2.2.length]) (fun _ => rfl)
    (fun j x V => (Dn j V ∧ Bk V ∧ BX V ∧ (j = 0 → Below w1.heap.size w1 V)) ∧ (Fc.scan 0 [] zs)[j]? = some (x.1, x.2.2) ∧ Nums .u8 V V.heap.size x.2.1 x.2.2)
    (fun j V => Dn j V ∧ Bk V ∧ BX V ∧ (j = 0 → Below w1.heap.size w1 V)) (fun cd V => cd = .exit 0 ∧ X V) (KpC Bi) (Fc.scan 0 [] zs).length
    (fun j x V l' o o' h hl' ho hc' => ⟨hW1b j V h.1 _ (below_put V o' hl'), h.2.1, by rw [show (V.putObj l' o').heap.size = V.heap.size by simp [World.putObj]]; exact h.2.2.putObj ho hc' o'⟩)
    (fun j V l' o o' h hl' ho hc' => hW1b j V h _ (below_put V o' hl'))
    (fun cd V l' o o' h hl' ho hc' => ⟨h.1, hX V l' o o' h.2 (by omega) ho hc'⟩)
    (fun _ _ _ h k => h.trans k) (fun V l' o o' hl' ho hc' => KpC.putObj ho hc')
    (fun o => hW1b 0 w1 ⟨hD1, hB1, hBX1, fun _ => Below.refl _ _⟩ _ (((Below.refl w1.heap.size w1).alloc (Nat.le_refl _) _).alloc (by simp) _)) ?a1 ?assign ?body ?iter ?done ?stop
  case assign =>
    intro l' x V K hK
    gi_wp2
    exact hK
  case body =>
    rintro l' j x V hl' ⟨hV, hxj, hnx⟩ hj
    obtain ⟨hsV, kY, kC⟩ := hBX0 V hV.2.2.1
    have hmem := Fc.scan_mem zs 0 [] (by intro c hc; cases hc) _ (List.mem_of_getElem? hxj)
    have hxl : x.2.2.length ≤ 1000000 := by have := hmem.2.2; simp only [List.length_nil] at this; omega
    have hxb : Bytes x.2.2 := scan_bytes hz (List.mem_of_getElem? hxj)
    have K := funpack_any cb x.2.1 x.2.2.length x.2.2.length x.2.2 V (hDc j V hV.1) rfl (Nat.le_refl _) hxl hxb hnx
    obtain ⟨⟨⟨⟨v, k, s, i, d⟩, L⟩, er⟩, hP⟩ : ∃ y, unS x.2.2 = y := ⟨_, rfl⟩
    rw [hP] at K
    have HV := Lib.hid hV
    have HXJ := Lib.hid hxj
    have HP := Lib.hid hP
    clear hV hxj hP hmem hxb hnx
    gi_wp2_with fail
    refine ⟨trivial, fun _ => by omega, ?_⟩
    refine (CallsIn.inRound l' (callsIn_wide.2 K)).mono ?_
    rintro e V1 ⟨A1, c1, rfl, hc1, hn1', hb1'⟩
    clear K
    simp only [frP] at hc1 hn1' ⊢
    unfold frV frC
    obtain ⟨V2, hV2⟩ : ∃ V2, V1.alloc (.cells (frC v k s i d (.slice A1 L.length c1)) 29) = V2 := ⟨_, rfl⟩
    have hb12 : Below V1.heap.size V1 V2 := by rw [← hV2]; exact (Below.refl _ V1).alloc (Nat.le_refl _) _
    have hfb : V2.heap[V1.heap.size]? = some (.cells (frC v k s i d (.slice A1 L.length c1)) 29 (0, 0)) := by rw [← hV2]; exact World.alloc_heap_new _ _
    have hbV2 := hb1'.trans (hb12.mono hb1'.size)
    obtain ⟨hD2, hB2, hX2, _⟩ := hW1b j V HV.out V2 (hbV2.mono hsV)
    obtain ⟨_, kY2, _⟩ := hBX0 V2 hX2
    have hn2 : Nums .u8 V2 V2.heap.size A1 L := ((hn1'.nums (B := V1.heap.size) fun q hq => hq.2).below hb12).mono hb12.size
    obtain ⟨d0, d1, d2, d3, d4, d5⟩ := fr_block hfb
    have hyld := hY j x.1 x.2.2 A1 c1 V2 hD2 HXJ.out (by rw [HP.out]; exact hc1) (by rw [HP.out]; exact hn2) hB2
    rw [HP.out] at hyld
    simp only [frP] at hyld
    unfold frV frC at hyld
    unfold frC at hV2
    rw [← hV2] at hyld kY2
    obtain ⟨fn, tmps, assign, body, hy, hR⟩ := yield_any (n - 1 - 1 - 1) hyld
    have HR := Lib.hid hR
    have HBV := Lib.hid hbV2
    have HX2 := Lib.hid hX2
    have HV2 := Lib.hid hV2
    clear hR hD2 hB2 hX2 hn2 hyld hfb hb12 hb1' hn1' hbV2 hV2 kY kC d0 d1 d2 d3 d4 d5
    gi_wp2_with fail
    refine ⟨fun _ => by omega, ?_⟩
    refine RoundIn.mono (F := Fence.wide.inRound l') HR.out ?_
    rw [HV2.out]
    rintro e V3 (⟨rfl, ⟨hd, hb⟩, hk, hkb⟩ | ⟨rfl, hx, hkb⟩)
    · have hX3 := hBXk _ _ HX2.out hk
      have hfin := Lib.hid (show KeepsFrom w1.heap.size V V3 ∧ (Dn (j + 1) V3 ∧ Bk V3 ∧ BX V3 ∧ (j + 1 = 0 → Below w1.heap.size w1 V3)) ∧ KpC Bi V V3 from
        ⟨⟨Nat.le_trans HBV.out.size hk.size, fun q o h1 h2 h3 => hkb.same q o (by omega) (by omega) ((HBV.out.block q (Array.getElem?_eq_some_iff.1 h2).1).trans h2) h3⟩, ⟨hd, hb, hX3, fun h => by omega⟩, (KpC.of_below HBV.out).trans hk⟩)
      clear hd hb hk hkb hX3 HR
      gi_wp2
      exact hfin.out
    · have hfin := Lib.hid (show KeepsFrom w1.heap.size V V3 ∧ X V3 from
        ⟨⟨Nat.le_trans HBV.out.size hkb.size, fun q o h1 h2 h3 => hkb.same q o (by omega) (by omega) ((HBV.out.block q (Array.getElem?_eq_some_iff.1 h2).1).trans h2) h3⟩, hx⟩)
      clear hx hkb HR
      gi_wp2
      exact ⟨hfin.out.1, rfl, hfin.out.2⟩
  case iter =>
    intro Bk2 X2 l2 V hBk2 hBlt2 hX2 hl2 hDV hBV hYV
    have hb1V := hDV.2.2.2 rfl
    have hbWV := hb1.trans (hb1V.mono hb1.size)
    exact segments_in (n - 1) (by omega) (n - 1 - 1) l2 Bs m c Bi w1.heap.size A zs hm hl hz (fun j V => Dn j V ∧ Bk V ∧ BX V ∧ (j = 0 → Below w1.heap.size w1 V)) Bk2 X2 (by omega) hl2 (fun j A B h hb => hW1b j A h B hb) hBk2 hBlt2 hX2
      (fun j x W1 h1 h2 h3 h4 => hYV j x W1 ⟨h1, h2, h3⟩ h4 (by
        rcases Nat.lt_or_ge j (Fc.scan 0 [] zs).length with h | h
        · exact h
        · rw [List.getElem?_eq_none h] at h2; cases h2)) V ((hbWV.cell (p := ⟨Bs, 0, none⟩) hBsl).trans hBs) (Nat.lt_of_lt_of_le hBsl hbWV.size) ((hN.below hbWV).mono hbWV.size) hDV hBV
  case done =>
    rintro D V hD ⟨hDV, hBV, _, _⟩ hK
    have hfin := Lib.hid (And.intro (hDb _ _ _ hDV (below_put V (.deferred none) (Nat.le_trans hs01 hD))) (hBk _ _ hBV (by simp [World.putObj]) (fun k _ h2 => World.putObj_heap_other (by omega)) : Bk (V.putObj D (.deferred none))))
    clear hDV hBV hD1 hB1
    gi_wp2
    refine ⟨by simp, .inl ⟨_, _, rfl, run_takeDeferred hK, ?_⟩⟩
    refine ⟨_, results_none rfl _ _ _, ?_⟩
    exact ⟨⟨_, rfl⟩, .inl hfin.out⟩
  case stop =>
    rintro D cd V hD ⟨rfl, hx⟩ hK
    have hfin := Lib.hid (hX V D _ (.deferred none) hx (Nat.le_trans hs012 hD) hK rfl)
    clear hx
    gi_wp2
    refine ⟨by simp, .inl ⟨_, _, rfl, run_takeDeferred hK, ?_⟩⟩
    refine ⟨_, results_none rfl _ _ _, ?_⟩
    exact ⟨⟨_, rfl⟩, .inr hfin.out⟩
end Go.Proofs.Ytbohdmconeebeaa

namespace Go.Proofs.Ytbohdmconeebeaa
open Go.RowKit Go.Shelf
set_option maxRecDepth 100000

/-- the cells of frames, one behind the other -/
def flatF (fs : List Fr) : List Value := fs.flatMap fun f => f.cs.toList
theorem flatF_len (fs : List Fr) : (flatF fs).length = fs.length * 6 := by
  induction fs with
  | nil => rfl
  | cons f r ih => unfold flatF at *; rw [List.flatMap_cons, List.length_append, ih, List.length_cons]; have : f.cs.toList.length = 6 := rfl; omega
theorem flatF_push (fs : List Fr) (f : Fr) : flatF (fs ++ [f]) = flatF fs ++ f.cs.toList := by unfold flatF; simp
theorem flatF_at : ∀ {fs : List Fr} {j q : Nat} {f : Fr} {u : Value}, fs[j]? = some f → f.cs[q]? = some u → (flatF fs)[j * 6 + q]? = some u
  | [], _, _, _, _, h, _ => by simp at h
  | g :: r, 0, q, f, u, h, hq => by
    simp only [List.getElem?_cons_zero, Option.some.injEq] at h
    subst h
    have hlt : q < 6 := (Array.getElem?_eq_some_iff.1 hq).1
    unfold flatF
    rw [List.flatMap_cons, List.getElem?_append_left (by show 0 * 6 + q < 6; omega), Nat.zero_mul, Nat.zero_add, Array.getElem?_toList]
    exact hq
  | g :: r, j + 1, q, f, u, h, hq => by
    have ih := flatF_at (fs := r) (j := j) (q := q) (f := f) (u := u) (by simpa using h) hq
    unfold flatF at *
    have h6 : g.cs.toList.length = 6 := rfl
    rw [List.flatMap_cons, List.getElem?_append_right (by rw [h6]; omega), h6, show (j + 1) * 6 + q - 6 = j * 6 + q by omega]
    exact ih
/-- two rows of unlike types lie apart -/
theorem own_apart {W : World} {base e e2 size size2 n m : Nat} {v u : Value} {xs ys : List Value} (h : W.ownsRow base e size v n xs) (h2 : W.ownsRow base e2 size2 u m ys) (hne : e ≠ e2) : v.ownBlock = none ∨ v.ownBlock ≠ u.ownBlock := by
  rcases h.2 with ⟨rfl, _⟩ | ⟨g, cap, cur, rfl, _, hh, _⟩
  · exact .inl rfl
  · right
    rcases h2.2 with ⟨rfl, _⟩ | ⟨g2, cap2, cur2, rfl, _, hh2, _⟩
    · simp [Value.ownBlock]
    · intro e3
      simp only [Value.ownBlock, Option.some.injEq] at e3
      subst e3
      rw [hh] at hh2
      injection hh2 with hh2
      injection hh2 with _ ht
      exact hne ht
theorem own_below6 {W W' : World} {base e size n : Nat} {v : Value} {xs : List Value} (h : W.ownsRow base e size v n xs) (hb : Below W.heap.size W W') : W'.ownsRow base e size v n xs := by
  refine ⟨h.1, ?_⟩
  rcases h.2 with h | ⟨g, cap, cur, hv, hg, hh, r⟩
  · exact .inl h
  · exact .inr ⟨g, cap, cur, hv, hg, (hb.block g (Array.getElem?_eq_some_iff.1 hh).1).trans hh, r⟩
/-- frames that lie there, their payloads with them -/
def FrsIn (w : World) (B : Nat) (A : Option Addr) (fs : List Fr) : Prop :=
  ∀ (j : Nat) (f : Fr), fs[j]? = some f → ∃ b, A = some ⟨b, 0, none⟩ ∧ b < B ∧ (∀ (q : Nat) (u : Value), f.cs[q]? = some u → w.cell? ⟨b, j * 6 + q, none⟩ = some u) ∧ f.zs.length ≤ f.cp ∧ Nums .u8 w B f.a f.zs
theorem FrsIn.below {w w' : World} {B : Nat} {A : Option Addr} {fs : List Fr} (h : FrsIn w B A fs) (hb : Below B w w') : FrsIn w' B A fs := fun j f hj => by
  obtain ⟨b, e, hB, hc, hl, hn⟩ := h j f hj
  exact ⟨b, e, hB, fun q u hq => (hb.cell (p := ⟨b, j * 6 + q, none⟩) hB).trans (hc q u hq), hl, hn.below hb⟩
theorem FrsIn.mono {w : World} {B B' : Nat} {A : Option Addr} {fs : List Fr} (h : FrsIn w B A fs) (hB : B ≤ B') : FrsIn w B' A fs := fun j f hj => by
  obtain ⟨b, e, hb, hc, hl, hn⟩ := h j f hj
  exact ⟨b, e, by omega, hc, hl, hn.mono hB⟩

/-- a row of frames, a row of numbers; the payloads in neither -/
structure FL (tf ti : TypeId) (base : Nat) (W : World) (v u : Value) (fs : List Fr) (es : List Int) : Prop where
  out : W.ownsRow base tf 6 v fs.length (flatF fs)
  err : W.ownsRow base ti 1 u es.length (es.map (Value.int .i64))
  pay : ∀ f ∈ fs, f.zs.length ≤ f.cp ∧ NumsS .u8 W (fun b => b < W.heap.size ∧ v.ownBlock ≠ some b ∧ u.ownBlock ≠ some b) f.a f.zs
section
variable {tf ti : TypeId} {base : Nat} {W W3 W4 W6 : World} {v v' u u' : Value} {fs : List Fr} {es : List Int}
theorem FL.start (tf ti : TypeId) (base : Nat) (W : World) : FL tf ti base W (.slice none 0 0) (.slice none 0 0) [] [] := ⟨World.ownsRow_nil _ _ _ _, World.ownsRow_nil _ _ _ _, fun f hf => by cases hf⟩
theorem FL.below {W' : World} (h : FL tf ti base W v u fs es) (hb : Below W.heap.size W W') : FL tf ti base W' v u fs es :=
  ⟨own_below6 h.out hb, own_below6 h.err hb, fun f hf => ⟨(h.pay f hf).1, ((h.pay f hf).2.keeps (KeepS.of_below hb fun _ hk => hk.1)).more fun _ hk => ⟨Nat.lt_of_lt_of_le hk.1 hb.size, hk.2⟩⟩⟩
theorem FL.err4 (h : FL tf ti base W v u fs es) (hne : tf ≠ ti) (hg : W.grownBy W4 v.ownBlock) : W4.ownsRow base ti 1 u es.length (es.map (Value.int .i64)) := h.err.kept hg (own_apart h.err h.out (Ne.symm hne))
/-- a frame and a number more -/
theorem FL.push {f : Fr} {e : Int} {o : Obj} (h : FL tf ti base W v u fs es) (hne : tf ≠ ti) (hb : Below W.heap.size W W3) (hf : f.zs.length ≤ f.cp) (hn : NumsS .u8 W3 (fun b => W.heap.size ≤ b ∧ b < W3.heap.size) f.a f.zs)
    (hown : W4.ownsRow base tf 6 v' (fs.length + 1) (flatF fs ++ f.cs.toList)) (hg : W3.grownBy W4 v.ownBlock) (hat : v'.ownBlock = v.ownBlock ∨ v'.ownBlock = some W3.heap.size)
    (hown2 : W6.ownsRow base ti 1 u' (es.length + 1) (es.map (Value.int .i64) ++ [.int .i64 e])) (hg2 : (W4.alloc o).grownBy W6 u.ownBlock) (hat2 : u'.ownBlock = u.ownBlock ∨ u'.ownBlock = some (W4.alloc o).heap.size) :
    FL tf ti base W6 v' u' (fs ++ [f]) (es ++ [e]) := by
  have hs3 := hb.size
  have hs4 := hg.size
  have hs6 := hg2.size
  rw [World.size_alloc] at hs6 hat2
  have he4 := (h.below hb).err4 hne hg
  -- what lies below W3's end, in neither row
  have key : ∀ a zs, NumsS .u8 W3 (fun b => b < W3.heap.size ∧ v.ownBlock ≠ some b ∧ u.ownBlock ≠ some b) a zs → NumsS .u8 W6 (fun b => b < W6.heap.size ∧ v'.ownBlock ≠ some b ∧ u'.ownBlock ≠ some b) a zs := fun a zs hz => by
    have h4 : KeepS (fun b => b < W3.heap.size ∧ v.ownBlock ≠ some b ∧ u.ownBlock ≠ some b) W3 W6 :=
      ⟨by omega, fun k hk => (hg2.block k (by rw [World.size_alloc]; omega) (fun e => hk.2.2 e.symm)).trans ((Below.heap_alloc W4 o k (by omega)).trans (hg.block k hk.1 (fun e => hk.2.1 e.symm)))⟩
    refine (hz.keeps h4).more fun k hk => ⟨by omega, fun e3 => ?_, fun e3 => ?_⟩
    · rcases hat with h5 | h5
      · exact hk.2.1 (h5.symm.trans e3)
      · rw [h5] at e3; injection e3 with e3; omega
    · rcases hat2 with h5 | h5
      · exact hk.2.2 (h5.symm.trans e3)
      · rw [h5] at e3; injection e3 with e3; omega
  refine ⟨?_, ?_, fun g hg' => ?_⟩
  · rw [flatF_push, List.length_append, List.length_singleton]
    refine (hown.alloc o).kept hg2 ?_
    rcases own_apart hown he4 hne with h5 | h5
    · exact .inl h5
    · exact .inr h5
  · rw [List.length_append, List.length_singleton, List.map_append]
    exact hown2
  · rcases List.mem_append.1 hg' with hg' | hg'
    · have h5 := (h.below hb).pay g hg'
      exact ⟨h5.1, key _ _ h5.2⟩
    · obtain rfl : g = f := by simpa using hg'
      refine ⟨hf, key _ _ (hn.more fun k hk => ⟨hk.2, fun e => ?_, fun e => ?_⟩)⟩
      · have := (h.out.lt k e).2; omega
      · have := (h.err.lt k e).2; omega
theorem FL.lies (h : FL tf ti base W v u fs es) : ∃ A c, v = .slice A fs.length c ∧ fs.length ≤ c ∧ FrsIn W W.heap.size A fs := by
  rcases h.out.2 with ⟨rfl, h0⟩ | ⟨g, cap, cur, rfl, hbg, hh, hle, _⟩
  · rw [List.eq_nil_of_length_eq_zero h0]
    exact ⟨none, 0, rfl, Nat.le_refl _, fun i f hi => by simp at hi⟩
  · refine ⟨_, cap, rfl, hle, fun j f hj => ⟨g, rfl, (Array.getElem?_eq_some_iff.1 hh).1, fun q u hq => ?_, (h.pay f (List.mem_of_getElem? hj)).1, (h.pay f (List.mem_of_getElem? hj)).2.nums fun _ hk => hk.1⟩⟩
    have h1 := h.out.cells (g := g) rfl (j * 6 + q) u (flatF_at hj hq)
    rw [Addr.add_lit, Nat.zero_add] at h1
    exact h1
end
end Go.Proofs.Ytbohdmconeebeaa

namespace Go.Proofs.Ytbohdmconeebeaa
open Go.RowKit Go.Shelf
set_option maxRecDepth 100000
attribute [local go_sem] Oper.semAt_some

theorem fInfo : (Try.prog.info? 35).map (fun i => (i.zero, i.size, i.bytes)) = some (some (.agg #[.int .i64 0, .int .i64 0, .int .u32 0, .int .i64 0, .int .i64 0, .slice none 0 0]), 6, 64) := by kernel_rfl
def frD (f : Fr) : Hd × List Int := ((f.v, f.k, f.s, f.i, f.c), f.zs)
theorem segs_bytes {zs b : List Int} (hz : Bytes zs) (h : b ∈ Fc.segs zs) : Bytes b := by
  unfold Fc.segs at h
  obtain ⟨x, hx, rfl⟩ := List.mem_map.1 h
  exact scan_bytes hz hx
theorem cells_new {W : World} {cs : List Value} (t : TypeId) (j : Nat) (u : Value) (h : cs[j]? = some u) : (W.alloc (.cells cs.toArray t)).cell? ((⟨W.heap.size, 0, none⟩ : Addr).add j) = some u := by
  rw [Addr.add_lit, Nat.zero_add, World.cell?_alloc_at _ _ _ _ rfl]
  simpa using h
/-- what the document's Frames leaves -/
def RFr (w : World) (zs : List Int) (e : Ending) (w' : World) : Prop :=
  ∃ A1 c1 A2 c2 fs, e = .returned (.tuple #[.slice A1 (Fc.segs zs).length c1, .slice A2 (Fc.segs zs).length c2]) ∧ (Fc.segs zs).length ≤ c1 ∧ (Fc.segs zs).length ≤ c2 ∧ fs.map frD = (Fc.segs zs).map (fun s => (unS s).1) ∧
    FrsIn w' w'.heap.size A1 fs ∧ Nums .i64 w' w'.heap.size A2 ((Fc.segs zs).map fun s => (unS s).2) ∧ Below w.heap.size w w'

set_option maxHeartbeats 8000000 in
theorem rframes_any (a : Option Addr) (n c : Nat) (zs : List Int) (w : World) (hn : zs.length = n) (hl : n ≤ 10000) (hz : Bytes zs) (h1 : Nums .u8 w w.heap.size a zs) :
    Calls Try.prog 15 #[.slice a n c] w (RFr w zs) := by
  obtain ⟨f0, hf, hf0, hf1, hf2⟩ := info_parts fInfo
  obtain ⟨m0, hm, hm0, hm1, hm2⟩ := info_parts intInfo
  have K := rsplit_any a n c zs w hn (by omega) h1
  have HZ := Lib.hid hz
  have HL := Lib.hid hn
  clear hz hn h1
  go_enter Try.func15, Try.ntmps15
  go_wp2_with fail
  refine K.mono ?_
  rintro e w1 ⟨A1, c1, A2, c2, A3, c3, rfl, hc1, _, _, hLA, _, _, hb1⟩
  clear K
  have HMEM := Lib.hid (show ∀ b ∈ Fc.segs zs, Bytes b ∧ b.length ≤ 10000 from fun b hb => ⟨segs_bytes HZ.out hb, by have := (Fc.segs_mem hb).2.2; have := HL.out; omega⟩)
  have hNl := Fc.segs_len zs
  rw [HL.out] at hNl
  obtain ⟨S, hS⟩ : ∃ S, Fc.segs zs = S := ⟨_, rfl⟩
  rw [hS] at hc1 hLA HMEM hNl ⊢
  obtain ⟨N, hN⟩ : ∃ N, S.length = N := ⟨_, rfl⟩
  rw [hN] at hc1 hNl ⊢
  have HS := Lib.hid hS
  have HN := Lib.hid hN
  have HLA := Lib.hid hLA
  have HB1 := Lib.hid hb1
  clear hS hN hLA hb1
  go_wp2
  go_loopw [7, 8, 9, 10, 11] (fun v u iv _ _ wr => ∃ (k : Nat) (fs : List Fr) (es : List Int), k ≤ N ∧ iv = .int .i64 k ∧ Hid (fs.length = k) ∧ Hid (fs.map frD = (S.take k).map fun s => (unS s).1) ∧ Hid (es = (S.take k).map fun s => (unS s).2) ∧
      Hid (FL 35 3 w1.heap.size wr v u fs es) ∧ Hid (Below w1.heap.size w1 wr)) (fun _ _ iv _ _ _ => N - (intOf iv).toNat)
  case atStart => exact ⟨0, [], [], by omega, rfl, rfl, rfl, rfl, FL.start _ _ _ _, Below.refl _ _⟩
  case round =>
    obtain ⟨k, fs, es, hk, rfl, HFk, HFs, HEs, HFL, HBe⟩ := hrel
    by_cases hlt : k < N
    · obtain ⟨b, hb⟩ : ∃ b, S[k]? = some b := ⟨_, List.getElem?_eq_getElem (by rw [HN.out]; exact hlt)⟩
      obtain ⟨hbb, hbl⟩ := HMEM.out b (List.mem_of_getElem? hb)
      obtain ⟨g, Ai, ci, rfl, hg, hcell0, hci, hnb⟩ := HLA.out k b hb
      have hcell : wr.cell? ⟨g, k, none⟩ = some (.slice Ai b.length ci) := (HBe.out.cell (p := ⟨g, k, none⟩) hg).trans hcell0
      have K := rfunpack_any Ai b.length ci b wr rfl (by omega) hbb ((hnb.below HBe.out).mono HBe.out.size)
      obtain ⟨⟨⟨⟨fv, fk, fq, fi, fd⟩, L⟩, er⟩, hP⟩ : ∃ y, unS b = y := ⟨_, rfl⟩
      rw [hP] at K
      have HP := Lib.hid hP
      have HBK := Lib.hid hb
      have hlt' : (k : Int) < (N : Int) := by omega
      have hNc : (N : Int) ≤ (c1 : Int) := by omega
      clear hb hbb hcell0 hnb hP
      go_wp2_with fail
      refine K.mono ?_
      rintro e W1 ⟨AL, cL, rfl, hcL, hnL, hbW1⟩
      clear K
      simp only [frP] at hcL hnL ⊢
      unfold frV frC
      obtain ⟨W2, hW2⟩ : ∃ W2, W1.alloc (.cells #[.int .i64 fv, .int .i64 fk, .int .u32 fq, .int .i64 fi, .int .i64 fd, .slice AL L.length cL] 35) = W2 := ⟨_, rfl⟩
      have hb12 : Below W1.heap.size W1 W2 := by rw [← hW2]; exact (Below.refl _ W1).alloc (Nat.le_refl _) _
      have hbr2 := hbW1.trans (hb12.mono hbW1.size)
      have hbr3 : Below wr.heap.size wr (W2.alloc (.cells #[.int .i64 fv, .int .i64 fk, .int .u32 fq, .int .i64 fi, .int .i64 fd, .slice AL L.length cL] 35)) := hbr2.alloc hbr2.size _
      have hn3 : NumsS .u8 (W2.alloc (.cells #[.int .i64 fv, .int .i64 fk, .int .u32 fq, .int .i64 fi, .int .i64 fd, .slice AL L.length cL] 35)) (fun b => wr.heap.size ≤ b ∧ b < (W2.alloc (.cells #[.int .i64 fv, .int .i64 fk, .int .u32 fq, .int .i64 fi, .int .i64 fd, .slice AL L.length cL] 35)).heap.size) AL L :=
        (hnL.keeps (KeepS.of_below ((hb12.alloc hb12.size _) : Below W1.heap.size W1 _) fun j hj => hj.2)).more fun j hj => ⟨hj.1, by rw [World.size_alloc]; have := hb12.size; omega⟩
      have HO1 := Lib.hid (own_below6 HFL.out.out hbr3)
      have HX1 : Hid (fs.length + 1 ≤ maxLen) := by show _ ≤ _; unfold maxLen; rw [HFk.out]; omega
      have HX2 : Hid ((fs.length + 1) * 64 ≤ 140737488355328) := by show _ ≤ _; rw [HFk.out]; omega
      have HX3 : Hid (w1.heap.size ≤ (W2.alloc (.cells #[.int .i64 fv, .int .i64 fk, .int .u32 fq, .int .i64 fi, .int .i64 fd, .slice AL L.length cL] 35)).heap.size) := Nat.le_trans HBe.out.size hbr3.size
      have HNW : Hid (∀ (j : Nat) (u : Value), [Value.int .i64 fv, .int .i64 fk, .int .u32 fq, .int .i64 fi, .int .i64 fd, .slice AL L.length cL][j]? = some u → (W2.alloc (.cells #[.int .i64 fv, .int .i64 fk, .int .u32 fq, .int .i64 fi, .int .i64 fd, .slice AL L.length cL] 35)).cell? ((⟨W2.heap.size, 0, none⟩ : Addr).add j) = some u) := fun j u h => cells_new 35 j u h
      have HBR3 := Lib.hid hbr3
      have HN3 := Lib.hid hn3
      clear hb12 hbr2 hbr3 hn3 hnL hbW1
      subst hW2
      rw [World.size_alloc] at HNW
      obtain ⟨vv, hvv⟩ : ∃ vv : Value, u7 = vv := ⟨_, rfl⟩
      subst hvv
      go_wp2_with (at_builtin; refine wpList_append_own_at _ rfl (.tmp 32) (.tmp 34) 45 rfl w1.heap.size 35 f0 _ 6 64 Try.underlying45 hf hf0 hf1 hf2 rfl (by decide) _ _ _ rfl HO1.out ⟨W1.heap.size + 1, 0, none⟩ 1 1 [Value.int .i64 fv, .int .i64 fk, .int .u32 fq, .int .i64 fi, .int .i64 fd, .slice AL L.length cL] rfl rfl HNW.out (by simp [Value.oneCell']) HX1.out HX2.out HX3.out ?_)
      intro v' W4 hown hg4 _ hat4
      have hat4' : v'.ownBlock = u7.ownBlock ∨ v'.ownBlock = some ((W1.alloc (.cells #[.int .i64 fv, .int .i64 fk, .int .u32 fq, .int .i64 fi, .int .i64 fd, .slice AL L.length cL] 35)).alloc (.cells #[.int .i64 fv, .int .i64 fk, .int .u32 fq, .int .i64 fi, .int .i64 fd, .slice AL L.length cL] 35)).heap.size := hat4.imp id fun h => by rw [h]; simp
      have he4 := (HFL.out.below HBR3.out).err4 (by decide) hg4
      have HFP : Hid (∀ (W6 : World) (u' : Value), W6.ownsRow w1.heap.size 3 1 u' (es.length + 1) (es.map (Value.int .i64) ++ [.int .i64 er]) → (W4.alloc (.cells #[.int .i64 er] 3)).grownBy W6 u8.ownBlock → (u'.ownBlock = u8.ownBlock ∨ u'.ownBlock = some (W4.alloc (.cells #[.int .i64 er] 3)).heap.size) →
          FL 35 3 w1.heap.size W6 v' u' (fs ++ [⟨fv, fk, fq, fi, fd, AL, cL, L⟩]) (es ++ [er])) := fun W6 u' h1 h2 h3 =>
        HFL.out.push (f := ⟨fv, fk, fq, fi, fd, AL, cL, L⟩) (by decide) HBR3.out hcL HN3.out hown hg4 hat4' h1 h2 h3
      have hb4 := (HBe.out.trans (HBR3.out.mono HBe.out.size)).grown hg4 (by have := HBR3.out.size; have := HBe.out.size; omega) (fun g hk => (HFL.out.out.lt g hk).1)
      have HB4 := Lib.hid hb4
      have HE4 := Lib.hid he4
      have HELT := Lib.hid (fun g hk => (he4.lt g hk).1)
      have hel : es.length = k := by rw [HEs.out, List.length_map, List.length_take, HN.out]; omega
      have HY1 : Hid (es.length + 1 ≤ maxLen) := by show _ ≤ _; unfold maxLen; omega
      have HY2 : Hid ((es.length + 1) * 8 ≤ 140737488355328) := by show _ ≤ _; omega
      have HY3 : Hid (w1.heap.size ≤ (W4.alloc (.cells #[.int .i64 er] 3)).heap.size) := by show _ ≤ _; rw [World.size_alloc]; have := hb4.size; omega
      have HEN : Hid ((es ++ [er]) = (S.take (k + 1)).map fun s => (unS s).2) := by show _ = _; rw [List.take_add_one, HBK.out, HEs.out]; simp [HP.out]
      have HFN : Hid ((fs ++ [(⟨fv, fk, fq, fi, fd, AL, cL, L⟩ : Fr)]).map frD = (S.take (k + 1)).map fun s => (unS s).1) := by show _ = _; rw [List.take_add_one, HBK.out, List.map_append, HFs.out]; simp [HP.out, frD]
      have HFK2 : Hid ((fs ++ [(⟨fv, fk, fq, fi, fd, AL, cL, L⟩ : Fr)]).length = k + 1) := by show _ = _; rw [List.length_append, HFk.out]; rfl
      clear hown hg4 hat4 hat4' he4 hb4 hel HO1 HX1 HX2 HX3 HNW HN3
      go_wp2_with (at_builtin; refine wpList_append_own_at _ rfl (.tmp 36) (.tmp 38) 46 rfl w1.heap.size 3 m0 (.int .i64 0) 1 8 Try.underlying46 hm hm0 hm1 hm2 rfl (by decide) _ _ _ rfl (HE4.out.alloc _) ⟨W4.heap.size, 0, none⟩ 1 1 [_] rfl rfl (cell_one_new _ _ _) (by simp [Value.oneCell']) HY1.out HY2.out HY3.out ?_)
      intro u' W6 hown hg6 _ hat6
      have hat6' : u'.ownBlock = u8.ownBlock ∨ u'.ownBlock = some (W4.alloc (.cells #[.int .i64 er] 3)).heap.size := hat6.imp id fun h => by rw [h]; simp
      have HF6 := Lib.hid (HFP.out W6 u' hown hg6 hat6')
      have HB6 := Lib.hid ((HB4.out.alloc HB4.out.size (.cells #[.int .i64 er] 3)).grown hg6 (by rw [World.size_alloc]; have := HB4.out.size; omega) HELT.out)
      clear hown hg6 hat6 hat6' HFP HE4 HELT HY1 HY2 HY3 HFL HBe
      go_wp2
      go_roundw
      case rel => exact ⟨k + 1, _, _, by omega, by go_num, HFK2, HFN, HEN, HF6, HB6⟩
      case measure => simp [intOf]; omega
    · have hkn : k = N := by omega
      have hSt : S.take k = S := List.take_of_length_le (by rw [HN.out]; omega)
      have hF1 := HFs.out
      have hE1 := HEs.out
      rw [hSt] at hF1 hE1
      obtain ⟨B1, d1, rfl, hd1, hIn⟩ := HFL.out.lies
      obtain ⟨B2, d2, rfl, hd2⟩ := own_slice_le HFL.out.err
      have hN2 : Nums .i64 wr wr.heap.size B2 es := Nums.of_own HFL.out.err
      have hfl : fs.length = N := by rw [HFk.out]; exact hkn
      have hel : es.length = N := by rw [hE1, List.length_map, HN.out]
      rw [hfl] at hd1
      rw [hel] at hd2
      have HR := Lib.hid (show RFr w zs (.returned (.tuple #[.slice B1 N d1, .slice B2 N d2])) wr from
        ⟨B1, d1, B2, d2, fs, by rw [HS.out, HN.out], by rw [HS.out, HN.out]; exact hd1, by rw [HS.out, HN.out]; exact hd2, by rw [HS.out]; exact hF1, hIn, by rw [HS.out, ← hE1]; exact hN2, HB1.out.trans (HBe.out.mono HB1.out.size)⟩)
      rw [hfl, hel]
      clear hSt hF1 hE1 hd1 hd2 hIn hN2 hfl hel HFL HFs HEs
      go_wp2
      go_ret2
      exact HR.out
end Go.Proofs.Ytbohdmconeebeaa

namespace Go.Proofs.Ytbohdmconeebeaa
open Go.RowKit Go.Shelf
set_option maxRecDepth 100000
attribute [local go_sem] Oper.semAt_some

theorem unB_ok {b L : List Int} {v k s i d : Int} (hb : Bytes b) (hl : b.length ≤ 254) (h : unB b = (((v, k, s, i, d), L), 0)) : fchk v k i d L.length = 0 ∧ 0 ≤ s ∧ s ≤ 4294967295 ∧ fblk v k s i d L = b ∧ Bytes L := by
  unfold unB at h
  by_cases h12 : b.length ≤ 12
  · rw [if_pos h12] at h; simp [noFr] at h
  · rw [if_neg h12] at h
    by_cases hs : Cr.le4 (Cr.sum (b.take (b.length - 4))) = b.drop (b.length - 4)
    · rw [if_pos hs] at h
      by_cases hp : (prs (b.take 8)).2 = 0
      · rw [if_pos hp] at h
        injection h with h _
        injection h with h hL
        have hpp : prs (b.take 8) = ((v, k, s, i, d), 0) := by rw [← h, ← hp]
        obtain ⟨hk, s0, s1, hB, _⟩ := prs_ok (hb.take 8) hpp
        have hLl : L.length = b.length - 12 := by rw [← hL, List.length_drop, List.length_take]; omega
        refine ⟨?_, s0, s1, ?_, by rw [← hL]; exact (hb.take _).drop _⟩
        · unfold fchk
          rw [if_neg (by simpa using hk), if_neg (by omega), if_neg (by omega)]
        · have h8 : hdB v k s i d ++ L = b.take (b.length - 4) := by
            rw [hB, ← hL]
            have : b.take 8 = (b.take (b.length - 4)).take 8 := by rw [List.take_take]; congr 1; omega
            rw [this]
            exact List.take_append_drop 8 _
          unfold fblk sld
          rw [h8, hs]
          exact List.take_append_drop _ _
      · rw [if_neg hp] at h
        injection h with _ h
        exact absurd h hp
    · rw [if_neg hs] at h; simp [noFr] at h
theorem unS_ok {zs L : List Int} {v k s i d : Int} (hz : Bytes zs) (h : unS zs = (((v, k, s, i, d), L), 0)) : fchk v k i d L.length = 0 ∧ 0 ≤ s ∧ s ≤ 4294967295 ∧ Cb.enc (fblk v k s i d L) = zs ∧ Bytes L := by
  unfold unS at h
  by_cases h255 : 255 < zs.length
  · rw [if_pos h255] at h; simp [noFr] at h
  · rw [if_neg h255] at h
    cases hd : Cb.dec false zs with
    | none => rw [hd] at h; simp [noFr] at h
    | some b =>
      rw [hd] at h
      have hlen := dec_shorter hz hd
      obtain ⟨h1, h2, h3, h4, h5⟩ := unB_ok (decoded_bytes hz hd) (by omega) h
      exact ⟨h1, h2, h3, by rw [h4]; exact (Cb.dec_iff hz.lt).1 hd, h5⟩
theorem unB_len {b : List Int} (h : b.length ≤ 100000) : (unB b).1.2.length ≤ 100000 := by
  unfold unB
  split
  · simp [noFr]
  · split
    · split
      · simp only [List.length_drop, List.length_take]; omega
      · simp [noFr]
    · simp [noFr]
theorem unS_len {zs : List Int} (hz : Bytes zs) (h : zs.length ≤ 100000) : (unS zs).1.2.length ≤ 100000 := by
  unfold unS
  split
  · simp [noFr]
  · cases hd : Cb.dec false zs with
    | none => simp [noFr]
    | some b => exact unB_len (by have := dec_shorter hz hd; omega)

theorem of_frame (v k s i c : Int) (A : Option Addr) (n cp : Nat) (w : World) : Calls Try.prog 11 #[frV v k s i c (.slice A n cp)] w fun e w' => e = .returned (frV v k s i c (.slice A n cp)) ∧ Below w.heap.size w w' := by
  have hb : Below w.heap.size w ((w.alloc (.cells (frC v k s i c (.slice A n cp)) 29)).alloc (.cells (frC v k s i c (.slice A n cp)) 35)) := ((Below.refl _ w).alloc (Nat.le_refl _) _).alloc (by simp) _
  have HB := Lib.hid hb
  unfold frV
  have HF : Hid (frC v k s i c (.slice A n cp) = #[.int .i64 v, .int .i64 k, .int .u32 s, .int .i64 i, .int .i64 c, .slice A n cp]) := rfl
  rw [HF.out] at HB ⊢
  clear hb
  go_enter Try.func11, Try.ntmps11
  go_wp2
  refine bodyPost_ret (v := .agg #[.int .i64 v, .int .i64 k, .int .u32 s, .int .i64 i, .int .i64 c, .slice A n cp]) (by simp [results, Try.results11, go_sem]) rfl ?_
  exact ⟨rfl, HB.out⟩
end Go.Proofs.Ytbohdmconeebeaa

namespace Go.Proofs.Ytbohdmconeebeaa
open Go.RowKit

section
variable {F : Fence} {n : Nat} {P : Program} {g : Operand} {ps : Array Tmp} {assign body : Code} {Q : Exit → Act → World → Prop} {a : Act} {w : World}
theorem range_stopb {α : Type} (hro : F.round = none) (h1 : 1 ≤ n) {gf : Nat} {lb : Array Value} (hg : a.eval g = .func (.func gf) #[] lb) (hFg : F.fn gf) (eg : ∀ args w, (callFunc gf args).run P w = .ok (.enter gf args) w)
    (enc : α → Array Value) (hps : ∀ x, (enc x).size = ps.size) (Rd : Nat → α → World → Prop) (Fx : Nat → α → Nat → World → Prop) (Dn : Nat → World → Prop) (Sx : Code → World → Prop) (Kp : World → World → Prop) (N : Nat)
    (hFp : ∀ j x q W l o o', Fx j x q W → w.heap.size ≤ l → W.heap[l]? = some o → o.isCells = false → Fx j x q (W.putObj l o'))
    (hDp : ∀ j W l o o', Dn j W → w.heap.size ≤ l → W.heap[l]? = some o → o.isCells = false → Dn j (W.putObj l o'))
    (hSp : ∀ c W l o o', Sx c W → w.heap.size ≤ l → W.heap[l]? = some o → o.isCells = false → Sx c (W.putObj l o'))
    (hKt : ∀ A B C, Kp A B → Kp B C → Kp A C)
    (hKp : ∀ W l o o', w.heap.size ≤ l → W.heap[l]? = some o → o.isCells = false → Kp W (W.putObj l o'))
    (hD0 : ∀ o, Dn 0 ((w.alloc (.deferred (some []))).alloc o))
    (hround : ∀ (l j : Nat) (x : α) (W : World) (K : Act → World → Prop), Rd j x W → j < N →
      (∀ b q W', Fx j x q W' → KeepsFrom w.heap.size W W' → Kp W W' → (∀ l V, w.heap.size ≤ l → Fx j x q V → body.wpIn (F.inRound l) (n - 1 - 1) P (stopPost w.heap.size Kp (Dn (j + 1)) Sx V) b V) → K b W') →
      assign.wpIn (F.inRound l) (n - 1 - 1) P (Exit.then K (fun _ _ _ => False)) { tmps := (ps.zip (enc x)).foldl (fun t (p, v) => t.setIfInBounds p v) a.tmps, defers := [] } W)
    (hiter : ∀ (Bk : World → Prop) (X : World → Prop) (l : Nat) (W : World), (∀ A B, Bk A → A.heap.size ≤ B.heap.size → (∀ k, w.heap.size ≤ k → k < w.heap.size + 2 → B.heap[k]? = A.heap[k]?) → Bk B) → (∀ A, Bk A → w.heap.size + 2 ≤ A.heap.size) →
      (∀ A l' o o', X A → w.heap.size + 2 ≤ l' → A.heap[l']? = some o → o.isCells = false → X (A.putObj l' o')) → l < w.heap.size + 2 → Dn 0 W → Bk W →
      (∀ j x W1, Rd j x W1 → Bk W1 → j < N → YieldAt F (n - 1 - 1) P l (enc x) W1 (YPost w.heap.size l Kp (fun W2 => Dn (j + 1) W2 ∧ Bk W2) X W1)) →
      CallsIn F (n - 1) P gf (#[.func (.yield l) #[] #[]] ++ lb) W fun e W' => (∃ v, e = .returned v) ∧ ((Dn N W' ∧ Bk W') ∨ X W'))
    (hdone : ∀ (D : Nat) (W : World), w.heap.size ≤ D → Dn N W → W.heap[D]? = some (.deferred (some [])) → Q .normal { a with defers := { target := .collected D, args := #[] } :: a.defers } W)
    (hstop : ∀ (D : Nat) (c : Code) (W : World), w.heap.size ≤ D → Sx c W → W.heap[D]? = some (.deferred (some [])) → c.wpIn F n P Q { a with defers := { target := .collected D, args := #[] } :: a.defers } W) :
    (Code.rangeFunc g ps assign body).wpIn F n P Q a w :=
  range_stopa hro h1 hg hFg eg enc hps Rd
    (fun j x b W => ∃ q, Fx j x q W ∧ ∀ l V, w.heap.size ≤ l → Fx j x q V → body.wpIn (F.inRound l) (n - 1 - 1) P (stopPost w.heap.size Kp (Dn (j + 1)) Sx V) b V) Dn Sx Kp N
    (fun j x _ W l o o' h hl ho hc => by
      obtain ⟨q, h1, h2⟩ := h
      exact ⟨q, hFp j x q W l o o' h1 hl ho hc, h2⟩)
    hDp hSp hKt hKp hD0
    (fun l j x W K hr hj hK => hround l j x W K hr hj fun b q W' h1 h2 h3 h4 => hK b W' ⟨q, h1, h4⟩ h2 h3)
    (fun l _ _ _ W hl h _ => by
      obtain ⟨q, h1, h2⟩ := h
      exact h2 l W hl h1)
    hiter hdone hstop
end
end Go.Proofs.Ytbohdmconeebeaa

namespace Go.Proofs.Ytbohdmconeebeaa
open Go.RowKit
section
variable {P : Program} {ops : Array Oper} {Q : Exit → Act → World → Prop} {md : Region.Mode}
/-- Orders.lean's, with no way out by what an operation asks for -/
def wpOpS (P : Program) (ops : Array Oper) (Q : Exit → Act → World → Prop) (i : Nat) (K : Act → World → Prop) (a : Act) (w : World) : Prop :=
  match ops[i]? with
  | none => K a w
  | some o => if Region.wanted o (yielded ops a.tmps) then o.wp P a w K Q else K (a.put o.dst undef) w
def wpAnyS (P : Program) (md : Region.Mode) (ops : Array Oper) (Q : Exit → Act → World → Prop) : Nat → Array Bool → Act → World → Prop
  | 0, listed, a, w => Region.ready md ops listed = [] ∧ Q .normal a w
  | fuel + 1, listed, a, w =>
    (Region.ready md ops listed = [] → Q .normal a w) ∧
    ∀ i ∈ Region.ready md ops listed, wpOpS P ops Q i (wpAnyS P md ops Q fuel (listed.setIfInBounds i true)) a w
theorem oper_in {lr n : Nat} {o : Oper} {a : Act} {w : World} {K K' : Act → World → Prop} (hd : ∀ c, o.op ≠ .defer c) (hK : ∀ a w, K a w → K' a w) (h : o.wp P a w K Q) : o.wpIn (Fence.wide.inRound lr) n P a w K' Q := by
  refine ⟨fun _ _ => trivial, ?_⟩
  rw [Fence.inRound_round, Oper.semAt_some lr a.eval o hd]
  unfold Oper.wp at h
  generalize (execOp a.eval o).run P w = r at h
  cases r with
  | ok x w' =>
    cases x <;> simp only [Oper.upon, Oper.uponIn] at h ⊢
    case value v => exact hK _ _ h
    case skip => exact hK _ _ h
    case defer d => exact hK _ _ h
    case enter f args =>
      refine ⟨fun hh => by simp [Fence.wide] at hh, CallsIn.inRound lr (callsIn_wide.2 h |>.mono fun e w'' he => ?_)⟩
      cases e <;> first | exact hK _ _ he | exact he
    case row row args => exact ⟨fun hh => by simp [Fence.wide] at hh, fun c cs _ => let ⟨v, w3, r, s⟩ := h c cs; ⟨v, w3, hK _ _ r, stepsIn_wide.2 s⟩⟩
  | halt x w' => cases x <;> simp only [Oper.upon, Oper.uponIn] at h ⊢ <;> exact h
theorem wpAnyIn_of_S {lr n : Nat} (hd : ∀ (j : Nat) o, ops[j]? = some o → ∀ c, o.op ≠ .defer c) : ∀ (fuel : Nat) (listed : Array Bool) (a : Act) (w : World), wpAnyS P md ops Q fuel listed a w → wpAnyIn (Fence.wide.inRound lr) n P md ops Q fuel listed a w
  | 0, _, _, _, h => h
  | fuel + 1, listed, a, w, h => by
    refine ⟨h.1, fun i hi => ?_⟩
    have h1 := h.2 i hi
    unfold wpOpS at h1
    unfold wpOpIn
    cases ho : ops[i]? with
    | none => rw [ho] at h1; exact wpAnyIn_of_S hd fuel _ _ _ h1
    | some o =>
      rw [ho] at h1
      simp only at h1 ⊢
      split
      · rename_i hw
        rw [if_pos hw] at h1
        exact oper_in (hd i o ho) (fun a w hk => wpAnyIn_of_S hd fuel _ a w hk) h1
      · rename_i hw
        rw [if_neg hw] at h1
        exact ⟨fun _ _ => trivial, wpAnyIn_of_S hd fuel _ _ _ h1⟩
end
section
variable {P : Program} {l : List Oper} {vs : List Value} {fs : List Tmp} {FS : Tmp → Value → World → Prop} {I : World → Prop} {a0 : Act}
/-- one operation of such a run -/
theorem op_of_S {N : Nat} {Q' : Exit → Act → World → Prop} {K : Act → World → Prop} (hR : RG .any l.toArray N) (hN : N ≤ a0.tmps.size) (hlen : vs.length = l.length) {listed : Array Bool} {b : Act} {w : World} {i : Nat} {o : Oper} {v : Value}
    (h : Inv l vs fs FS I a0 listed b w) (ho2 : l[i]? = some o) (hun : listed.getD i true = false) (hp : ∀ e ∈ o.after, Region.binds .any e = true → listed.getD e.on true = true) (hv : vs[i]? = some v) (hob : Ob P l.toArray I fs FS o v (lex l vs a0 i))
    (hK : ∀ u w', Below w.heap.size w w' → (∀ d, o.dst = some d → (d ∈ fs → FS d u w') ∧ (d ∉ fs → vs[i]? = some u)) → K (b.put o.dst u) w') : wpOpS P l.toArray Q' i K b w := by
  have ho : l.toArray[i]? = some o := by simpa using ho2
  have hsel : ∀ cs c, o.op ≠ .select cs c := fun cs c => hR.sel i o cs c ho
  have ag : ∀ d ∈ o.looksAt l.toArray, d ∉ fs → (lex l vs a0 i).tmps[d]? = b.tmps[d]? := fun d hd hf => h.agree hR hN hlen ho2 hun hp hd hf
  unfold wpOpS
  simp only [ho]
  rcases hob with ⟨h1, h2, hcalm⟩ | ⟨s, hs, hds, h1, hwt, hsrc⟩ | ⟨s, hs, ⟨j, hj, hje⟩, h1, h2, huse⟩ | ⟨s, R, hs, hds, hRs, h1, hmix⟩
  · have he := exec_agree (ops := l.toArray) hsel fun d hd => ag d hd (h1 d hd)
    have hw := wanted_agree (ops := l.toArray) fun d hd => ag d hd (h1 d hd)
    have kv : ∀ w', Below w.heap.size w w' → K (b.put o.dst v) w' := fun w' hb => hK v w' hb fun d hd => ⟨fun hf => absurd hf (h2 d hd), fun _ => hv⟩
    rcases hcalm with ⟨hwt, hval⟩ | ⟨hwf, rfl⟩
    · rw [hw] at hwt
      rw [if_pos hwt]
      have h3 := hval w h.cls
      rw [he] at h3
      unfold Oper.wp
      generalize (execOp b.eval o).run P w = r at h3
      cases r with
      | ok n w' =>
        cases n <;> simp only [calmUpon] at h3 <;> simp only [Oper.upon]
        case value u => obtain ⟨rfl, rfl⟩ := h3; exact kv _ (Below.refl _ _)
        case skip => obtain ⟨rfl, rfl⟩ := h3; exact kv _ (Below.refl _ _)
        case enter f args =>
          obtain ⟨rfl, hcc⟩ := h3
          exact hcc.mono fun e w'' ⟨he, hb⟩ => by subst he; exact kv _ hb
      | halt x w' => simp only [calmUpon] at h3
    · rw [hw] at hwf
      rw [hwf, if_neg (by simp)]
      exact kv w (Below.refl _ _)
  · have he := exec_agree (ops := l.toArray) hsel fun d hd => ag d hd (h1 d hd)
    have hw := wanted_agree (ops := l.toArray) fun d hd => ag d hd (h1 d hd)
    rw [hw] at hwt
    rw [if_pos hwt]
    have h3 := hsrc w h.cls
    rw [he] at h3
    have kf : ∀ u w', FS s u w' → Below w.heap.size w w' → K (b.put o.dst u) w' := fun u w' hf hb => hK u w' hb fun d hd => by
      obtain rfl : d = s := Option.some.inj (hd.symm.trans hds)
      exact ⟨fun _ => hf, fun hnf => absurd hs hnf⟩
    unfold Oper.wp
    generalize (execOp b.eval o).run P w = r at h3
    cases r with
    | ok n w' =>
      cases n <;> simp only [srcUpon] at h3 <;> simp only [Oper.upon]
      case value u => exact kf u w' h3.1 h3.2
      case enter f args =>
        obtain ⟨rfl, hcc⟩ := h3
        exact hcc.mono fun e w'' ⟨u, he, hf, hb⟩ => by subst he; exact kf u w'' hf hb
    | halt x w' => simp only [srcUpon] at h3
  · obtain ⟨e, hee, heb⟩ := Array.any_eq_true'.1 hje
    simp only [Bool.and_eq_true, beq_iff_eq] at heb
    obtain ⟨hbe, rfl⟩ := heb
    obtain ⟨oj, hoj, hdj⟩ := Option.bind_eq_some_iff.1 hj
    have hoj2 : l[e.on]? = some oj := by simpa using hoj
    obtain ⟨vj, hvj⟩ : ∃ v, vs[e.on]? = some v := ⟨_, List.getElem?_eq_getElem (by rw [hlen]; exact (List.getElem?_eq_some_iff.1 hoj2).1)⟩
    obtain ⟨x, hbx, hfx⟩ := (h.ins e.on oj s vj hoj2 (hp e hee hbe) hdj hvj).1 hs
    have hslt : s < (lex l vs a0 i).tmps.size := by rw [(lex_size l vs a0 i).1]; exact Nat.lt_of_lt_of_le (hR.small _ _ _ hoj hdj) hN
    have ag2 : ∀ d ∈ o.looksAt l.toArray, ((lex l vs a0 i).put (some s) x).tmps[d]? = b.tmps[d]? := fun d hd => by
      by_cases hsd : s = d
      · subst hsd
        rw [put_same x hslt, hbx]
      · rw [put_other x (by simpa using hsd)]
        exact ag d hd fun hf => hsd (h1 d hd hf).symm
    obtain ⟨hwt, h3⟩ := huse x w h.cls hfx
    rw [wanted_agree (ops := l.toArray) ag2] at hwt
    rw [exec_agree (ops := l.toArray) hsel ag2] at h3
    have kv : ∀ w', Below w.heap.size w w' → K (b.put o.dst v) w' := fun w' hb => hK v w' hb fun d hd => ⟨fun hf => absurd hf (h2 d hd), fun _ => hv⟩
    rw [if_pos hwt]
    unfold Oper.wp
    generalize (execOp b.eval o).run P w = r at h3
    cases r with
    | ok n w' =>
      cases n <;> simp only [calmUpon] at h3 <;> simp only [Oper.upon]
      case value u => obtain ⟨rfl, rfl⟩ := h3; exact kv _ (Below.refl _ _)
      case skip => obtain ⟨rfl, rfl⟩ := h3; exact kv _ (Below.refl _ _)
      case enter f args =>
        obtain ⟨rfl, hcc⟩ := h3
        exact hcc.mono fun e w'' ⟨he, hb⟩ => by subst he; exact kv _ hb
    | halt x w' => simp only [calmUpon] at h3

  · have got : ∀ r ∈ R, ∃ x, b.tmps[r]? = some x ∧ FS r x w ∧ r < (lex l vs a0 i).tmps.size := fun r hr => by
      obtain ⟨hrf, j, hj, hje⟩ := hRs r hr
      obtain ⟨e, hee, heb⟩ := Array.any_eq_true'.1 hje
      simp only [Bool.and_eq_true, beq_iff_eq] at heb
      obtain ⟨hbe, rfl⟩ := heb
      obtain ⟨oj, hoj, hdj⟩ := Option.bind_eq_some_iff.1 hj
      have hoj2 : l[e.on]? = some oj := by simpa using hoj
      obtain ⟨vj, hvj⟩ : ∃ v, vs[e.on]? = some v := ⟨_, List.getElem?_eq_getElem (by rw [hlen]; exact (List.getElem?_eq_some_iff.1 hoj2).1)⟩
      obtain ⟨x, hbx, hfx⟩ := (h.ins e.on oj r vj hoj2 (hp e hee hbe) hdj hvj).1 hrf
      exact ⟨x, hbx, hfx, by rw [(lex_size l vs a0 i).1]; exact Nat.lt_of_lt_of_le (hR.small _ _ _ hoj hdj) hN⟩
    have ag2 : ∀ d ∈ o.looksAt l.toArray, (fill R (fun s => b.tmps.getD s undef) (lex l vs a0 i)).tmps[d]? = b.tmps[d]? := fun d hd => by
      by_cases hdR : d ∈ R
      · obtain ⟨x, hbx, _, hlt⟩ := got d hdR
        rw [fill_in R _ _ d hdR hlt, hbx]
        simp [hbx]
      · rw [fill_out R _ _ d hdR]
        exact ag d hd fun hf => hdR (h1 d hd hf)
    obtain ⟨hwt, h3⟩ := hmix (fun s => b.tmps.getD s undef) w h.cls fun r hr => by
      obtain ⟨x, hbx, hfx, _⟩ := got r hr
      simpa [hbx] using hfx
    rw [wanted_agree (ops := l.toArray) ag2] at hwt
    rw [exec_agree (ops := l.toArray) hsel ag2] at h3
    rw [if_pos hwt]
    have kf : ∀ u w', FS s u w' → Below w.heap.size w w' → K (b.put o.dst u) w' := fun u w' hf hb => hK u w' hb fun d hd => by
      obtain rfl : d = s := Option.some.inj (hd.symm.trans hds)
      exact ⟨fun _ => hf, fun hnf => absurd hs hnf⟩
    unfold Oper.wp
    generalize (execOp b.eval o).run P w = r at h3
    cases r with
    | ok n w' =>
      cases n <;> simp only [srcUpon] at h3 <;> simp only [Oper.upon]
      case value u => exact kf u w' h3.1 h3.2
      case enter f args =>
        obtain ⟨rfl, hcc⟩ := h3
        exact hcc.mono fun e w'' ⟨u, he, hf, hb⟩ => by subst he; exact kf u w'' hf hb
    | halt x w' => simp only [srcUpon] at h3

theorem any_of_S {N : Nat} {Q' : Exit → Act → World → Prop} (hR : RG .any l.toArray N) (hN : N ≤ a0.tmps.size) (hlen : vs.length = l.length) (hI : Closed I) (hF : ∀ s x w w', FS s x w → Below w.heap.size w w' → FS s x w')
    (hob : ∀ (k : Nat) o v, l[k]? = some o → vs[k]? = some v → Ob P l.toArray I fs FS o v (lex l vs a0 k))
    (hQ : ∀ (listed : Array Bool) b w, (∀ j, listed.getD j true = true) → Inv l vs fs FS I a0 listed b w → Q' .normal b w) :
    ∀ (fuel : Nat) (listed : Array Bool) (b : Act) (w : World), listed.toList.count false ≤ fuel → Inv l vs fs FS I a0 listed b w → wpAnyS P .any l.toArray Q' fuel listed b w
  | 0, listed, b, w, hc, h => by
    have hall := count_zero (L := listed) (by omega)
    refine ⟨?_, hQ listed b w hall h⟩
    rw [List.eq_nil_iff_forall_not_mem]
    intro i hi
    have := (mem_ready.1 hi).1
    rw [hall i] at this
    cases this
  | fuel + 1, listed, b, w, hc, h => by
    refine ⟨fun h0 => hQ listed b w (ready_all hR h.lsize h0) h, fun i hi => ?_⟩
    obtain ⟨hun, o, ho, hall⟩ := mem_ready.1 hi
    have ho2 : l[i]? = some o := by simpa using ho
    have hp : ∀ e ∈ o.after, Region.binds .any e = true → listed.getD e.on true = true := fun e he hb => by
      have h1 := hall e he hb
      rw [Array.getD_eq_getD_getElem?] at h1 ⊢
      cases hx : listed[e.on]? with
      | none => rfl
      | some y => rw [hx] at h1; simpa using h1
    obtain ⟨v, hv⟩ : ∃ v, vs[i]? = some v := ⟨_, List.getElem?_eq_getElem (by rw [hlen]; exact (List.getElem?_eq_some_iff.1 ho2).1)⟩
    exact op_of_S hR hN hlen h ho2 hun hp hv (hob i o v ho2 hv) fun u w' hb hu =>
      any_of_S hR hN hlen hI hF hob hQ fuel _ _ _ (by have := count_set hun; omega) (h.next hR hN hI hF ho2 hp hb hu)

/-- .. in a round of a loop over a function -/
theorem wpIn_region_F {lr n : Nat} {id : Nat} {Q : Exit → Act → World → Prop} {a : Act} {w : World} {l : List Oper} (N : Nat) (fs : List Tmp) (FS : Tmp → Value → World → Prop) (I : World → Prop) (hm : P.follows .mixedOrders = true) (hB : rgB .any l.toArray N = true)
    (hfs : (fs.all fun s => l.any fun o => o.dst == some s) = true) (hN : N ≤ a.tmps.size) (hI : Closed I) (hF : ∀ s x w w', FS s x w → Below w.heap.size w w' → FS s x w') (hC : I w.drew) (hdf : (l.all fun o => match o.op with | .defer _ => false | _ => true) = true)
    (h : wpF P l.toArray I fs FS (fun a' => ∀ xs w', I w' → (∀ s ∈ fs, FS s (xs s) w') → Q .normal (fill fs xs a') w') l a) : (Code.region id l.toArray true).wpIn (Fence.wide.inRound lr) n P Q a w := by
  have hR := rgB_spec hB
  obtain ⟨vs, hlen, hob, hE⟩ := wpF_vals l a h
  refine wpIn_region_any hm (wpAnyIn_of_S (fun j o ho c hc => ?_) _ _ _ _ ?_)
  · have hmem : o ∈ l := List.mem_of_getElem? (by simpa using ho)
    rw [List.all_eq_true] at hdf
    have := hdf o hmem
    rw [hc] at this
    cases this
  refine any_of_S (l := l) (vs := vs) (fs := fs) (FS := FS) (I := I) (a0 := a) hR hN hlen hI hF hob ?_ _ _ _ _ ?_ ?_
  · intro listed b w' hall hinv
    have hw : ∀ s ∈ fs, ∃ x, b.tmps[s]? = some x ∧ FS s x w' := fun s hs => by
      rw [List.all_eq_true] at hfs
      have h1 := hfs s hs
      rw [List.any_eq_true] at h1
      obtain ⟨o, ho, hd⟩ := h1
      obtain ⟨j, hj, rfl⟩ := List.getElem_of_mem ho
      have hd' : (l[j]).dst = some s := by simpa using hd
      obtain ⟨v, hv⟩ : ∃ v, vs[j]? = some v := ⟨_, List.getElem?_eq_getElem (by rw [hlen]; exact hj)⟩
      exact (hinv.ins j l[j] s v (List.getElem?_eq_getElem hj) (hall j) hd' hv).1 hs
    have hb : b = fill fs (fun s => b.tmps.getD s undef) (lex l vs a l.length) := by
      have ht : b.tmps = (fill fs (fun s => b.tmps.getD s undef) (lex l vs a l.length)).tmps := by
        apply Array.ext_getElem?
        intro d
        by_cases hd : d ∈ fs
        · obtain ⟨x, hx, _⟩ := hw d hd
          have hlt : d < (lex l vs a l.length).tmps.size := by
            rw [(lex_size l vs a l.length).1, ← hinv.size]
            exact (Array.getElem?_eq_some_iff.1 hx).1
          rw [fill_in fs _ _ d hd hlt, hx]
          simp [hx]
        · rw [fill_out fs _ _ d hd]
          by_cases hwr : ∃ (j : Nat) (oj : Oper), l[j]? = some oj ∧ oj.dst = some d
          · obtain ⟨j, oj, hj, hdj⟩ := hwr
            obtain ⟨v, hv⟩ : ∃ v, vs[j]? = some v := ⟨_, List.getElem?_eq_getElem (by rw [hlen]; exact (List.getElem?_eq_some_iff.1 hj).1)⟩
            have hj' : l.toArray[j]? = some oj := by simpa using hj
            rw [(hinv.ins j oj d v hj (hall j) hdj hv).2 hd]
            exact (lex_in l vs a l.length j oj d v hj (List.getElem?_eq_some_iff.1 hj).1 hv hdj (Nat.lt_of_lt_of_le (hR.small _ _ _ hj' hdj) hN) fun i oi hi _ hne => hR.once i j oi oj d (by simpa using hi) hj' hdj hne).symm
          · rw [lex_out l vs a l.length d fun i oi hi _ hdi => hwr ⟨i, oi, hi, hdi⟩]
            exact hinv.out d fun i oi hi _ hdi => hwr ⟨i, oi, hi, hdi⟩
      have hd : b.defers = (fill fs (fun s => b.tmps.getD s undef) (lex l vs a l.length)).defers := by
        rw [(fill_size ..).2, (lex_size ..).2]
        exact hinv.defers
      cases b
      simp only at ht hd
      rw [Act.mk.injEq]
      exact ⟨ht, hd⟩
    rw [hb]
    refine hE _ w' hinv.cls fun s hs => ?_
    obtain ⟨x, hx, hf⟩ := hw s hs
    simpa [hx] using hf
  · simp
  · refine ⟨hC, rfl, rfl, fun _ _ => rfl, fun j o d v hj hlj => ?_, fun j o hj hlj => ?_, by simp⟩
    all_goals
      have hlt := (List.getElem?_eq_some_iff.1 hj).1
      rw [Array.getD_eq_getD_getElem?] at hlj
      simp [hlt] at hlj
end
end Go.Proofs.Ytbohdmconeebeaa

namespace Go.Proofs.Ytbohdmconeebeaa
open Go.RowKit Go.Shelf
set_option maxRecDepth 100000
attribute [local go_sem] Oper.semAt_some

/-- what the iterator gives: a frame, an error, where the payload lies -/
abbrev It := ((Hd × List Int) × Int) × Option Addr × Nat
def itV (x : It) : Array Value := #[frP x.1.1 (.slice x.2.1 x.1.1.2.length x.2.2), .int .i64 x.1.2]
theorem segs_at {zs : List Int} {j p : Nat} {b : List Int} (h : (Fc.scan 0 [] zs)[j]? = some (p, b)) : (Fc.segs zs)[j]? = some b := by
  unfold Fc.segs; rw [List.getElem?_map, h]; rfl

theorem boxed_later {U W : World} {b : Nat} {t : TypeId} {v : Value} (h : Boxed U b t v) (hW : Below U.heap.size U W) : W.cell? ⟨b, 0, none⟩ = some v := (show Boxed W b t v from (hW.block b h.lt).trans h).cell

set_option maxHeartbeats 16000000 in
theorem stream_go (a : Option Addr) (n m c : Nat) (es : List Int) (st : Int) (w : World) (hn : es.length = n) (hc : n ≤ c) (hz : Bytes es) (h1 : Nums .u8 w w.heap.size a es)
    (hm : min (n : Int) 900 = (m : Int)) (hmn : m ≤ n) (hm2 : m ≤ 900) :
    Calls Try.prog 4 #[.slice a n c, .int .i64 st] w fun e w' => e = .returned (.bool true) ∧ Below w.heap.size w w' := by
  have hmc : (m : Int) ≤ (c : Int) := by omega
  have hlen : (es.take m).length = m := by rw [List.length_take]; omega
  have hzb := hz.take m
  have hnum := h1.take m
  generalize es.take m = bs at *
  clear hz h1 hn
  have HZ := Lib.hid hzb
  have HL := Lib.hid hlen
  obtain ⟨w0, hw0⟩ : ∃ w0, (w.alloc (.cells #[.int .i64 st] 3)).alloc (.cells #[.bool false] 4) = w0 := ⟨_, rfl⟩
  have bS0 : Boxed w0 w.heap.size 3 (.int .i64 st) := by rw [← hw0]; exact (Boxed.new w _ _).alloc _
  have bR0 : Boxed w0 (w.heap.size + 1) 4 (.bool false) := by
    rw [← hw0]
    have := Boxed.new (w.alloc (.cells #[.int .i64 st] 3)) 4 (.bool false)
    rwa [World.size_alloc] at this
  have hs0 : w0.heap.size = w.heap.size + 2 := by rw [← hw0]; simp
  have hbw : Below w.heap.size w w0 := by rw [← hw0]; exact ((Below.refl _ w).alloc (Nat.le_refl _) _).alloc (by simp) _
  have hnum0 : Nums .u8 w0 w0.heap.size a bs := (hnum.below hbw).mono hbw.size
  have HNUM0 := Lib.hid hnum0
  have K1 := fnew_any w0
  obtain ⟨N, hN⟩ : ∃ N, (Fc.segs bs).length = N := ⟨_, rfl⟩
  have hNl : N ≤ 900 := by have := Fc.segs_len bs; omega
  have hscn : (Fc.scan 0 [] bs).length = N := by rw [← hN]; unfold Fc.segs; rw [List.length_map]
  have HN := Lib.hid hN
  have HSC := Lib.hid hscn
  clear hN hscn hnum hzb hlen hnum0
  refine (callsIn_wide (n := 9)).1 ?_
  refine callsIn_of_wp_marks Try.func4 rfl trivial ?_ rfl
  simp only [Try.ntmps4, List.size_toArray, List.length_cons, List.length_nil, Nat.reduceAdd, Nat.reduceSub, Array.replicate_succ, Array.replicate_zero, List.push_toArray, List.append_toArray, List.nil_append, List.cons_append]
  gi_wp2_with fail
  refine ⟨trivial, ?_⟩
  refine (callsIn_wide.2 (K1)).mono ?_
  rintro e w1 ⟨rfl, hcod1, hb1, -⟩
  generalize w0.heap.size + 1 = cb at *
  clear K1 hw0
  gi_wp2_with fail
  refine ⟨trivial, ?_⟩
  refine (callsIn_wide.2 (rframes_any a m c bs w1 HL.out (by omega) HZ.out ((HNUM0.out.below hb1).mono hb1.size))).mono ?_
  rintro e w2 ⟨A1, c1, A2, c2, fs, rfl, hc1, hc2, hfs, hIn, hNe, hb2⟩
  rw [HN.out] at hc1 hc2 ⊢
  have hb02 := hb1.trans (hb2.mono hb1.size)
  have hs2 := hb02.size
  have hcod2 := (hcod1.below hb2).mono hb2.size
  have HFS := Lib.hid hfs
  have HIN := Lib.hid hIn
  have HNE := Lib.hid hNe
  clear hfs hIn hNe hb1 hb2 hcod1
  gi_wp2_with fail
  refine ⟨trivial, ?_⟩
  obtain ⟨w3, hw3⟩ : ∃ w3, ((w2.alloc (.cells #[.slice A1 N c1] 45)).alloc (.cells #[.slice A2 N c2] 46)).alloc (.cells #[.int .i64 0] 3) = w3 := ⟨_, rfl⟩
  have hs3 : w3.heap.size = w2.heap.size + 3 := by rw [← hw3]; simp
  have bW3 : Boxed w3 w2.heap.size 45 (.slice A1 N c1) := by rw [← hw3]; exact ((Boxed.new w2 _ _).alloc _).alloc _
  have bP3 : Boxed w3 (w2.heap.size + 1) 46 (.slice A2 N c2) := by
    rw [← hw3]
    have := (Boxed.new (w2.alloc (.cells #[.slice A1 N c1] 45)) 46 (.slice A2 N c2)).alloc (.cells #[.int .i64 0] 3)
    rwa [World.size_alloc] at this
  have bI3 : Boxed w3 (w2.heap.size + 2) 3 (.int .i64 ((0 : Nat) : Int)) := by
    rw [← hw3]
    have := Boxed.new ((w2.alloc (.cells #[.slice A1 N c1] 45)).alloc (.cells #[.slice A2 N c2] 46)) 3 (.int .i64 0)
    rwa [World.size_alloc, World.size_alloc] at this
  have hb23 : Below w2.heap.size w2 w3 := by rw [← hw3]; exact (((Below.refl _ w2).alloc (Nat.le_refl _) _).alloc (by simp) _).alloc (by simp; omega) _
  have hb03 := hb02.trans (hb23.mono hs2)
  rw [hw3]
  refine (callsIn_wide.2 (frames_any cb a m c bs w3 HL.out (by omega) ((HNUM0.out.below hb03).mono hb03.size))).mono ?_
  rintro e w4 ⟨Bs, Ba, Bc, AB, cB, rfl, hseq⟩
  have hfn := frs_not_nil Ba Bc
  have hb34 := hseq.below
  have hs34 := hb34.size
  have bW : Boxed w4 w2.heap.size 45 (.slice A1 N c1) := (hb34.block _ (by omega)).trans bW3
  have bP : Boxed w4 (w2.heap.size + 1) 46 (.slice A2 N c2) := (hb34.block _ (by omega)).trans bP3
  have bI : Boxed w4 (w2.heap.size + 2) 3 (.int .i64 ((0 : Nat) : Int)) := (hb34.block _ (by omega)).trans bI3
  have hb24 := hb23.trans (hb34.mono (by omega))
  have hb04 := hb03.trans (hb34.mono (by omega))
  have bS : Boxed w4 w.heap.size 3 (.int .i64 st) := (hb04.block _ (by omega)).trans bS0
  have bR : Boxed w4 (w.heap.size + 1) 4 (.bool false) := (hb04.block _ (by omega)).trans bR0
  clear hw3 bW3 bP3 bI3 hb23 hb03 hb02 bS0 bR0
  have hOff : ∀ V, Off (fun k => k = w2.heap.size + 2) w4 V → Below w2.heap.size w2 V := fun V hV => hb24.trans (hV.below (fun k hk => by omega) (by omega))
  have hBi : w2.heap.size + 2 < w4.heap.size := by omega
  gi_wp2_with fail
  refine range_stopb rfl (by omega) (gf := 35) (lb := #[.pointer (some ⟨Ba, 0, none⟩), .pointer (some ⟨Bc, 0, none⟩)]) rfl trivial (enters_of Try.func35 (by kernel_rfl) rfl)
    itV (fun _ => rfl)
    (fun j x V => Ld w4 (w2.heap.size + 2) 3 j V ∧ (∃ p s, (Fc.scan 0 [] bs)[j]? = some (p, s) ∧ unS s = x.1) ∧ x.1.1.2.length ≤ x.2.2 ∧ Nums .u8 V V.heap.size x.2.1 x.1.1.2)
    (fun j x q V => Ld w4 (w2.heap.size + 2) 3 j V ∧ (∃ p s, (Fc.scan 0 [] bs)[j]? = some (p, s) ∧ unS s = x.1) ∧ Nums .u8 V V.heap.size x.2.1 x.1.1.2 ∧ w4.heap.size ≤ q ∧
      V.heap[q]? = some (.cells (frC x.1.1.1.1 x.1.1.1.2.1 x.1.1.1.2.2.1 x.1.1.1.2.2.2.1 x.1.1.1.2.2.2.2 (.slice x.2.1 x.1.1.2.length x.2.2)) 29 (0, 0)))
    (fun j V => Ld w4 (w2.heap.size + 2) 3 j V) (fun _ _ => False) (KpC (w2.heap.size + 2)) (Fc.scan 0 [] bs).length
    (fun j x q V l o o' h hl ho hc' => ⟨h.1.below hBi (below_put V o' hl), h.2.1, by rw [show (V.putObj l o').heap.size = V.heap.size by simp [World.putObj]]; exact h.2.2.1.putObj ho hc' o', h.2.2.2.1,
      (World.putObj_heap_other (fun e => by subst e; rw [h.2.2.2.2] at ho; injection ho with ho; subst ho; cases hc')).trans h.2.2.2.2⟩)
    (fun j V l o o' h hl _ _ => h.below hBi (below_put V o' hl))
    (fun _ _ _ _ _ h _ _ _ => h)
    (fun _ _ _ h k => h.trans k) (fun V l o o' _ ho hc' => KpC.putObj ho hc')
    (fun o => Ld.below ⟨bI, Off.refl _ _⟩ hBi (((Below.refl w4.heap.size w4).alloc (Nat.le_refl _) _).alloc (by simp) _)) ?round ?iter ?done ?stop
  case round =>
    rintro l j ⟨⟨⟨⟨v, k, s, i, d⟩, L⟩, er⟩, AL, cL⟩ V K ⟨hLd, hseg, hcL, hnL⟩ hj hK
    rw [HSC.out] at hj
    simp only [itV, frP, frV, frC] at *
    have hVs := hLd.2.size
    have hK' := Lib.hid hK
    clear hK
    gi_wp2_with fail
    refine hK'.out _ V.heap.size _ ⟨hLd.below hBi ((Below.refl w4.heap.size V).alloc hVs _), hseg, (hnL.below ((Below.refl _ V).alloc (Nat.le_refl _) _)).mono (by simp), hVs, World.alloc_heap_new _ _⟩ ⟨by simp, fun q o _ ho _ => (Below.heap_alloc _ _ _ (Array.getElem?_eq_some_iff.1 ho).1).trans ho⟩ (KpC.of_below ((Below.refl _ V).alloc (Nat.le_refl _) _)) ?_
    clear hK' hLd hseg hnL hVs
    generalize V.heap.size = q
    clear V
    rintro l V hl ⟨hLd, ⟨p, sg, hsc, hun⟩, hnL, hq, hbox⟩
    have hVs := hLd.2.size
    have hbV := hOff V hLd.2
    have hsj : (Fc.segs bs)[j]? = some sg := segs_at hsc
    have bIV := hLd.1
    have bWV : Boxed V w2.heap.size 45 (.slice A1 N c1) := (hLd.2.block w2.heap.size (by omega) (by omega)).trans bW
    have bPV : Boxed V (w2.heap.size + 1) 46 (.slice A2 N c2) := (hLd.2.block (w2.heap.size + 1) (by omega) (by omega)).trans bP
    obtain ⟨f, hf⟩ : ∃ f, fs[j]? = some f := by
      have hl2 : fs.length = N := by have := congrArg List.length HFS.out; rwa [List.length_map, List.length_map, HN.out] at this
      exact ⟨_, List.getElem?_eq_getElem (by omega)⟩
    have hfd : frD f = ((v, k, s, i, d), L) := by
      have := congrArg (·[j]?) HFS.out
      simp only [List.getElem?_map, hf, hsj, Option.map_some, Option.some.injEq, hun] at this
      exact this
    obtain ⟨g1, rfl, hg1, hcf, hcp, hnf⟩ := (HIN.out.below hbV) j f hf
    obtain ⟨g2, o2, rfl, hg2, hce⟩ := (HNE.out.below hbV).open (j := j) (c := er) (by rw [List.getElem?_map, hsj]; simp [hun])
    obtain ⟨fv, fk, fq, fi, fc, fa, fcp, fz⟩ := f
    simp only [frD, Prod.mk.injEq] at hfd
    obtain ⟨⟨rfl, rfl, rfl, rfl, rfl⟩, rfl⟩ := hfd
    simp only at hcp hnf
    have hlI : ∀ W, Below V.heap.size V W → (Instr.loadAt 3 (.pointer (some ⟨w2.heap.size + 2, 0, none⟩))).run Try.prog W = .ok (.int .i64 (j : Int)) W := fun W hW => by
      have := boxed_later bIV hW
      simp [Instr.loadAt, go_sem, this]
    have hlW : ∀ W, Below V.heap.size V W → (Instr.loadAt 45 (.pointer (some ⟨w2.heap.size, 0, none⟩))).run Try.prog W = .ok (.slice (some ⟨g1, 0, none⟩) N c1) W := fun W hW => by
      have := boxed_later bWV hW
      simp [Instr.loadAt, go_sem, this]
    have hlP : ∀ W, Below V.heap.size V W → (Instr.loadAt 46 (.pointer (some ⟨w2.heap.size + 1, 0, none⟩))).run Try.prog W = .ok (.slice (some ⟨g2, o2, none⟩) N c2) W := fun W hW => by
      have := boxed_later bPV hW
      simp [Instr.loadAt, go_sem, this]
    have hlE : ∀ W, Below V.heap.size V W → (Instr.loadAt 3 (.pointer (some ⟨g2, o2 + j, none⟩))).run Try.prog W = .ok (.int .i64 er) W := fun W hW => by
      have := (hW.cell (p := ⟨g2, o2 + j, none⟩) (by have := hbV.size; simp only; omega)).trans hce
      simp [Instr.loadAt, go_sem, this]
    have hlF : ∀ W, Below V.heap.size V W → (Instr.loadAt 29 (.pointer (some ⟨q, 0, none⟩))).run Try.prog W = .ok (.agg #[.int .i64 fv, .int .i64 fk, .int .u32 fq, .int .i64 fi, .int .i64 fc, .slice AL fz.length cL]) W := fun W hW => by
      obtain ⟨d0, d1, d2, d3, d4, d5⟩ := fr_block ((hW.block q (Array.getElem?_eq_some_iff.1 hbox).1).trans hbox)
      simp [Instr.loadAt, go_sem, d0, d1, d2, d3, d4, d5]
    have hlR : ∀ W, Below V.heap.size V W → (Instr.loadAt 35 (.pointer (some ⟨g1, j * 6, none⟩))).run Try.prog W = .ok (.agg #[.int .i64 fv, .int .i64 fk, .int .u32 fq, .int .i64 fi, .int .i64 fc, .slice fa fz.length fcp]) W := fun W hW => by
      have hk : ∀ (q : Nat) u, (frC fv fk fq fi fc (.slice fa fz.length fcp))[q]? = some u → W.cell? ⟨g1, j * 6 + q, none⟩ = some u := fun q u hu => (hW.cell (p := ⟨g1, j * 6 + q, none⟩) (by have := hbV.size; simp only; omega)).trans (hcf q u hu)
      have d0 := hk 0 (.int .i64 fv) rfl
      have d1 := hk 1 (.int .i64 fk) rfl
      have d2 := hk 2 (.int .u32 fq) rfl
      have d3 := hk 3 (.int .i64 fi) rfl
      have d4 := hk 4 (.int .i64 fc) rfl
      have d5 := hk 5 (.slice fa fz.length fcp) rfl
      rw [Nat.add_zero] at d0
      simp [Instr.loadAt, go_sem, d0, d1, d2, d3, d4, d5]
    have hOf : ∀ W, Calls Try.prog 11 #[.agg #[.int .i64 fv, .int .i64 fk, .int .u32 fq, .int .i64 fi, .int .i64 fc, .slice AL fz.length cL]] W fun e w'' => e = .returned (.agg #[.int .i64 fv, .int .i64 fk, .int .u32 fq, .int .i64 fi, .int .i64 fc, .slice AL fz.length cL]) ∧ Below W.heap.size W w'' := fun W => of_frame fv fk fq fi fc AL fz.length cL W
    have hzl : fz.length ≤ 100000 := by
      have hmem := segs_bytes HZ.out (List.mem_of_getElem? hsj)
      have h3 := unS_len hmem (by have := (Fc.segs_mem (List.mem_of_getElem? hsj)).2.2; have := HL.out; omega)
      rw [hun] at h3
      exact h3
    have hSm : ∀ W, Below V.heap.size V W → Calls Try.prog 10 #[.agg #[.int .i64 fv, .int .i64 fk, .int .u32 fq, .int .i64 fi, .int .i64 fc, .slice AL fz.length cL], .agg #[.int .i64 fv, .int .i64 fk, .int .u32 fq, .int .i64 fi, .int .i64 fc, .slice fa fz.length fcp]] W fun e w'' => e = .returned (.bool true) ∧ Below W.heap.size W w'' := fun W hW => by
      have h := rfsame_any fv fk fq fi fc fv fk fq fi fc W.heap.size AL fa fz.length cL fz.length fcp fz fz W rfl rfl (by omega) (Nat.le_refl _) ((hnL.below hW).mono hW.size) (((hnf.mono hbV.size).below hW).mono hW.size)
      have e1 : sameZ fv fk fq fi fc fv fk fq fi fc fz fz = true := by simp [sameZ]
      rw [e1] at h
      exact h
    have hjN : (j : Int) < (N : Int) := by omega
    have hjN2 : decide ((N : Int) ≤ (j : Int)) = false := by rw [decide_eq_false_iff_not]; omega
    have hjN3 : decide (N ≤ j) = false := by rw [decide_eq_false_iff_not]; omega
    have hNc1 : (N : Int) ≤ (c1 : Int) := by omega
    have hNc2 : (N : Int) ≤ (c2 : Int) := by omega
    have hj0 : (0 : Int) ≤ (j : Int) := by omega
    have hj2 : (j : Int) ≤ 1000 := by omega
    have hne : (er != er) = false := by simp
    have hfin : Hid (∀ (V1 : World), Below V.heap.size V V1 → KeepsFrom w4.heap.size V (V1.setCell ⟨w2.heap.size + 2, 0, none⟩ (.int .i64 ((j : Int) + 1))) ∧ Ld w4 (w2.heap.size + 2) 3 (j + 1) (V1.setCell ⟨w2.heap.size + 2, 0, none⟩ (.int .i64 ((j : Int) + 1))) ∧ KpC (w2.heap.size + 2) V (V1.setCell ⟨w2.heap.size + 2, 0, none⟩ (.int .i64 ((j : Int) + 1)))) := fun V1 hb =>
      ⟨(⟨hb.size, fun k o _ ho _ => (hb.block k (Array.getElem?_eq_some_iff.1 ho).1).trans ho⟩ : KeepsFrom w4.heap.size V V1).trans ((KeepsOthers.setCell _ _ _).from _),
        ⟨by rw [Int.natCast_succ]; exact Boxed.set _ ((hb.block _ (by omega)).trans hLd.1 : Boxed V1 (w2.heap.size + 2) 3 _), (off_below hLd.2 (hb.mono hVs)).setCell (p := ⟨w2.heap.size + 2, 0, none⟩) rfl _⟩, (KpC.of_below hb).set _⟩
    have HBI := Lib.hid (show Boxed V (w2.heap.size + 2) 3 (.int .i64 (j : Int)) from bIV)
    clear hLd hsc hun hnL hbox hcf hcp hnf hce hsj hf bIV bWV bPV hbV hzl
    gi_wp2_with fail
    refine wpIn_region_F 95 [] (fun _ _ _ => True) (fun W => Below V.heap.size V W) (by kernel_rfl) (by kernel_rfl) (by rfl) (by simp) (fun W W' h hb => h.trans (hb.mono h.size)) (fun q x W W' h hb => trivial) (Below.refl _ _).drew (by rfl) ?_
    refine wpF_load (.int .i64 (j : Int)) rfl (by rfl) (by rfl) (by rfl) hlI ?_
    simp only [Act.put, List.setIfInBounds_toArray, List.set_cons_succ, List.set_cons_zero]
    refine wpF_load (.slice (some ⟨g1, 0, none⟩) N c1) rfl (by rfl) (by rfl) (by rfl) hlW ?_
    simp only [Act.put, List.setIfInBounds_toArray, List.set_cons_succ, List.set_cons_zero]
    repeat (refine wpF_pure rfl rfl ?_; go_big_quiet_step (fail); refine wpQuiet_nil ?_)
    refine wpF_load (.slice (some ⟨g2, o2, none⟩) N c2) rfl (by rfl) (by rfl) (by rfl) hlP ?_
    simp only [Act.put, List.setIfInBounds_toArray, List.set_cons_succ, List.set_cons_zero]
    refine wpF_load (.int .i64 (j : Int)) rfl (by rfl) (by rfl) (by rfl) hlI ?_
    simp only [Act.put, List.setIfInBounds_toArray, List.set_cons_succ, List.set_cons_zero]
    repeat (refine wpF_pure rfl rfl ?_; go_big_quiet_step (fail); refine wpQuiet_nil ?_)
    refine wpF_load (.int .i64 er) rfl (by rfl) (by rfl) (by rfl) hlE ?_
    simp only [Act.put, List.setIfInBounds_toArray, List.set_cons_succ, List.set_cons_zero]
    repeat (refine wpF_pure rfl rfl ?_; go_big_quiet_step (fail); refine wpQuiet_nil ?_)
    refine wpF_load (.agg #[.int .i64 fv, .int .i64 fk, .int .u32 fq, .int .i64 fi, .int .i64 fc, .slice AL fz.length cL]) rfl (by rfl) (by rfl) (by rfl) hlF ?_
    simp only [Act.put, List.setIfInBounds_toArray, List.set_cons_succ, List.set_cons_zero]
    refine wpF_call (f := 11) (args := #[.agg #[.int .i64 fv, .int .i64 fk, .int .u32 fq, .int .i64 fi, .int .i64 fc, .slice AL fz.length cL]]) (.agg #[.int .i64 fv, .int .i64 fk, .int .u32 fq, .int .i64 fi, .int .i64 fc, .slice AL fz.length cL]) rfl rfl (fun x => by first | rfl | (simp [go_sem]; done)) (fun W _ => hOf W) ?_
    simp only [Act.put, List.setIfInBounds_toArray, List.set_cons_succ, List.set_cons_zero]
    refine wpF_load (.slice (some ⟨g1, 0, none⟩) N c1) rfl (by rfl) (by rfl) (by rfl) hlW ?_
    simp only [Act.put, List.setIfInBounds_toArray, List.set_cons_succ, List.set_cons_zero]
    refine wpF_load (.int .i64 (j : Int)) rfl (by rfl) (by rfl) (by rfl) hlI ?_
    simp only [Act.put, List.setIfInBounds_toArray, List.set_cons_succ, List.set_cons_zero]
    repeat (refine wpF_pure rfl rfl ?_; go_big_quiet_step (fail); refine wpQuiet_nil ?_)
    refine wpF_load (.agg #[.int .i64 fv, .int .i64 fk, .int .u32 fq, .int .i64 fi, .int .i64 fc, .slice fa fz.length fcp]) rfl (by rfl) (by rfl) (by rfl) hlR ?_
    simp only [Act.put, List.setIfInBounds_toArray, List.set_cons_succ, List.set_cons_zero]
    refine wpF_call (f := 10) (args := #[.agg #[.int .i64 fv, .int .i64 fk, .int .u32 fq, .int .i64 fi, .int .i64 fc, .slice AL fz.length cL], .agg #[.int .i64 fv, .int .i64 fk, .int .u32 fq, .int .i64 fi, .int .i64 fc, .slice fa fz.length fcp]]) (.bool true) rfl rfl (fun x => by first | rfl | (simp [go_sem]; done)) (fun W hW => hSm W hW) ?_
    simp only [Act.put, List.setIfInBounds_toArray, List.set_cons_succ, List.set_cons_zero]
    repeat (refine wpF_pure rfl rfl ?_; go_big_quiet_step (fail); refine wpQuiet_nil ?_)
    intro xs W hW _
    simp only [fill]
    have kI1 : W.cell? ⟨w2.heap.size + 2, 0, none⟩ = some (.int .i64 (j : Int)) := boxed_later HBI.out hW
    have fI1 : W.frozen? ⟨w2.heap.size + 2, 0, none⟩ = false := (show Boxed W (w2.heap.size + 2) 3 (.int .i64 (j : Int)) from (hW.block _ HBI.out.lt).trans HBI.out).frozen
    have hend := Lib.hid (hfin.out W hW)
    clear hfin hW hlI hlW hlP hlE hlF hlR hOf hSm
    gi_wp2
    exact hend.out
  case iter =>
    intro Bk X l V hBk hBlt hX hl hD hB hY
    have hne : ∀ q : Nat, w2.heap.size + 3 ≤ q → ¬ (fun k => k = w2.heap.size + 2) q := fun q h e => by simp only at e; omega
    have hnu : Nums .u8 V V.heap.size AB bs := fun h0 => by
      obtain ⟨b, off, e, hb, hcl⟩ := hseq.nums h0
      exact ⟨b, off, e, by have := hD.2.size; omega, fun q z hq => hD.2.cell (hcl q z hq) (by simp only; omega)⟩
    exact frames_in 8 (by omega) 7 l Bs Ba Bc cb m cB (w2.heap.size + 2) w4.heap.size AB bs HL.out (by omega) HZ.out (fun j V => Ld w4 (w2.heap.size + 2) 3 j V) Bk X hBi hl (fun j A B h hb => h.below hBi hb)
      (fun j A h => (hcod2.below (hOff A h.2)).mono (hOff A h.2).size) hBk hBlt hX
      (fun j p s A1 c1 W1 h1 h2 h3 h4 h5 => hY j (unS s, A1, c1) W1 ⟨h1, ⟨p, s, h2, rfl⟩, h3, h4⟩ h5 (by
        rcases Nat.lt_or_ge j (Fc.scan 0 [] bs).length with h | h
        · exact h
        · rw [List.getElem?_eq_none h] at h2; cases h2)) V
      (hD.2.cell hseq.boxS (hne Bs (by have := hseq.loS; omega))) (hD.2.cell hseq.boxA (hne Ba (by have := hseq.loA; omega))) (hD.2.cell hseq.boxC (hne Bc (by have := hseq.loC; omega))) (by have := hseq.loC; omega) hnu hD hB
  case done =>
    rintro D V hD ⟨hI, hO⟩ hK
    rw [HSC.out] at hI
    have hVs := hO.size
    have bWV : Boxed V w2.heap.size 45 (.slice A1 N c1) := (hO.block w2.heap.size (by omega) (by omega)).trans bW
    have bRV : Boxed V (w.heap.size + 1) 4 (.bool false) := (hO.block (w.heap.size + 1) (by omega) (by omega)).trans bR
    have bSV : Boxed V w.heap.size 3 (.int .i64 st) := (hO.block w.heap.size (by omega) (by omega)).trans bS
    have hb0V : Below w0.heap.size w0 V := hb04.trans (hO.below (fun k hk => by omega) (by omega))
    have hb2V := hOff V hO
    clear bW bP bI bS bR hseq hOff hfn
    gi_wp2_with fail
    refine ⟨trivial, ?_⟩
    obtain ⟨w6, hw6⟩ : ∃ w6, V.alloc (.cells #[.int .i64 0] 3) = w6 := ⟨_, rfl⟩
    have hs6 : w6.heap.size = V.heap.size + 1 := by rw [← hw6]; simp
    have bK6 : Boxed w6 V.heap.size 3 (.int .i64 ((0 : Nat) : Int)) := by rw [← hw6]; exact Boxed.new V _ _
    have hb56 : Below V.heap.size V w6 := by rw [← hw6]; exact (Below.refl _ V).alloc (Nat.le_refl _) _
    have hb06 := hb0V.trans (hb56.mono hb0V.size)
    rw [hw6]
    refine (callsIn_wide.2 (frames_any cb a m c bs w6 HL.out (by omega) ((HNUM0.out.below hb06).mono hb06.size))).mono ?_
    rintro e w7 ⟨Bt, Bu, Bv, AC, cC, rfl, hseq⟩
    have hfn := frs_not_nil Bu Bv
    have hb67 := hseq.below
    have hs67 := hb67.size
    have hb57 := hb56.trans (hb67.mono (by omega))
    have bK7 : Boxed w7 V.heap.size 3 (.int .i64 ((0 : Nat) : Int)) := (hb67.block _ (by omega)).trans bK6
    have bI7 : Boxed w7 (w2.heap.size + 2) 3 (.int .i64 (N : Int)) := (hb57.block _ (by omega)).trans hI
    have bW7 : Boxed w7 w2.heap.size 45 (.slice A1 N c1) := (hb57.block _ (by omega)).trans bWV
    have bR7 : Boxed w7 (w.heap.size + 1) 4 (.bool false) := (hb57.block _ (by omega)).trans bRV
    have bS7 : Boxed w7 w.heap.size 3 (.int .i64 st) := (hb57.block _ (by omega)).trans bSV
    have hDV : D < V.heap.size := (Array.getElem?_eq_some_iff.1 hK).1
    have hK7 : w7.heap[D]? = some (.deferred (some [])) := (hb57.block _ hDV).trans hK
    have hb07 := hb0V.trans (hb57.mono hb0V.size)
    have hb27 := hb2V.trans (hb57.mono hb2V.size)
    have hcod7 := (hcod2.below hb27).mono hb27.size
    clear hw6 bK6 hb56 hb06 hb67 bWV bRV bSV hI hO hK hb0V hb2V
    have hBk7 : V.heap.size < w7.heap.size := by omega
    gi_wp2_with fail
    refine range_stops rfl (by omega) (gf := 35) (lb := #[.pointer (some ⟨Bu, 0, none⟩), .pointer (some ⟨Bv, 0, none⟩)]) rfl trivial (enters_of Try.func35 (by kernel_rfl) rfl)
      itV (fun _ => rfl)
      (fun j x U => Ld w7 V.heap.size 3 j U ∧ ∀ q : Nat, q < j → (q : Int) ≠ st)
      (fun j U => Ld w7 V.heap.size 3 j U ∧ ∀ q : Nat, q < j → (q : Int) ≠ st)
      (fun cd U => cd = .exit 2 ∧ ∃ j : Nat, j < N ∧ (j : Int) = st ∧ Ld w7 V.heap.size 3 (j + 1) U) (KpC V.heap.size) (Fc.scan 0 [] bs).length
      (fun j x U l o o' h hl ho hc' => ⟨h.1.below hBk7 (below_put U o' hl), h.2⟩)
      (fun j U l o o' h hl _ _ => ⟨h.1.below hBk7 (below_put U o' hl), h.2⟩)
      (fun cd U l o o' h hl _ _ => ⟨h.1, by obtain ⟨q, h1, h2, h3⟩ := h.2; exact ⟨q, h1, h2, h3.below hBk7 (below_put U o' hl)⟩⟩)
      (fun _ _ _ h k => h.trans k) (fun U l o o' _ ho hc' => KpC.putObj ho hc')
      (fun o => ⟨Ld.below ⟨bK7, Off.refl _ _⟩ hBk7 (((Below.refl w7.heap.size w7).alloc (Nat.le_refl _) _).alloc (by simp) _), fun q hq => by omega⟩) ?a2 ?assign2 ?body2 ?iter2 ?done2 ?stop2
    case assign2 =>
      intro l x U K hK
      gi_wp2
      exact hK
    case body2 =>
      rintro l j x U hl ⟨hLd, hne⟩ hj
      rw [HSC.out] at hj
      obtain ⟨u1, u2, hu⟩ : ∃ u1 u2, itV x = #[u1, u2] := ⟨_, _, rfl⟩
      rw [hu]
      clear hu
      have hVs := hLd.2.size
      have kK := hLd.1.cell
      have fK := hLd.1.frozen
      have kS := (show Boxed U w.heap.size 3 (.int .i64 st) from (hLd.2.block w.heap.size (by omega) (by omega)).trans bS7).cell
      have kS2 : (U.setCell ⟨V.heap.size, 0, none⟩ (.int .i64 ((j : Int) + 1))).cell? ⟨w.heap.size, 0, none⟩ = some (.int .i64 st) :=
        (World.cell?_of_block (Below.heap_setCell U ⟨V.heap.size, 0, none⟩ _ _ (by simp only; omega))).trans kS
      have kK2 : (U.setCell ⟨V.heap.size, 0, none⟩ (.int .i64 ((j : Int) + 1))).cell? ⟨V.heap.size, 0, none⟩ = some (.int .i64 ((j : Int) + 1)) := (hLd.1.set _).cell
      have hj2 : (j : Int) ≤ 1000 := by omega
      have hkf : KeepsFrom w7.heap.size U (U.setCell ⟨V.heap.size, 0, none⟩ (.int .i64 ((j : Int) + 1))) := (KeepsOthers.setCell _ _ _).from _
      have hld2 := hLd.next hBk7 (Below.refl _ U)
      have hkp := (KpC.of_below (b := V.heap.size) (Below.refl _ U)).set (.int .i64 ((j : Int) + 1))
      by_cases hjs : (j : Int) = st
      · have hfin := Lib.hid (And.intro hkf (And.intro hj hld2))
        subst hjs
        clear hLd hkf hld2 hkp hj
        gi_wp2
        exact ⟨hfin.out.1, rfl, j, hfin.out.2.1, rfl, hfin.out.2.2⟩
      · have hfin := Lib.hid (And.intro hkf (And.intro (show Ld w7 V.heap.size 3 (j + 1) _ ∧ ∀ q : Nat, q < j + 1 → (q : Int) ≠ st from ⟨hld2, fun q hq => by
          rcases Nat.lt_or_ge q j with h | h
          · exact hne q h
          · rw [show q = j by omega]; exact hjs⟩) hkp))
        have hjs2 : ((j : Int) == st) = false := by rw [beq_eq_false_iff_ne]; exact hjs
        clear hLd hkf hld2 hkp hj
        gi_wp2
        exact hfin.out
    case iter2 =>
      intro Bk X l U hBk hBlt hX hl hD hB hY
      have hne : ∀ q : Nat, V.heap.size + 1 ≤ q → ¬ (fun k => k = V.heap.size) q := fun q h e => by simp only at e; omega
      have hnu : Nums .u8 U U.heap.size AC bs := fun h0 => by
        obtain ⟨b, off, e, hb, hcl⟩ := hseq.nums h0
        exact ⟨b, off, e, by have := hD.1.2.size; omega, fun q z hq => hD.1.2.cell (hcl q z hq) (by simp only; omega)⟩
      exact frames_in 8 (by omega) 7 l Bt Bu Bv cb m cC V.heap.size w7.heap.size AC bs HL.out (by omega) HZ.out (fun j U => Ld w7 V.heap.size 3 j U ∧ ∀ q : Nat, q < j → (q : Int) ≠ st) Bk X hBk7 hl (fun j A B h hb => ⟨h.1.below hBk7 hb, h.2⟩)
        (fun j A h => by
          have hA : Below w2.heap.size w2 A := hb27.trans (h.1.2.below (fun k hk => by omega) (by omega))
          exact (hcod2.below hA).mono hA.size) hBk hBlt hX
        (fun j p s A1 c1 W1 h1 h2 h3 h4 h5 => hY j (unS s, A1, c1) W1 h1 h5 (by
          rcases Nat.lt_or_ge j (Fc.scan 0 [] bs).length with h | h
          · exact h
          · rw [List.getElem?_eq_none h] at h2; cases h2)) U
        (hD.1.2.cell hseq.boxS (hne Bt (by have := hseq.loS; omega))) (hD.1.2.cell hseq.boxA (hne Bu (by have := hseq.loA; omega))) (hD.1.2.cell hseq.boxC (hne Bv (by have := hseq.loC; omega))) (by have := hseq.loC; omega) hnu hD hB
    case' done2 =>
      rintro D2 U hD2 ⟨hLd, hne⟩ hK2
      rw [HSC.out] at hLd hne
      have hst : st < 0 ∨ (0 ≤ st ∧ ¬ st < 0 ∧ (N : Int) ≤ st ∧ ¬ st < (N : Int)) := by
        rcases Int.lt_or_le st 0 with h | h
        · exact .inl h
        · rcases Int.lt_or_le st (N : Int) with h3 | h3
          · exact absurd (show ((st.toNat : Nat) : Int) = st by omega) (hne st.toNat (by omega))
          · exact .inr ⟨h, by omega, h3, by omega⟩
      have hkf := hLd.1
      have hO := hLd.2
      clear hLd hne
    case' stop2 =>
      rintro D2 cd U hD2 ⟨rfl, j, hj, hjs, hLd⟩ hK2
      have hkf := hLd.1
      rw [Int.natCast_succ] at hkf
      have hO := hLd.2
      subst hjs
      have hst : (0 : Int) ≤ (j : Int) ∧ (j : Int) < (N : Int) ∧ (j : Int) ≤ 1000 := by omega
      clear hLd hj
    all_goals (
      have hUs := hO.size
      have bIU : Boxed U (w2.heap.size + 2) 3 (.int .i64 (N : Int)) := (hO.block _ (by omega) (by omega)).trans bI7
      have bWU : Boxed U w2.heap.size 45 (.slice A1 N c1) := (hO.block _ (by omega) (by omega)).trans bW7
      have bRU : Boxed U (w.heap.size + 1) 4 (.bool false) := (hO.block _ (by omega) (by omega)).trans bR7
      have bSU := (show Boxed U w.heap.size 3 _ from (hO.block _ (by omega) (by omega)).trans bS7)
      have hKD : U.heap[D]? = some (.deferred (some [])) := (hO.block _ (by omega) (by omega)).trans hK7
      have hb0U := hb07.trans (hO.below (fun k hk => by omega) (by omega))
      have kS := bSU.cell
      have kW := bWU.cell
      clear bI7 bW7 bR7 bS7 hK7 hb07 hb27 hO hseq bK7 hfn hcod7)
    case' done2 =>
      rcases hst with hs1 | ⟨hs1, hs1', hs2, hs2'⟩
    all_goals (
      gi_wp2_with fail
      refine ⟨trivial, ?_⟩
      refine (callsIn_wide.2 (fknown_any _)).mono ?_
      rintro e W0 ⟨rfl, hW0⟩
      have kI0 := boxed_later bIU hW0
      have kW0 := boxed_later bWU hW0
      have kR0 := boxed_later bRU hW0
      have kK0 := boxed_later hkf hW0
      have fR0 := (show Boxed W0 (w.heap.size + 1) 4 (.bool false) from (hW0.block _ bRU.lt).trans bRU).frozen
      have bR9 := (show Boxed W0 (w.heap.size + 1) 4 (.bool false) from (hW0.block _ bRU.lt).trans bRU).set (.bool true)
      have hD2U : D2 < U.heap.size := (Array.getElem?_eq_some_iff.1 hK2).1
      have hDU : D < U.heap.size := (Array.getElem?_eq_some_iff.1 hKD).1
      have hK29 : (W0.setCell ⟨w.heap.size + 1, 0, none⟩ (.bool true)).heap[D2]? = some (.deferred (some [])) := (Below.heap_setCell W0 _ _ _ (by simp only; omega)).trans ((hW0.block _ hD2U).trans hK2)
      have hKD9 : (W0.setCell ⟨w.heap.size + 1, 0, none⟩ (.bool true)).heap[D]? = some (.deferred (some [])) := (Below.heap_setCell W0 _ _ _ (by simp only; omega)).trans ((hW0.block _ hDU).trans hKD)
      have hb9 := ((hbw.trans (hb0U.mono hbw.size)).trans (hW0.mono (by have := hbw.size; have := hb0U.size; omega))).setCell (p := ⟨w.heap.size + 1, 0, none⟩) (by simp only; omega) (.bool true)
      have hKDf : ((W0.setCell ⟨w.heap.size + 1, 0, none⟩ (.bool true)).putObj D2 (.deferred none)).heap[D]? = some (.deferred (some [])) := (World.putObj_heap_other (by omega)).trans hKD9
      have bRh : Boxed (((W0.setCell ⟨w.heap.size + 1, 0, none⟩ (.bool true)).putObj D2 (.deferred none)).putObj D (.deferred none)) (w.heap.size + 1) 4 (.bool true) := (World.putObj_heap_other (by omega)).trans ((World.putObj_heap_other (by omega)).trans bR9)
      have hbh := (hb9.trans (below_put (B := w.heap.size) (W0.setCell ⟨w.heap.size + 1, 0, none⟩ (.bool true)) (.deferred none) (by omega : w.heap.size ≤ D2))).trans (below_put (B := w.heap.size) ((W0.setCell ⟨w.heap.size + 1, 0, none⟩ (.bool true)).putObj D2 (.deferred none)) (.deferred none) (by omega : w.heap.size ≤ D))
      have kRh := bRh.cell
      have HF := Lib.hid (And.intro hK29 (And.intro hKDf hbh))
      clear hK29 hKD9 hb9 hKDf hbh hW0 bR9 bRh hkf bIU bWU bRU bSU hK2 hKD hb0U
      gi_wp2
      refine ⟨by simp, .inl ⟨_, _, rfl, run_takeDeferred HF.out.1, ?_⟩⟩
      refine ⟨by simp, .inl ⟨_, _, rfl, run_takeDeferred HF.out.2.1, ?_⟩⟩
      refine ⟨.bool true, ?_, rfl, HF.out.2.2⟩
      simp [results, Try.f4, go_sem, kRh])
  case stop =>
    rintro D cd W' _ h _
    exact h.elim

theorem walk_fstream (a0 : Option Addr) (len0 cap0 : Nat) (z0 : List Int) (a1 : Int) (w : World) (w0 : IsRow .u8 w a0 len0 cap0 z0) (_w1 : (Lit.int .i64 a1).wf = true) :
    Calls Try.prog 4 #[.slice a0 len0 cap0, .int .i64 a1] w fun e w' => e = .returned (.bool true) ∧ Below w.heap.size w w' := by
  obtain ⟨e0, l0, q0, m0, k0, r0⟩ := w0.elems
  exact stream_go a0 len0 (min len0 900) cap0 e0 a1 w l0 q0 (bytes_of r0) k0 (by omega) (by omega) (by omega)
end Go.Proofs.Ytbohdmconeebeaa

namespace Go.Proofs.Ytbohdmconeebeaa.frameStream
open Go.ChangeShapes Go.WideShapes Go.ChangeAt Go.RowKit
open Go.ChangeMaps (open_string shut_string)
set_option linter.unusedVariables false

theorem own : ownKnob Try.prog.godebug = none := by kernel_rfl
theorem laidOut : laidOutB Try.prog = true := by kernel_rfl

theorem walk (a0 : Option Addr) (len0 cap0 : Nat) (z0 : List Int) (a1 : Int) (w : World) (w0 : IsRow .u8 w a0 len0 cap0 z0) (w1 : (Lit.int .i64 a1).wf = true) :
    Calls Try.prog 4 #[.slice a0 len0 cap0, .int .i64 a1] w fun e w' => e = .returned (.bool true) ∧ Below w.heap.size w w' := walk_fstream a0 len0 cap0 z0 a1 w w0 w1

set_option maxRecDepth 100000 in
theorem lifted (os : Os) (started : os.Started) (H : Type) (enc : TypeId × Value → H) :
    ReturnsInHanded {} Try.checked os 4 .any (Rows.frameStreamSpec.pre6 enc Try.prog Try.f4 Rows.frameStreamRow.domain false) (Rows.frameStreamSpec.post enc Try.prog Try.f4 false true false false) := by
  refine returnsInHanded_of_change (C := Try.checked) own started (by kernel_rfl) Try.func4
    (ChangeSpec.witness6 (enc := enc) (C := Try.checked) false ⟨#[], #[.slice none 0 0, .int .i64 0], []⟩ 8 (by kernel_rfl) (by kernel_rfl) (by kernel_rfl) (by kernel_rfl)) ?_
  intro W base args ds gs before hval0 hW hcnd _
  have hval : ∀ (j : Nat) t v, Try.f4.params[j]? = some t → args[j]? = some v → Value.okWide Try.prog W .any base t v := hval0
  have hW' := hW
  obtain ⟨p, q, hA0, hV, rfl, hfz, hnd⟩ := hW
  have hA : DataW.TrodAll enc Try.prog W 0 (fun _ => true) true Try.f4.params.toList args.toList ds p := hA0
  rw [Try.params4] at hA hval
  obtain ⟨v0, vs0, d0, ds0, p0, q0, hargs, rfl, rfl, h0, r0⟩ := trodAll_cons hA
  obtain ⟨v1, vs1, d1, ds1, p1, q1, rfl, rfl, rfl, h1, r1⟩ := trodAll_cons r0
  obtain ⟨rfl, rfl, rfl⟩ := trodAll_nil r1
  obtain rfl : args = #[v0, v1] := by cases args; simp_all
  obtain ⟨rfl, rfl⟩ := trodVars_none hV
  obtain ⟨a0, len0, cap0, rfl⟩ := okWide_slice Try.underlying22 (hval 0 22 v0 rfl rfl)
  have k0 := h0
  have lt0 : ∀ x ∈ p0, x.block < W.heap.size := by obtain ⟨m, hm⟩ := k0; exact DataW.trod_lt m _ _ _ hm
  obtain ⟨z0, w0⟩ : ∃ zs, IsRow .u8 W a0 len0 cap0 zs := by
    obtain ⟨fuel, hf⟩ := h0
    rcases open_ints Try.underlying22 Try.underlying5 (by kernel_rfl) hf with ⟨hcs, _⟩ | ⟨x, l, c, zs, hcs, _, hl, hm, hz, _, hcell, hwz⟩
    · simp [Value.cells] at hcs
      obtain ⟨rfl, rfl, rfl⟩ := hcs
      exact ⟨[], .inl ⟨rfl, rfl, rfl, rfl⟩⟩
    · simp [Value.cells] at hcs
      obtain ⟨rfl, rfl, rfl⟩ := hcs
      exact ⟨zs, .inr ⟨_, rfl, hl, hm, by simpa using hz, hcell, hwz⟩⟩
  obtain ⟨a1, rfl, rfl, rfl, w1⟩ := open_int Try.underlying3 (hval 1 3 v1 rfl rfl) h1
  clear hA0 hval0
  refine (walk a0 len0 cap0 z0 a1 W w0 w1).mono fun e W' ⟨he, bel⟩ => ?_
  subst he
  exact ⟨_, rfl, _, _, _, [], _, [], hW', trodAll_mk1 (shut_bool Try.underlying4 _), (trodAll_cons_mk (Below.trod laidOut (by kernel_rfl) (of_decide_eq_true (by kernel_rfl)) k0 bel lt0) (trodAll_cons_mk (shut_int Try.underlying3 w1) trodAll_mk0)), rfl, bel.frame _, fun h => by cases h⟩

theorem over : Rows.frameStreamRow.holds Try.pinned (OpenSpec.ofChange Rows.frameStreamSpec) :=
  OpenClaim.holds_of_wide 4 Try.f4 rfl rfl rfl rfl rfl rfl rfl ⟨rfl, rfl, rfl, rfl, rfl⟩ rfl rfl rfl rfl rfl (by kernel_rfl) Try.func4 (by kernel_rfl)
    (of_decide_eq_true (by kernel_rfl)) (by unfold Func.isWrapper; first | (rw [if_pos (by decide +kernel)]; kernel_rfl) | (rw [if_neg (by decide +kernel)]; exact ⟨rfl, rfl⟩))
    (fun os started H enc _ => lifted os started H enc)

theorem proved : Rows.FrameStreamSaid := over
#print axioms proved
end Go.Proofs.Ytbohdmconeebeaa.frameStream
