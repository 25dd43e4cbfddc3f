/-
  Contract of a pen's write: the walk.
-/
import Derived.Test.YtmilcmgohlfpiaaWrite
namespace Go.Proofs.Ytmilcmgohlfpiaa
open Go.RowKit
set_option maxRecDepth 100000

theorem write_nil (x : Value) (w : World) :
    Calls Try.prog 55 #[.pointer none, x] w fun e w' => e = .returned (.int .i64 1) ∧ w = w' := by
  go_enter Try.func55, Try.ntmps55
  go_wp2_with (go_at_call 33; refine (err_nil w).mono ?_; rintro e w2 ⟨rfl, rfl⟩)
  go_ret
  exact ⟨rfl, rfl⟩
theorem write_full (b g : Nat) (room : Int) (L new : List Int) (x : Value) (w : World) (h : PenAt w b g room L true) :
    Calls Try.prog 55 #[.pointer (some ⟨b, 0, none⟩), x] w fun e w' => WroteR b g room L true new w e w' := by
  have HC := err_any b g room L true w h
  have HP : Hid (WroteR b g room L true new w (.returned (.int .i64 2)) w) := ⟨rfl, g, h, Off.refl _ _, .inl rfl⟩
  clear h
  go_enter Try.func55, Try.ntmps55
  go_wp2_with (go_at_call 33; refine HC.mono ?_; rintro e w2 ⟨rfl, rfl⟩)
  go_ret
  exact HP.out

theorem fullNext_yes {room : Int} {L : List Int} {n : Nat} (h : room < (L.length : Int) + n) : fullNext room L false n = true := by
  unfold fullNext; rw [decide_eq_true h]; rfl
theorem fullNext_no {room : Int} {L : List Int} {n : Nat} (h : (L.length : Int) + n ≤ room) : fullNext room L false n = false := by
  unfold fullNext; rw [decide_eq_false (by omega)]; rfl
theorem drewN_off (S : Nat → Prop) (w : World) (n : Nat) : Off S w (w.drewN n) := ⟨rfl, rfl, rfl, Nat.le_refl _, fun _ _ _ => rfl⟩
theorem wrote_none {b g n : Nat} {room : Int} {L new : List Int} {w : World} (h : PenAt w b g room L false) (hno : room < (L.length : Int) + new.length) : WroteR b g room L false new w (.returned (.int .i64 2)) ((w.drewN n).setCell ⟨b, 2, none⟩ (.bool true)) := by
  have hf := fullNext_yes hno
  obtain ⟨A, cap, cur, hb, _, _, c2, hk, hlc, ht, hA⟩ := h.open
  refine ⟨by rw [hf]; rfl, g, ?_, (drewN_off (penS b g) w n).setCell (.inl rfl) _, .inl rfl⟩
  rw [bytesNext, hf]
  refine ⟨A, cap, cur, ?_, hk.off ((drewN_off (fun k => k = b) w n).setCell rfl _) ?_, hlc, ht, hA⟩
  · rw [setCell_at (w := w.drewN n) hb]; rfl
  · rintro q ⟨o, s, rfl⟩
    rcases hA with ⟨hA, _⟩ | ⟨hA, hgb⟩
    · simp at hA
    · injection hA with hA; injection hA with e; subst e; exact hgb
theorem wrote_some {b g : Nat} {room : Int} {L new : List Int} {w w' : World} (h : ∃ g', PenAt w' b g' room (L ++ new) false ∧ Off (penS b g) w w' ∧ (g' = g ∨ w.heap.size ≤ g')) (hno : (L.length : Int) + new.length ≤ room) : WroteR b g room L false new w (.returned (.int .i64 0)) w' := by
  have hf := fullNext_no hno
  obtain ⟨g', h1, h2, h3⟩ := h
  refine ⟨by rw [hf]; rfl, g', ?_, h2, h3⟩
  rw [bytesNext, hf]; exact h1

set_option maxHeartbeats 2000000 in
theorem write_none (b g pb po pc N : Nat) (room : Int) (L : List Int) (ps : List (List Int)) (w : World) (h : PenAt w b g room L false) (h0 : 0 ≤ room) (h1 : room ≤ 9223372036854775807) (hN : Hid (ps.flatten.length = N)) (hl : L.length + N ≤ 1000000000) (hpl : ps.length ≤ 1000000000)
    (hps : Hid (Parts w b g pb po ps)) (hno : room < (L.length : Int) + N) :
    Calls Try.prog 55 #[.pointer (some ⟨b, 0, none⟩), .slice (some ⟨pb, po, none⟩) ps.length pc] w fun e w' => WroteR b g room L false ps.flatten w e w' := by
  have HC := err_any b g room L false w h
  have HL := left_any b g room L false w h h0 h1 (by omega)
  obtain ⟨A, cap, cur, hb, _, _, c2, hk, hlc, ht, hA⟩ := h.open
  have f2 : w.frozen? ⟨b, 2, none⟩ = false := frozen_of hb
  have HP : Hid (∀ n, WroteR b g room L false ps.flatten w (.returned (.int .i64 2)) ((w.drewN n).setCell ⟨b, 2, none⟩ (.bool true))) := fun n => wrote_none h (by have := hN.out; omega)
  clear h hb hk ht hA
  go_enter Try.func55, Try.ntmps55
  go_wp2_with (go_at_call 33; refine HC.mono ?_; rintro e w2 ⟨rfl, rfl⟩)
  go_loopw [6, 19] (fun s i wr => ∃ k : Nat, k ≤ ps.length ∧ i = .int .i64 k ∧ s = .int .i64 (flen ps k) ∧ wr = w) (fun _ i _ => ps.length - (intOf i).toNat)
  case atStart => exact ⟨0, by omega, rfl, rfl, rfl⟩
  case round =>
    obtain ⟨k, hk, rfl, rfl, rfl⟩ := hrel
    have hfl := flen_le ps k
    rw [hN.out] at hfl
    by_cases hlt : k < ps.length
    · obtain ⟨z, hz⟩ : ∃ z, ps[k]? = some z := ⟨_, List.getElem?_eq_getElem hlt⟩
      obtain ⟨a, c, hc, _, _⟩ := hps.out k z hz
      have HZ := Lib.hid (flen_more hz)
      have hfl2 := flen_le ps (k + 1)
      rw [hN.out] at hfl2
      have hzl : flen ps k + z.length ≤ 1000000000 := by have := HZ.out; omega
      clear hz hfl2
      go_wp2
      go_roundw
      case rel => exact ⟨k + 1, by omega, by go_num, by rw [HZ.out]; go_num, trivial⟩
      case measure => simp [intOf]; omega
    · have HF := Lib.hid ((flen_all ps (k := k) (by omega)).trans hN.out)
      have hgt : room - (L.length : Int) < (flen ps k : Int) := by rw [HF.out]; omega
      go_wp2_with (go_at_call 62; refine HL.mono ?_; rintro e w2 ⟨rfl, n, rfl⟩)
      go_ret
      exact HP.out n

set_option maxHeartbeats 1000000 in
theorem write_zero (b g pb po pc N : Nat) (room : Int) (L : List Int) (ps : List (List Int)) (w : World) (h : PenAt w b g room L false) (h0 : 0 ≤ room) (h1 : room ≤ 9223372036854775807) (hN : Hid (ps.flatten.length = N)) (hl : L.length + N ≤ 1000000000) (hpl : ps.length ≤ 1000000000)
    (hps : Hid (Parts w b g pb po ps)) (hpp : Hid (¬ penS b g pb)) (hpb : pb < w.heap.size) (hn0 : Hid (N = 0)) (hno : (L.length : Int) + N ≤ room) :
    Calls Try.prog 55 #[.pointer (some ⟨b, 0, none⟩), .slice (some ⟨pb, po, none⟩) ps.length pc] w fun e w' => WroteR b g room L false ps.flatten w e w' := by
  have HC := err_any b g room L false w h
  have HL := left_any b g room L false w h h0 h1 (by omega)
  have HA : ∀ n : Nat, Calls Try.prog 63 #[.pointer (some ⟨b, 0, none⟩), .int .i64 N] (w.drewN n) fun e w' => PartR b g room L false N (w.drewN n) e w' := fun n => part_any b g _ room L false _ (h.below (below_drewN (Below.refl _ _) n)) hl
  clear h
  have hsz1 : (Try.prog.info? 5).map (·.size) = some 1 := by kernel_rfl
  go_enter Try.func55, Try.ntmps55
  go_wp2_with (go_at_call 33; refine HC.mono ?_; rintro e w2 ⟨rfl, rfl⟩)
  go_loopw [6, 19] (fun s i wr => ∃ k : Nat, k ≤ ps.length ∧ i = .int .i64 k ∧ s = .int .i64 (flen ps k) ∧ wr = w) (fun _ i _ => ps.length - (intOf i).toNat)
  case atStart => exact ⟨0, by omega, rfl, rfl, rfl⟩
  case round =>
    obtain ⟨k, hk, rfl, rfl, rfl⟩ := hrel
    have hfl := flen_le ps k
    rw [hN.out] at hfl
    by_cases hlt : k < ps.length
    · obtain ⟨z, hz⟩ : ∃ z, ps[k]? = some z := ⟨_, List.getElem?_eq_getElem hlt⟩
      obtain ⟨a, c, hc, _, _⟩ := hps.out k z hz
      have HZ := Lib.hid (flen_more hz)
      have hfl2 := flen_le ps (k + 1)
      rw [hN.out] at hfl2
      have hzl : flen ps k + z.length ≤ 1000000000 := by have := HZ.out; omega
      clear hz hfl2
      go_wp2
      go_roundw
      case rel => exact ⟨k + 1, by omega, by go_num, by rw [HZ.out]; go_num, trivial⟩
      case measure => simp [intOf]; omega
    · have HF : flen ps k = N := (flen_all ps (k := k) (by omega)).trans hN.out
      have hgt : (N : Int) ≤ room - (L.length : Int) := by omega
      go_wp2_with (first
        | (go_at_call 62; refine HL.mono ?_; rintro e w2 ⟨rfl, n, rfl⟩)
        | (go_at_call 63; refine (HA _).mono ?_; rintro e w3 ⟨A, cap, cur, P, rfl, hb3, hk3, hc3, ht3, hO3, hP3⟩))
      have HST := Lib.hid (part_zero (w := wr) hN.out hb3 hk3 hc3 ht3 hO3 hn0.out hP3)
      have HO := Lib.hid hO3
      clear hP3 hO3 ht3 hk3 hb3 HA HL HC
      obtain rfl := hn0.out
      go_loopw [9, 45] (fun t i wx => ∃ k : Nat, k ≤ ps.length ∧ i = .int .i64 k ∧ t = .slice P 0 0 ∧ Hid (wx = w3)) (fun _ i _ => ps.length - (intOf i).toNat)
      case atStart => exact ⟨0, by omega, rfl, rfl, rfl⟩
      case round =>
        obtain ⟨k, hk, rfl, rfl, hwx⟩ := hrel
        obtain rfl := hwx.out
        by_cases hlt : k < ps.length
        · obtain ⟨z, hz⟩ : ∃ z, ps[k]? = some z := ⟨_, List.getElem?_eq_getElem hlt⟩
          obtain ⟨a, c, hc, hnz⟩ := hps.out.off (w' := wr) hpp.out ⟨HO.out.os, HO.out.tape, HO.out.output, HO.out.size, HO.out.block⟩ hz
          obtain rfl := flat_nil hN.out hz
          clear hnz
          go_wp2_with (refine wpList_copy_nothing rfl (.tmp 50) (.tmp 51) 22 22 rfl 5 Try.underlying22 hsz1 _ _ _ _ _ _ rfl rfl (by simp) ?_)
          go_roundw
          case rel => exact ⟨_, _, .int .i64 (k + 1 : Nat), ⟨k + 1, by omega, rfl, rfl⟩, rfl, rfl, by go_num⟩
          case measure => simp [intOf]; omega
        · go_wp2
          go_ret
          exact wrote_some HST.out (by rw [hN.out]; exact hno)

set_option maxHeartbeats 1000000 in
theorem write_some (b g pb po pc N : Nat) (room : Int) (L : List Int) (ps : List (List Int)) (w : World) (h : PenAt w b g room L false) (h0 : 0 ≤ room) (h1 : room ≤ 9223372036854775807) (hN : Hid (ps.flatten.length = N)) (hl : L.length + N ≤ 1000000000) (hpl : ps.length ≤ 1000000000)
    (hps : Hid (Parts w b g pb po ps)) (hpp : Hid (¬ penS b g pb)) (hpb : pb < w.heap.size) (hn0 : 0 < N) (hno : (L.length : Int) + N ≤ room) :
    Calls Try.prog 55 #[.pointer (some ⟨b, 0, none⟩), .slice (some ⟨pb, po, none⟩) ps.length pc] w fun e w' => WroteR b g room L false ps.flatten w e w' := by
  have HC := err_any b g room L false w h
  have HL := left_any b g room L false w h h0 h1 (by omega)
  have HA : ∀ n : Nat, Calls Try.prog 63 #[.pointer (some ⟨b, 0, none⟩), .int .i64 N] (w.drewN n) fun e w' => PartR b g room L false N (w.drewN n) e w' := fun n => part_any b g _ room L false _ (h.below (below_drewN (Below.refl _ _) n)) hl
  clear h
  have hsz1 : (Try.prog.info? 5).map (·.size) = some 1 := by kernel_rfl
  go_enter Try.func55, Try.ntmps55
  go_wp2_with (go_at_call 33; refine HC.mono ?_; rintro e w2 ⟨rfl, rfl⟩)
  go_loopw [6, 19] (fun s i wr => ∃ k : Nat, k ≤ ps.length ∧ i = .int .i64 k ∧ s = .int .i64 (flen ps k) ∧ wr = w) (fun _ i _ => ps.length - (intOf i).toNat)
  case atStart => exact ⟨0, by omega, rfl, rfl, rfl⟩
  case round =>
    obtain ⟨k, hk, rfl, rfl, rfl⟩ := hrel
    have hfl := flen_le ps k
    rw [hN.out] at hfl
    by_cases hlt : k < ps.length
    · obtain ⟨z, hz⟩ : ∃ z, ps[k]? = some z := ⟨_, List.getElem?_eq_getElem hlt⟩
      obtain ⟨a, c, hc, _, _⟩ := hps.out k z hz
      have HZ := Lib.hid (flen_more hz)
      have hfl2 := flen_le ps (k + 1)
      rw [hN.out] at hfl2
      have hzl : flen ps k + z.length ≤ 1000000000 := by have := HZ.out; omega
      clear hz hfl2
      go_wp2
      go_roundw
      case rel => exact ⟨k + 1, by omega, by go_num, by rw [HZ.out]; go_num, trivial⟩
      case measure => simp [intOf]; omega
    · have HF : flen ps k = N := (flen_all ps (k := k) (by omega)).trans hN.out
      have hgt : (N : Int) ≤ room - (L.length : Int) := by omega
      go_wp2_with (first
        | (go_at_call 62; refine HL.mono ?_; rintro e w2 ⟨rfl, n, rfl⟩)
        | (go_at_call 63; refine (HA _).mono ?_; rintro e w3 ⟨A, cap, cur, P, rfl, hb3, hk3, hc3, ht3, hO3, hP3⟩))
      obtain ⟨g', hst⟩ := WSt.start (w := wr) hN.out hb3 hk3 hc3 ht3 hO3 hn0 hP3
      have HST := Lib.hid hst
      clear hst hP3 hO3 ht3 hk3 hb3 HA HL HC
      go_loopw [9, 45] (fun t i wx => ∃ (k : Nat) (P : Option Addr), k ≤ ps.length ∧ i = .int .i64 k ∧ t = .slice P (N - flen ps k : Nat) (N - flen ps k : Nat) ∧ Hid (WSt b g room L g' cap ps k P wr wx)) (fun _ i _ => ps.length - (intOf i).toNat)
      case atStart => exact ⟨0, P, by omega, rfl, by rw [flen_zero, Nat.sub_zero], HST⟩
      case round =>
        obtain ⟨k, P, hk, rfl, rfl, HW⟩ := hrel
        have hfl := flen_le ps k
        rw [hN.out] at hfl
        by_cases hlt : k < ps.length
        · obtain ⟨z, hz⟩ : ∃ z, ps[k]? = some z := ⟨_, List.getElem?_eq_getElem hlt⟩
          obtain ⟨a, c, hc, hnz⟩ := hps.out.off hpp.out HW.out.frame hz
          have HZ := Lib.hid (flen_more hz)
          have hfl2 := flen_le ps (k + 1)
          rw [hN.out] at hfl2
          have hzl : flen ps k + z.length ≤ N := by have := HZ.out; omega
          have HG := Lib.hid hz
          clear hz hfl2
          by_cases h0 : z = []
          · subst h0
            go_wp2_with (refine wpList_copy_nothing rfl (.tmp 50) (.tmp 51) 22 22 rfl 5 Try.underlying22 hsz1 _ _ _ _ _ _ rfl rfl (by simp) ?_)
            go_roundw
            case rel => exact ⟨k + 1, P, by omega, by go_num, by rw [HZ.out]; rfl, HW.out.empty HG.out rfl (fun _ => rfl)⟩
            case measure => simp [intOf]; omega
          · have hz0 : 0 < z.length := by
              rcases Nat.eq_zero_or_pos z.length with h | h
              · exact absurd (List.eq_nil_of_length_eq_zero h) h0
              · exact h
            obtain ⟨b1, o1, rfl, hb1, hcn⟩ := hnz h0
            have HCN := Lib.hid hcn
            obtain rfl := HW.out.addr (by rw [hN.out]; omega)
            obtain ⟨cur, hg, hfit, hst⟩ := HW.out.copied HG.out (P' := if N - flen ps k = z.length then some ⟨g', L.length + flen ps k, none⟩ else some ⟨g', L.length + flen ps k + z.length, none⟩) (fun h => by rw [hN.out] at h; rw [if_neg (by omega), Option.map_some, Addr.add_lit])
            have HST2 := Lib.hid hst
            clear hnz hcn hst
            go_wp2_with (refine wpList_copy_own rfl (.tmp 50) (.tmp 51) 22 22 rfl 5 Try.underlying22 hsz1 g' (L.length + flen ps k) _ _ ⟨b1, o1, none⟩ _ _ rfl rfl (cur.map (Value.int .u8)).toArray 5 hg (z.map (Value.int .u8)) ?c1 ?c2 ?c3 ?c4 ?_)
            case c1 => rw [List.length_map]; show _ = min _ _; omega
            case c2 =>
              intro j v hj
              rw [List.getElem?_map] at hj
              obtain ⟨x, hx, rfl⟩ := Option.map_eq_some_iff.1 hj
              rw [Addr.add_lit]
              exact HCN.out j x hx
            case c3 => simpa using hfit
            case c4 => intro v hv; obtain ⟨x, _, rfl⟩ := List.mem_map.1 hv; rfl
            go_roundw
            case rel => exact ⟨k + 1, _, by omega, by go_num, by rw [HZ.out, Nat.sub_add_eq], HST2⟩
            case measure => simp [intOf]; omega
        · go_wp2
          go_ret
          exact wrote_some ⟨g', HW.out.pen (by omega)⟩ (by rw [hN.out]; exact hno)
/-- write, whatever the pen -/
theorem write_any (b g pb po pc N : Nat) (room : Int) (L : List Int) (full : Bool) (ps : List (List Int)) (w : World) (h : PenAt w b g room L full) (h0 : 0 ≤ room) (h1 : room ≤ 9223372036854775807) (hN : ps.flatten.length = N) (hl : L.length + N ≤ 1000000000) (hpl : ps.length ≤ 1000000000)
    (hps : Parts w b g pb po ps) (hpp : ¬ penS b g pb) (hpb : pb < w.heap.size) :
    Calls Try.prog 55 #[.pointer (some ⟨b, 0, none⟩), .slice (some ⟨pb, po, none⟩) ps.length pc] w fun e w' => WroteR b g room L full ps.flatten w e w' := by
  cases full with
  | true => exact write_full b g room L _ _ w h
  | false =>
    by_cases hno : (L.length : Int) + N ≤ room
    · by_cases hz : N = 0
      · exact write_zero b g pb po pc N room L ps w h h0 h1 hN hl hpl hps hpp hpb hz hno
      · exact write_some b g pb po pc N room L ps w h h0 h1 hN hl hpl hps hpp hpb (by omega) hno
    · exact write_none b g pb po pc N room L ps w h h0 h1 hN hl hpl hps (by omega)
end Go.Proofs.Ytmilcmgohlfpiaa
