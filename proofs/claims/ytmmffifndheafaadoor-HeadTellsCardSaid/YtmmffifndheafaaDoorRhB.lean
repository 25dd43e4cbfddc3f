/-
  Contract of the document's Bytes of layer 7.
-/
import Derived.Test.YtmmffifndheafaaDoorHdB
import Derived.Test.YtmmffifndheafaaDoorWrd
import Derived.Test.YtmmffifndheafaaDoorQ6
import Derived.Test.YtmmffifndheafaaDoorApN
import Derived.ArgAppend
namespace Go.Proofs.YtmmffifndheafaaDoor
open Go.RowKit
set_option maxRecDepth 100000

theorem exec_append {P : Program} {w w' : World} {o : Oper} {b : Act} {v1 v2 v' : Value} (s x : Operand) (t : TypeId) (hop : o.op = Op.call { callee := Callee.builtin Builtin.append, args := #[s, x], argTypes := #[t, t] })
    (hs : b.eval s = v1) (hx : b.eval x = v2) (hrun : (Builtin.append_ #[t, t] o.type #[v1, v2]).run P w = .ok v' w') : (execOp b.eval o).run P w = .ok (.value v') w' := by
  simp [execOp, hop, resolve, invoke, builtin, hs, hx, hrun, Result.andThen]
theorem owns_below {w w' : World} {base e n : Nat} {v : Value} {xs : List Value} (h : w.ownsRow base e 1 v n xs) (hb : Below w.heap.size w w') : w'.ownsRow base e 1 v n xs :=
  ⟨h.1, h.2.imp id fun ⟨g, cap, cur, hv, hg, hh, r⟩ => ⟨g, cap, cur, hv, hg, (hb.block g (Array.getElem?_eq_some_iff.1 hh).1).trans hh, r⟩⟩

/-- what the slots hold whose values are known by what they are good for -/
def FRb (B : Nat) (v k s : Int) (q : Tmp) (x : Value) (W : World) : Prop :=
  if q = 10 then ∃ g, x = .slice (some ⟨g, 0, none⟩) 2 2 ∧ W.heap[g]? = some (.cells #[.int .u8 v, .int .u8 k] 5 (0, 0))
  else if q = 13 then ∃ A c, x = .slice A 4 c ∧ Nums .u8 W W.heap.size A (wordL s 4)
  else W.ownsRow B 5 1 x 6 (([v, k] ++ wordL s 4).map (Value.int .u8))
theorem FRb.later {B : Nat} {v k s : Int} {q : Tmp} {x : Value} {W W' : World} (h : FRb B v k s q x W) (hb : Below W.heap.size W W') : FRb B v k s q x W' := by
  unfold FRb at *
  split
  · rename_i h1
    rw [if_pos h1] at h
    obtain ⟨g, e, hg⟩ := h
    exact ⟨g, e, (hb.block g (Array.getElem?_eq_some_iff.1 hg).1).trans hg⟩
  · rename_i h1
    rw [if_neg h1] at h
    split
    · rename_i h2
      rw [if_pos h2] at h
      obtain ⟨A, c, e, hn⟩ := h
      exact ⟨A, c, e, (hn.below hb).mono hb.size⟩
    · rename_i h2
      rw [if_neg h2] at h
      exact owns_below h hb

set_option maxHeartbeats 4000000 in
theorem rbytes_any (v k s i c : Int) (hv : 0 ≤ v ∧ v ≤ 255) (hk : 0 ≤ k ∧ k ≤ 255) (hi : 0 ≤ i ∧ i ≤ 255) (hc : 0 ≤ c ∧ c ≤ 255) (hs : 0 ≤ s ∧ s ≤ 4294967295) (w : World) :
    Calls Tryd.prog 14 #[hdV v k s i c] w fun e w' => ∃ x, e = .returned x ∧ MadeK 5 .u8 w w' (hdB v k s i c) x := by
  unfold hdV
  obtain ⟨i0, hi0, hz0, hz1, hz2⟩ := info_parts byteInfo
  obtain ⟨w0, hw0⟩ : ∃ w0, w.alloc (.cells #[.int .i64 v, .int .i64 k, .int .u32 s, .int .i64 i, .int .i64 c] 30) = w0 := ⟨_, rfl⟩
  have hs0 : w0.heap.size = w.heap.size + 1 := by rw [← hw0]; simp
  have hb0 : Below w.heap.size w w0 := by rw [← hw0]; exact (Below.refl _ w).alloc (Nat.le_refl _) _
  have hd : ∀ W, Below w0.heap.size w0 W → W.cell? ⟨w.heap.size, 0, none⟩ = some (.int .i64 v) ∧ W.cell? ⟨w.heap.size, 1, none⟩ = some (.int .i64 k) ∧ W.cell? ⟨w.heap.size, 2, none⟩ = some (.int .u32 s) ∧ W.cell? ⟨w.heap.size, 3, none⟩ = some (.int .i64 i) ∧ W.cell? ⟨w.heap.size, 4, none⟩ = some (.int .i64 c) := fun W hW => by
    rw [← hw0] at hW; exact hd_cells hW
  have HW := Lib.hid hw0
  clear hw0
  go_enter Tryd.func14, Tryd.ntmps14
  go_wp2_with fail
  rw [HW.out]
  refine wp_region_F 24 [10, 13, 14, 3] (FRb w0.heap.size v k s) (fun W => Below w0.heap.size w0 W) (by kernel_rfl) (by kernel_rfl) (by rfl) (by simp) (fun W W' h hb => h.trans (hb.mono h.size)) (fun q x W W' h hb => h.later hb) (Below.refl _ _).drew ?_
  refine wpF_pure rfl rfl ?_; go_big_quiet_step (fail); refine wpQuiet_nil ?_
  refine wpF_load (.int .i64 v) rfl (by rfl) (by rfl) (by rfl) (fun W hW => by have := (hd W hW).1; simp [Instr.loadAt, go_sem, this]) ?_
  simp only [Act.put, List.setIfInBounds_toArray, List.set_cons_succ, List.set_cons_zero]
  refine wpF_pure rfl rfl ?_; go_big_quiet_step (fail); refine wpQuiet_nil ?_
  refine wpF_pure rfl rfl ?_; go_big_quiet_step (fail); refine wpQuiet_nil ?_
  refine wpF_load (.int .i64 k) rfl (by rfl) (by rfl) (by rfl) (fun W hW => by have := (hd W hW).2.1; simp [Instr.loadAt, go_sem, this]) ?_
  simp only [Act.put, List.setIfInBounds_toArray, List.set_cons_succ, List.set_cons_zero]
  refine wpF_pure rfl rfl ?_; go_big_quiet_step (fail); refine wpQuiet_nil ?_
  refine wpF_src 10 (by simp) rfl rfl rfl (fun W hW => ⟨.slice (some ⟨W.heap.size, 0, none⟩) 2 2, W.alloc (.cells #[.int .u8 v, .int .u8 k] 5), ?_, ?_, (Below.refl _ _).alloc (Nat.le_refl _) _⟩) ?_
  · simp [go_sem]
  · unfold FRb; rw [if_pos rfl]; exact ⟨_, rfl, World.alloc_heap_new _ _⟩
  simp only [Act.put, List.setIfInBounds_toArray, List.set_cons_succ, List.set_cons_zero]
  refine wpF_pure rfl rfl ?_; go_big_quiet_step (fail); refine wpQuiet_nil ?_
  refine wpF_load (.int .u32 s) rfl (by rfl) (by rfl) (by rfl) (fun W hW => by have := (hd W hW).2.2.1; simp [Instr.loadAt, go_sem, this]) ?_
  simp only [Act.put, List.setIfInBounds_toArray, List.set_cons_succ, List.set_cons_zero]
  refine wpF_callsrc 13 (f := 25) (args := #[.int .u32 s, .int .i64 4]) (by simp) rfl rfl rfl (fun x => by first | rfl | (simp [go_sem]; done)) (fun W hW => (word_any s 4 W hs.1 hs.2 (by omega)).mono fun e W' ⟨x, he, hm⟩ => ?_) ?_
  · obtain ⟨A, cc, rfl, _, hn⟩ := MadeK.slice hm
    exact ⟨_, he, by unfold FRb; rw [if_neg (by decide), if_pos rfl]; exact ⟨A, cc, rfl, hn⟩, hm.2⟩
  simp only [Act.put, List.setIfInBounds_toArray, List.set_cons_succ, List.set_cons_zero]
  refine wpF_mix 14 [10, 13] (by simp) rfl (by kernel_rfl) (by kernel_rfl) (fun xs => by rfl) (fun xs W hW hx => ?_) ?_
  · have h10 := hx 10 (by simp)
    have h13 := hx 13 (by simp)
    unfold FRb at h10 h13
    rw [if_pos rfl] at h10
    rw [if_neg (by decide), if_pos rfl] at h13
    obtain ⟨g, e10, hg⟩ := h10
    obtain ⟨A, cc, e13, hn⟩ := h13
    obtain ⟨b1, o1, rfl, hb1, hcl⟩ := hn (by simp [wordL])
    obtain ⟨x', w', hrun, hown, hgr⟩ := run_append_arg_grows (P := Tryd.prog) (w := W) 25 25 5 i0 (.int .u8 0) 1 1 Tryd.underlying25 hi0 hz0 hz1 hz2 rfl (by decide)
      ⟨g, 0, none⟩ 2 2 [.int .u8 v, .int .u8 k] (by rfl) (fun j u hj => by rw [Addr.add_lit, Nat.zero_add]; simp [World.cell?, hg, ← hj]) ⟨b1, o1, none⟩ 4 cc ((wordL s 4).map (Value.int .u8)) (by rfl)
      (fun j u hj => by
        rw [List.getElem?_map] at hj
        obtain ⟨y, hy, rfl⟩ := Option.map_eq_some_iff.1 hj
        rw [Addr.add_lit]
        exact hcl j y hy) (by decide) (by decide) (by decide)
    refine ⟨x', w', ?_, ?_, ⟨hgr.os, hgr.tape, hgr.output, hgr.size, fun q hq => hgr.block q hq (by simp)⟩⟩
    · refine exec_append (.tmp 10) (.tmp 13) 25 rfl (by simp [fill, Act.put, Act.eval, e10]) (by simp [fill, Act.put, Act.eval, e13]) hrun
    · unfold FRb
      rw [if_neg (by decide), if_neg (by decide)]
      exact ⟨hown.1, hown.2.imp id fun ⟨g, cap, cur, hv, hg, r⟩ => ⟨g, cap, cur, hv, Nat.le_trans hW.size hg, r⟩⟩
  simp only [Act.put, List.setIfInBounds_toArray, List.set_cons_succ, List.set_cons_zero]
  refine wpF_mix 3 [14] (by simp) rfl (by kernel_rfl) (by kernel_rfl) (fun xs => by rfl) (fun xs W hW hx => ⟨xs 14, W, ?_, ?_, Below.refl _ _⟩) ?_
  · simp [execOp, fill, Act.put, Act.eval, go_sem]
  · have := hx 14 (by simp)
    unfold FRb at this ⊢
    simpa using this
  simp only [Act.put, List.setIfInBounds_toArray, List.set_cons_succ, List.set_cons_zero]
  intro xs W hW hx
  have h3 := hx 3 (by simp)
  unfold FRb at h3
  rw [if_neg (by decide), if_neg (by decide)] at h3
  simp only [fill, Act.put, List.setIfInBounds_toArray, List.set_cons_succ, List.set_cons_zero]
  obtain ⟨d0, d1, d2, d3, d4⟩ := hd W hW
  obtain ⟨L, hL⟩ : ∃ L, [v, k] ++ wordL s 4 = L := ⟨_, rfl⟩
  have hlen : L.length = 6 := by rw [← hL]; rfl
  rw [hL] at h3
  have HM : Hid (MadeK 5 .u8 w0 W L (xs 3)) := ⟨by rw [hlen]; exact h3, hW⟩
  have hfin : L ++ [i, c] = hdB v k s i c := by
    rw [← hL]
    simp only [wordL, hdB, List.cons_append, List.nil_append, List.cons.injEq, and_true, true_and]
    omega
  have HL := Lib.hid hlen
  have HF := Lib.hid hfin
  clear hL hlen h3 hx hfin
  generalize xs 3 = x3 at *
  generalize xs 10 = x10
  generalize xs 13 = x13
  generalize xs 14 = x14
  have HZ := Lib.hid (Nums.new .u8 W 5 [i, c] #[.int .u8 i, .int .u8 c] rfl)
  have HX1 : Hid (L.length + 2 ≤ maxLen) := by show _ ≤ _; unfold maxLen; rw [HL.out]; omega
  have HX2 : Hid ((L.length + 2) * 1 ≤ 140737488355328) := by show _ ≤ _; rw [HL.out]; omega
  have HX3 : Hid (w0.heap.size ≤ (W.alloc (.cells #[.int .u8 i, .int .u8 c] 5)).heap.size) := by show _ ≤ _; have := hW.size; rw [World.size_alloc]; omega
  have HB := Lib.hid hb0
  clear hb0 hW hs0 hd
  go_wp2_with (at_builtin; refine wpList_append_any rfl (.tmp 15) (.tmp 22) 25 rfl w0.heap.size 5 i0 (.int .u8 0) 1 Tryd.underlying25 hi0 hz0 hz1 hz2 rfl .u8 L [i, c] _ rfl (HM.out.1.alloc _) _ 2 2 _ rfl rfl HZ.out HX1.out HX2.out HX3.out ?_)
  intro v4 w4 hown hg
  have hm4 := (HM.out.later (.cells #[.int .u8 i, .int .u8 c] 5)).more (zs := [i, c]) (v' := v4) (by simpa using hown) hg
  rw [HF.out] at hm4
  have HM4 := Lib.hid (MadeK.since hm4 HB.out)
  clear hown hg hm4 HM HZ HX1 HX2 HX3
  go_wp2
  go_ret
  exact ⟨_, rfl, HM4.out⟩
end Go.Proofs.YtmmffifndheafaaDoor
