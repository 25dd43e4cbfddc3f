/-
  whatever a joiner is asked, each answer, its window and its slots are the document's
-/
import Derived.Test.YtfdbcfkjablnkaaGreatRows
import Derived.WalkKit
import Derived.ProofKit
import Derived.OpenShut
import Derived.Deep.Fields
import Derived.Deep.Slices
import Derived.ChangeSame
import Derived.Below
import Derived.ShutString
import Derived.ChangeOld
import Derived.Test.YtfdbcfkjablnkaaGreatMPPlaysProof7
namespace Go.Proofs.YtfdbcfkjablnkaaGreat
open Go.RowKit Go.Shelf
set_option maxRecDepth 100000
attribute [local go_sem] Oper.semAt_some

theorem ds_nums (L : List Ds) : Tb.nums (L.map Ds.ms) = L.map Ds.s := by
  unfold Tb.nums
  rw [List.map_map]
  rfl
/-- the law's two variables: how far it is, in box bi; whether all is right, in box bi + 1 -/
structure AlS (w4 : World) (bi : Nat) (i : Nat) (V : World) : Prop where
  at' : Boxed V bi 3 (.int .i64 (i : Int))
  ok : Boxed V (bi + 1) 4 (.bool true)
  off : Off (fun k => k = bi ∨ k = bi + 1) w4 V
theorem AlS.below {w4 V V' : World} {bi i : Nat} (h : AlS w4 bi i V) (hb : bi + 1 < w4.heap.size) (hB : Below w4.heap.size V V') : AlS w4 bi i V' :=
  ⟨(hB.block bi (by omega)).trans h.at', (hB.block (bi + 1) hb).trans h.ok, off_below h.off hB⟩
theorem boxed_not {w : World} {q : Nat} {t t' : TypeId} {v : Value} {cs : Array Value} (h : Boxed w q t v) (h1 : w.heap[q]? = some (.cells cs t' (0, 0))) (hne : t ≠ t') : False := by
  have h2 := (show w.heap[q]? = _ from h).symm.trans h1
  injection h2 with h2
  injection h2 with _ h2 _
  exact hne h2
set_option maxHeartbeats 8000000 in
theorem talike_any {w : World} {S : Nat → Prop} {b r m n cp : Nat} {A : Option Addr} {X : List Sx} (h : TblAt w S b r m A n cp X) {A2 : Option Addr} {n2 cp2 : Nat} {L : List Ds} (hd : DocAt w A2 n2 cp2 L) (hl : Tb.Likes (L.map Ds.ms) (X.map Sx.ms)) :
    Calls Tryz.prog 33 #[.pointer (some ⟨b, 0, none⟩), docV r A2 n2 cp2] w fun e w' => e = .returned (.bool true) ∧ Below w.heap.size w w' := by
  have hnn : n2 = n := by
    have h1 := hl.len
    rw [List.length_map, List.length_map, h.len, hd.len] at h1
    exact h1.symm
  subst hnn
  have hq16 : n2 ≤ 16 := by have := h.few; have := h.room; omega
  obtain ⟨w1, hw1⟩ : ∃ w1, w.alloc (.cells #[.int .i64 (r : Int), .slice A2 n2 cp2] 34) = w1 := ⟨_, rfl⟩
  obtain ⟨hb1, hs1, hx1⟩ := doc_box hw1
  have HW1 := Lib.hid hw1
  have hXs : L.map Ds.s = X.map Sx.s := by rw [← ds_nums, ← nums_ms, hl.nums]
  have hheld : Tb.held (L.map Ds.ms) = Tb.held (X.map Sx.ms) := hl.held.symm
  have hXl := h.len
  have hLl := hd.len
  have HX : Hid (∀ W, Below w1.heap.size w1 W → TblAt W S b r m A n2 cp X ∧ DocAt W A2 n2 cp2 L ∧ W.heap[w.heap.size]? = some (.cells #[.int .i64 (r : Int), .slice A2 n2 cp2] 34 (0, 0))) :=
    Lib.hid fun W hW => ⟨(h.below hb1).below hW, (hd.below hb1).below hW, (hW.block _ (by omega)).trans hx1⟩
  have HL := Lib.hid hl
  have HXL := Lib.hid hXl
  have HLL := Lib.hid hLl
  have HB1 := Lib.hid hb1
  have HS1 := Lib.hid hs1
  have LT : ∀ V, Below w1.heap.size w1 V → (Instr.loadAt 34 (.pointer (some ⟨w.heap.size, 0, none⟩))).run Tryz.prog V = .ok (docV r A2 n2 cp2) V := fun V hV => by
    obtain ⟨k0, k1⟩ := doc_cells (HX.out V hV).2.2
    simp [Instr.loadAt, docV, go_sem, k0, k1]
  have LL : ∀ V, Below w1.heap.size w1 V → (Instr.loadAt 32 (.pointer (some ⟨w.heap.size, 1, none⟩))).run Tryz.prog V = .ok (.slice A2 n2 cp2) V := fun V hV => by
    obtain ⟨k0, k1⟩ := doc_cells (HX.out V hV).2.2
    simp [Instr.loadAt, go_sem, k1]
  have LR : ∀ V, Below w1.heap.size w1 V → (Instr.loadAt 3 (.pointer (some ⟨w.heap.size, 0, none⟩))).run Tryz.prog V = .ok (.int .i64 (r : Int)) V := fun V hV => by
    obtain ⟨k0, k1⟩ := doc_cells (HX.out V hV).2.2
    simp [Instr.loadAt, go_sem, k0]
  have KS1 : Hid (∀ V, Below w1.heap.size w1 V → Calls Tryz.prog 64 #[.pointer (some ⟨b, 0, none⟩)] V fun e w'' => ∃ u, e = .returned u ∧ (∃ A3 c3, u = .slice A3 n2 c3 ∧ Nums .u32 w'' w''.heap.size A3 (X.map Sx.s)) ∧ Below V.heap.size V w'') := Lib.hid fun V hV => (tseqs_any (HX.out V hV).1).mono fun e w'' ⟨u, he, hm⟩ => by
    obtain ⟨A3, c3, hu, _, hnn⟩ := hm.slice
    rw [List.length_map, HXL.out] at hu
    exact ⟨u, he, ⟨A3, c3, hu, hnn⟩, hm.2⟩
  have KS2 : Hid (∀ V, Below w1.heap.size w1 V → Calls Tryz.prog 42 #[docV r A2 n2 cp2] V fun e w'' => ∃ u, e = .returned u ∧ (∃ A3 c3, u = .slice A3 n2 c3 ∧ Nums .u32 w'' w''.heap.size A3 (X.map Sx.s)) ∧ Below V.heap.size V w'') := Lib.hid fun V hV => (dseqs_any (HX.out V hV).2.1 r).mono fun e w'' ⟨u, he, hm⟩ => by
    rw [hXs] at hm
    obtain ⟨A3, c3, hu, _, hnn⟩ := hm.slice
    rw [List.length_map, HXL.out] at hu
    exact ⟨u, he, ⟨A3, c3, hu, hnn⟩, hm.2⟩
  obtain ⟨H, hH⟩ : ∃ H, Tb.held (X.map Sx.ms) = H := ⟨_, rfl⟩
  have KH1 : Hid (∀ V, Below w1.heap.size w1 V → Calls Tryz.prog 65 #[.pointer (some ⟨b, 0, none⟩)] V fun e w'' => e = .returned (.int .i64 (H : Int)) ∧ Below V.heap.size V w'') := Lib.hid fun V hV => by
    have := theld_any (HX.out V hV).1
    rwa [hH] at this
  have KH2 : Hid (∀ V, Below w1.heap.size w1 V → Calls Tryz.prog 35 #[docV r A2 n2 cp2] V fun e w'' => e = .returned (.int .i64 (H : Int)) ∧ Below V.heap.size V w'') := Lib.hid fun V hV => by
    have := dheld_any (HX.out V hV).2.1 r
    rwa [hheld, hH] at this
  have KLN : Hid (∀ V, Below w1.heap.size w1 V → Calls Tryz.prog 66 #[.pointer (some ⟨b, 0, none⟩)] V fun e w'' => e = .returned (.int .i64 (n2 : Int)) ∧ Below V.heap.size V w'') := Lib.hid fun V hV => (tlen_any (HX.out V hV).1).mono fun e w'' ⟨he, hw⟩ => ⟨he, by rw [hw]; exact Below.refl _ _⟩
  have KRM : Hid (∀ V, Below w1.heap.size w1 V → Calls Tryz.prog 67 #[.pointer (some ⟨b, 0, none⟩)] V fun e w'' => e = .returned (.int .i64 (r : Int)) ∧ Below V.heap.size V w'') := Lib.hid fun V hV => (troom_any (HX.out V hV).1).mono fun e w'' ⟨he, hw⟩ => ⟨he, by rw [hw]; exact Below.refl _ _⟩
  have KSS : Hid (∀ x y V, (∃ A3 c3, x = .slice A3 n2 c3 ∧ Nums .u32 V V.heap.size A3 (X.map Sx.s)) → (∃ A3 c3, y = .slice A3 n2 c3 ∧ Nums .u32 V V.heap.size A3 (X.map Sx.s)) → Calls Tryz.prog 63 #[x, y] V fun e w'' => e = .returned (.bool true) ∧ Below V.heap.size V w'') := Lib.hid fun x y V ⟨A3, c3, hx, hnx⟩ ⟨A4, c4, hy, hny⟩ => by
    subst hx hy
    exact (tseqsame_any A3 A4 n2 c3 c4 (X.map Sx.s) V V.heap.size (by rw [List.length_map]; exact HXL.out) (by omega) hnx hny).mono fun e w'' ⟨he, d, hw⟩ => ⟨he, by rw [hw]; exact below_drewN (Below.refl _ _) d⟩
  clear hXs hheld hXl hLl hl h hd hw1 hx1 hb1 hs1 hH
  unfold docV at *
  refine (callsIn_wide (n := 7)).1 ?_
  refine callsIn_of_wp_marks Tryz.func33 rfl trivial ?_ rfl
  simp only [Tryz.ntmps33, List.size_toArray, List.length_cons, List.length_nil, Nat.reduceAdd, Nat.reduceSub, Array.replicate_succ, Array.replicate_zero, List.push_toArray, List.append_toArray, List.nil_append, List.cons_append]
  gi_wp2_with fail
  rw [HW1.out]
  refine wpIn_wide.2 ?_
  refine wp_region_F 83 [11, 13, 14] (fun q x V => if q = 14 then x = .bool true else ∃ A3 c3, x = .slice A3 n2 c3 ∧ Nums .u32 V V.heap.size A3 (X.map Sx.s)) (fun V => Below w1.heap.size w1 V) (by kernel_rfl) (by kernel_rfl) (by rfl) (by simp) (fun W W' h hb => h.trans (hb.mono h.size)) (fun q x W W' hq hb => by
    by_cases e : q = 14
    · simpa [e] using hq
    · simp only [e, if_false] at hq ⊢
      obtain ⟨A3, c3, h1, h2⟩ := hq
      exact ⟨A3, c3, h1, (h2.below hb).mono hb.size⟩) (Below.refl _ _).drew ?_
  repeat (refine wpF_pure rfl rfl ?_; go_big_quiet_step (fail); refine wpQuiet_nil ?_)
  refine wpF_callsrc 11 (f := 64) (args := #[.pointer (some ⟨b, 0, none⟩)]) (by simp) rfl rfl rfl (fun x => by first | rfl | (simp [go_sem]; done)) KS1.out ?_
  simp only [Act.put, List.setIfInBounds_toArray, List.set_cons_succ, List.set_cons_zero]
  refine wpF_load _ rfl (by rfl) (by rfl) (by rfl) LT ?_
  simp only [Act.put, List.setIfInBounds_toArray, List.set_cons_succ, List.set_cons_zero]
  refine wpF_callsrc 13 (f := 42) (args := #[.agg #[.int .i64 (r : Int), .slice A2 n2 cp2]]) (by simp) rfl rfl rfl (fun x => by first | rfl | (simp [go_sem]; done)) KS2.out ?_
  simp only [Act.put, List.setIfInBounds_toArray, List.set_cons_succ, List.set_cons_zero]
  refine wpF_mixcall 14 [11, 13] (f := 63) (fun xs => #[xs 11, xs 13]) (by simp) rfl (by kernel_rfl) (by kernel_rfl) (fun xs => by rfl) (fun xs W => by first | rfl | (simp [fill, Act.put, Act.eval, go_sem]; done)) (fun xs W hW hx => ?_) ?_
  · exact (KSS.out (xs 11) (xs 13) W (by simpa using hx 11 (by simp)) (by simpa using hx 13 (by simp))).mono fun e w'' ⟨he, hb⟩ => ⟨_, he, by simp, hb⟩
  simp only [Act.put, List.setIfInBounds_toArray, List.set_cons_succ, List.set_cons_zero]
  refine wpF_useval 14 4 (.bool false) (by simp) (by rfl) (by kernel_rfl) (by kernel_rfl) (by rfl) (fun x => by rfl) (fun x W hW hx => ?_) ?_
  · have hx' : x = .bool true := by simpa using hx
    subst hx'
    first | rfl | simp [execOp, Act.put, Act.eval, go_sem]
  simp only [Act.put, List.setIfInBounds_toArray, List.set_cons_succ, List.set_cons_zero]
  repeat (refine wpF_pure rfl rfl ?_; go_big_quiet_step (fail); refine wpQuiet_nil ?_)
  refine wpF_call (f := 65) (args := #[.pointer (some ⟨b, 0, none⟩)]) (.int .i64 (H : Int)) rfl rfl (fun x => by first | rfl | (simp [go_sem]; done)) KH1.out ?_
  simp only [Act.put, List.setIfInBounds_toArray, List.set_cons_succ, List.set_cons_zero]
  refine wpF_load _ rfl (by rfl) (by rfl) (by rfl) LT ?_
  simp only [Act.put, List.setIfInBounds_toArray, List.set_cons_succ, List.set_cons_zero]
  refine wpF_call (f := 35) (args := #[.agg #[.int .i64 (r : Int), .slice A2 n2 cp2]]) (.int .i64 (H : Int)) rfl rfl (fun x => by first | rfl | (simp [go_sem]; done)) KH2.out ?_
  simp only [Act.put, List.setIfInBounds_toArray, List.set_cons_succ, List.set_cons_zero]
  repeat (refine wpF_pure rfl rfl ?_; go_big_quiet_step (fail); refine wpQuiet_nil ?_)
  refine wpF_call (f := 66) (args := #[.pointer (some ⟨b, 0, none⟩)]) (.int .i64 (n2 : Int)) rfl rfl (fun x => by first | rfl | (simp [go_sem]; done)) KLN.out ?_
  simp only [Act.put, List.setIfInBounds_toArray, List.set_cons_succ, List.set_cons_zero]
  repeat (refine wpF_pure rfl rfl ?_; go_big_quiet_step (fail); refine wpQuiet_nil ?_)
  refine wpF_load _ rfl (by rfl) (by rfl) (by rfl) LL ?_
  simp only [Act.put, List.setIfInBounds_toArray, List.set_cons_succ, List.set_cons_zero]
  repeat (refine wpF_pure rfl rfl ?_; go_big_quiet_step (fail); refine wpQuiet_nil ?_)
  refine wpF_call (f := 67) (args := #[.pointer (some ⟨b, 0, none⟩)]) (.int .i64 (r : Int)) rfl rfl (fun x => by first | rfl | (simp [go_sem]; done)) KRM.out ?_
  simp only [Act.put, List.setIfInBounds_toArray, List.set_cons_succ, List.set_cons_zero]
  repeat (refine wpF_pure rfl rfl ?_; go_big_quiet_step (fail); refine wpQuiet_nil ?_)
  refine wpF_load _ rfl (by rfl) (by rfl) (by rfl) LR ?_
  simp only [Act.put, List.setIfInBounds_toArray, List.set_cons_succ, List.set_cons_zero]
  repeat (refine wpF_pure rfl rfl ?_; go_big_quiet_step (fail); refine wpQuiet_nil ?_)
  intro xs4 w4 hb4 _
  simp only [fill, Act.put, List.setIfInBounds_toArray, List.set_cons_succ, List.set_cons_zero]
  generalize xs4 11 = x11
  generalize xs4 13 = x13
  generalize xs4 14 = x14
  have HB4 := Lib.hid hb4
  obtain ⟨bi, hbi⟩ : ∃ bi, w4.heap.size = bi := ⟨_, rfl⟩
  obtain ⟨w5, hw5⟩ : ∃ w5, (w4.alloc (.cells #[.int .i64 0] 3)).alloc (.cells #[.bool true] 4) = w5 := ⟨_, rfl⟩
  have hb45 : Below w4.heap.size w4 w5 := by rw [← hw5]; exact ((Below.refl _ w4).alloc (Nat.le_refl _) _).alloc (by simp) _
  have hs5 : w5.heap.size = bi + 2 := by rw [← hw5, ← hbi]; simp
  have bI5 : Boxed w5 bi 3 (.int .i64 0) := by rw [← hw5, ← hbi]; exact (Boxed.new w4 _ _).alloc _
  have bO5 : Boxed w5 (bi + 1) 4 (.bool true) := by
    rw [← hw5, ← hbi]
    have := Boxed.new (w4.alloc (.cells #[.int .i64 0] 3)) 4 (.bool true)
    rwa [World.size_alloc] at this
  have hb5 : Below w1.heap.size w1 w5 := hb4.trans (hb45.mono hb4.size)
  have hwbi : w1.heap.size ≤ bi := by rw [← hbi]; exact hb4.size
  have KA := tall_any (HX.out w5 hb5).1
  have HW5 := Lib.hid hw5
  have HBI := Lib.hid hbi
  have HBI5 := Lib.hid bI5
  have HBO5 := Lib.hid bO5
  have HB5 := Lib.hid hb5
  clear hb4 hw5 hb45 hb5 bI5 bO5 hbi LT LR KS1 KS2 KH1 KH2 KLN KRM KSS
  gi_wp2_with fail
  refine ⟨trivial, ?_⟩
  rw [HW5.out, HBI.out]
  refine (callsIn_wide.2 KA).mono ?_
  rintro e w6 ⟨p, c, m', A', cp', X', rfl, hbx, hp, hT6, hlk, hb56⟩
  have hnn := tall_not_nil p w6
  have hs6 := hb56.size
  have hbiw : bi + 1 < w6.heap.size := by omega
  have hA6 : AlS w6 bi 0 w6 := ⟨(hb56.block _ (by omega)).trans HBI5.out, (hb56.block _ (by omega)).trans HBO5.out, Off.refl _ _⟩
  have hb16 := HB5.out.trans (hb56.mono HB5.out.size)
  have hlx := HL.out.trans hlk
  have hxl6 := hT6.len
  have hkeep : ∀ V, Off (fun k => k = bi ∨ k = bi + 1) w6 V → TblAt V (fun q => w5.heap.size ≤ q) c r m' A' n2 cp' X' ∧ Boxed V p 66 (.pointer (some ⟨c, 0, none⟩)) := fun V hV => by
    refine ⟨hT6.off hV (fun q hq hk => by omega) (fun x _ cs h1 hk => ?_) (fun g cs h1 hk => ?_), (hV.block p hbx.lt (by omega)).trans hbx⟩
    · rcases hk with e | e
      · have h2 := hA6.at'
        rw [← e] at h2
        exact boxed_not h2 h1 (by decide)
      · have h2 := hA6.ok
        rw [← e] at h2
        exact boxed_not h2 h1 (by decide)
    · rcases hk with e | e
      · have h2 := hA6.at'
        rw [← e] at h2
        exact boxed_not h2 h1 (by decide)
      · have h2 := hA6.ok
        rw [← e] at h2
        exact boxed_not h2 h1 (by decide)
  have HKP := Lib.hid hkeep
  have HA6 := Lib.hid hA6
  have HB16 := Lib.hid hb16
  have HLX := Lib.hid hlx
  have HX6 := Lib.hid hxl6
  have hpw : p < w6.heap.size := hbx.lt
  clear hkeep hA6 hb16 hlx hxl6 hlk hT6 hbx hb56 hs6 KA hp
  gi_wp2_with fail
  refine range_stopsL rfl (by omega) (gf := 91) (lb := #[.pointer (some ⟨p, 0, none⟩)]) rfl trivial (enters_of Tryz.func91 (by kernel_rfl) rfl)
    (fun x : Sx × Sx => #[Value.int .u32 x.1.s, .pointer (some ⟨x.2.b, 0, none⟩)]) (fun _ => rfl)
    (fun j x V => AlS w6 bi j V ∧ X'[j]? = some x.1 ∧ x.2.At V ∧ Tb.Like x.1.ms x.2.ms)
    (fun j V => AlS w6 bi j V) (fun _ _ => False)
    (fun V V' => ∀ k cs t, w6.heap.size + 2 ≤ k → V.heap[k]? = some (.cells cs t (0, 0)) → V'.heap[k]? = some (.cells cs t (0, 0))) n2
    (fun j x V l o o' h hl ho => ⟨h.1.below hbiw (below_put V o' hl), h.2.1, by
      have hof : Off (fun q => q = l) V (V.putObj l o') := ⟨rfl, rfl, rfl, by simp, fun k _ hk => World.putObj_heap_other hk⟩
      refine ⟨h.2.2.1.off hof (fun cs h1 e => ?_) (fun e => ?_) (fun g cs h1 e => ?_), h.2.2.2⟩
      · rw [e, ho] at h1; injection h1 with h1; cases h1
      · obtain ⟨_, _, h1, _⟩ := SlotAt.map h.2.2.1
        rw [e, ho] at h1; injection h1 with h1; cases h1
      · rw [e, ho] at h1; injection h1 with h1; cases h1⟩)
    (fun j V l o o' h hl ho => h.below hbiw (below_put V o' hl))
    (fun _ _ _ _ _ h _ _ _ => h)
    (fun _ _ _ h k q cs t h1 h2 => k q cs t h1 (h q cs t h1 h2))
    (fun V l o o' hl ho hc q cs t h1 h2 => (World.putObj_heap_other (fun e => by
      rw [e, ho] at h2; injection h2 with h2; rw [h2] at hc; cases hc)).trans h2)
    (fun o => HA6.out.below hbiw (((Below.refl w6.heap.size w6).alloc (Nat.le_refl _) _).alloc (by simp) _)) ?a1 ?assign ?body ?iter ?done ?stop
  case assign =>
    intro l x V K hK
    gi_wp2
    exact hK
  case body =>
    rintro l j ⟨x, y⟩ V hl ⟨hA, hxj, hyat, hlike⟩ hj
    obtain ⟨d, hdj⟩ : ∃ d, L[j]? = some d := ⟨_, List.getElem?_eq_getElem (by rw [HLL.out]; exact hj)⟩
    have hB1V : Below w1.heap.size w1 V := HB16.out.trans (hA.off.below (fun k hk => by omega) HB16.out.size)
    obtain ⟨_, hdoc, hbox⟩ := HX.out V hB1V
    obtain ⟨y', hy', hly⟩ := HLX.out.at (j := j) (x := d.ms) (by rw [List.getElem?_map, hdj]; rfl)
    rw [List.getElem?_map, hxj] at hy'
    injection hy' with hy'
    subst hy'
    have hdy := hly.trans hlike
    have hdat := hdoc.at' d (List.mem_of_getElem? hdj)
    have hdref := hdat.ref
    obtain ⟨e1, e2, e3, e4, hperm⟩ := hdy
    have e5 : x.s = d.s := hly.2.2.1
    obtain ⟨yb, ym, yv, yk, ys, yc, yE⟩ := y
    simp only [Sx.ms, Ds.ms] at e1 e2 e3 e4 hperm e5
    subst e1 e2 e3 e4
    obtain ⟨g, off, rfl, hg, a0, a1, a2, a3, a4, a5⟩ := hdoc.six hdj
    have KA := salike_any hyat hdref hperm.symm
    obtain ⟨k0, k1⟩ := doc_cells hbox
    have kI := hA.at'.cell
    have kO := hA.ok.cell
    have hjn : (j : Int) < (n2 : Int) := by omega
    have hnc : (n2 : Int) ≤ (cp2 : Int) := by have := hdoc.room; omega
    simp only [e5]
    obtain ⟨dv, dk, ds, dc, dA, dn, dcp, dgs⟩ := d
    simp only at *
    have HA := Lib.hid hA
    unfold frV frC at KA
    clear hxj hyat hlike hdj hB1V hdoc hbox hly hdat hdref hperm e5 hA hj hnn
    gi_wp2_with fail
    refine ⟨trivial, ?_⟩
    refine (callsIn_wide.2 KA).mono ?_
    rintro e V2 ⟨rfl, hb2⟩
    have hs2 := hb2.size
    have hAV := HA.out.off.size
    have hA2 := HA.out.below hbiw (hb2.mono hAV)
    have kI := hA2.at'.cell
    have fI := hA2.at'.frozen
    have kO := hA2.ok.cell
    have fO := hA2.ok.frozen
    have hFIN : Hid (KeepsFrom w6.heap.size V ((V2.setCell ⟨bi + 1, 0, none⟩ (.bool true)).setCell ⟨bi, 0, none⟩ (.int .i64 ((j : Int) + 1))) ∧ AlS w6 bi (j + 1) ((V2.setCell ⟨bi + 1, 0, none⟩ (.bool true)).setCell ⟨bi, 0, none⟩ (.int .i64 ((j : Int) + 1))) ∧ ∀ k cs t, w6.heap.size + 2 ≤ k → V.heap[k]? = some (.cells cs t (0, 0)) → ((V2.setCell ⟨bi + 1, 0, none⟩ (.bool true)).setCell ⟨bi, 0, none⟩ (.int .i64 ((j : Int) + 1))).heap[k]? = some (.cells cs t (0, 0))) := Lib.hid (by
      have hof : Off (fun k => k = bi ∨ k = bi + 1) V2 ((V2.setCell ⟨bi + 1, 0, none⟩ (.bool true)).setCell ⟨bi, 0, none⟩ (.int .i64 ((j : Int) + 1))) := ((Off.refl _ V2).setCell (p := ⟨bi + 1, 0, none⟩) (.inr rfl) _).setCell (p := ⟨bi, 0, none⟩) (.inl rfl) _
      have hk : ∀ k (o : Obj), w6.heap.size ≤ k → V.heap[k]? = some o → ((V2.setCell ⟨bi + 1, 0, none⟩ (.bool true)).setCell ⟨bi, 0, none⟩ (.int .i64 ((j : Int) + 1))).heap[k]? = some o := fun k o h1 h2 => by
        have h3 := (Array.getElem?_eq_some_iff.1 h2).1
        exact (hof.block k (by omega) (by omega)).trans ((hb2.block k h3).trans h2)
      refine ⟨⟨Nat.le_trans hs2 hof.size, fun k o h1 h2 _ => hk k o h1 h2⟩, ⟨?_, ?_, ?_⟩, fun k cs t h1 h2 => hk k _ (by omega) h2⟩
      · have := Boxed.set (.int .i64 ((j : Int) + 1)) (hA2.at'.other (show bi ≠ bi + 1 by omega) (.bool true))
        rw [Int.natCast_succ]
        exact this
      · exact (hA2.ok.set _).other (by omega) _
      · exact (hA2.off.setCell (p := ⟨bi + 1, 0, none⟩) (.inr rfl) _).setCell (p := ⟨bi, 0, none⟩) (.inl rfl) _)
    clear hA2 hb2 hs2 hAV KA HA
    gi_wp2
    exact hFIN.out
  case iter =>
    intro Bk Xp l V hBk hBlt hX hl2 hD hB hY
    refine (tall_in 6 (by omega) 5 l p w6.heap.size (some ⟨c, 0, none⟩) X' (fun j V => AlS w6 bi j V) Bk Xp (fun V V' => ∀ k cs t, w6.heap.size + 2 ≤ k → V.heap[k]? = some (.cells cs t (0, 0)) → V'.heap[k]? = some (.cells cs t (0, 0))) hl2 (fun j A B h hb => h.below hbiw hb) (fun j V h x hx => (HKP.out V h.off).1.slots x hx) hBk hBlt hX (fun V V' k cs t h h1 h2 => h k cs t h1 h2) (fun l2 Bs2 J Jx hJ hYY V h0 => ?_) (fun j x y V h hx hy hlk hb => ?_) V (HKP.out V hD.off).2.cell hD hB).mono ?_
    · rw [HX6.out]
      refine teach_in 5 (by omega) _ l2 Bs2 c r m' A' n2 cp' X' J Jx (fun j W hj => ?_) hYY V h0
      obtain ⟨h1, k, hk⟩ := hJ j W hj
      exact ⟨h1, _, (HKP.out W hk.off).1⟩
    · exact hY j (x, y) V ⟨h, hx, hy, hlk⟩ hb (by rw [← HX6.out]; exact (List.getElem?_eq_some_iff.1 hx).1)
    · intro e W' h
      rw [HX6.out] at h
      exact h
  case done =>
    rintro D V hD hA hK
    have hB1V : Below w1.heap.size w1 V := HB16.out.trans (hA.off.below (fun k hk => by omega) HB16.out.size)
    obtain ⟨_, _, hbox⟩ := HX.out V hB1V
    obtain ⟨k0, k1⟩ := doc_cells hbox
    have kI := hA.at'.cell
    have kO := hA.ok.cell
    have hfin := Lib.hid (HB1.out.trans ((hB1V.trans (below_put (B := w1.heap.size) V (.deferred none) (by omega : w1.heap.size ≤ D))).mono HB1.out.size))
    clear hA hB1V hbox hnn
    gi_wp2
    refine ⟨by simp, .inl ⟨_, _, rfl, run_takeDeferred hK, ?_⟩⟩
    refine ⟨_, results_tmp rfl _ _ _, rfl, ?_⟩
    exact hfin.out
  case stop =>
    rintro D cd V _ h _
    exact h.elim
end Go.Proofs.YtfdbcfkjablnkaaGreat

namespace Go.Proofs.YtfdbcfkjablnkaaGreat
open Go.RowKit Go.Shelf
set_option maxRecDepth 100000
attribute [local go_sem] Oper.semAt_some

/-- the law's two variables that the loops' bodies turn: how far it is, in box bi; whether all is right, in box bi + 1 -/
structure LkA (w4 : World) (bi : Nat) (i : Nat) (V : World) : Prop where
  at' : Boxed V bi 3 (.int .i64 (i : Int))
  ok : Boxed V (bi + 1) 4 (.bool true)
  off : Off (fun k => k = bi ∨ k = bi + 1) w4 V
section
variable {w4 V V' : World} {bi i : Nat}
theorem LkA.below (h : LkA w4 bi i V) (hb : bi + 1 < w4.heap.size) (hB : Below w4.heap.size V V') : LkA w4 bi i V' :=
  ⟨(hB.block bi (by omega)).trans h.at', (hB.block (bi + 1) hb).trans h.ok, off_below h.off hB⟩
theorem LkA.drewN (h : LkA w4 bi i V) (d : Nat) : LkA w4 bi i (V.drewN d) := ⟨h.at', h.ok, ⟨h.off.os, h.off.tape, h.off.output, h.off.size, h.off.block⟩⟩
theorem LkA.next (h : LkA w4 bi i V) : LkA w4 bi (i + 1) (V.setCell ⟨bi, 0, none⟩ (.int .i64 ((i : Int) + 1))) :=
  ⟨by have := Boxed.set (.int .i64 ((i : Int) + 1)) h.at'; rw [Int.natCast_succ]; exact this, h.ok.other (by omega) _, h.off.setCell (p := ⟨bi, 0, none⟩) (.inl rfl) _⟩
theorem LkA.right (h : LkA w4 bi i V) : LkA w4 bi i (V.setCell ⟨bi + 1, 0, none⟩ (.bool true)) :=
  ⟨h.at'.other (by omega) _, h.ok.set _, h.off.setCell (p := ⟨bi + 1, 0, none⟩) (.inr rfl) _⟩
end
theorem box_not_num {W : World} {b j : Nat} {t : TypeId} {v : Bool} {k : IntKind} {z : Int} (h : Boxed W b t (.bool v)) (hc : W.cell? ⟨b, j, none⟩ = some (.int k z)) : False := by
  rw [cell_of_row W b j _ _ _ h] at hc
  cases j <;> simp at hc
/-- the number in box b -/
def inBox (b : Nat) (W : World) : Nat := (intOf ((W.cell? ⟨b, 0, none⟩).getD undef)).toNat
theorem LkA.num {w4 V : World} {bi i : Nat} (h : LkA w4 bi i V) : inBox bi V = i := by
  unfold inBox
  rw [h.at'.cell]
  simp [intOf]
set_option maxHeartbeats 8000000 in
theorem alike_any {w : World} {b : Nat} {t : Int} {q : Nat} (h : WinAt w b t q) (ht : 0 ≤ t ∧ t < 4294967296) (hq : q < 18446744073709551616) :
    Calls Tryz.prog 32 #[.pointer (some ⟨b, 0, none⟩), refV t q] w fun e w' => e = .returned (.bool true) ∧ Below w.heap.size w w' := by
  have KT := Lib.hid (fun (V : World) (hV : WinAt V b t q) => wtop_any hV)
  have KB := Lib.hid (fun (V : World) (hV : WinAt V b t q) => wbits_any hV)
  have KR := Lib.hid (fun V => rbits_any t q hq V)
  have KC := Lib.hid (fun (V : World) (hV : WinAt V b t q) => wcome_any hV)
  have KM := Lib.hid (fun (V : World) (hV : WinAt V b t q) => wmissing_any hV ht hq)
  have h0 := wC_top t q.testBit
  have hat := wC_at t q.testBit
  have hCs := wC_size t q.testBit
  unfold refV at KR ⊢
  generalize wC t q.testBit = C at *
  have HI : Hid ((Tryz.prog.info? 31).map (·.size) = some C.size) := by show _ = _; rw [hCs]; exact wInfo
  obtain ⟨m0, hm0⟩ : ∃ m0, w.heap.size = m0 := ⟨_, rfl⟩
  obtain ⟨w1, hw1⟩ : ∃ w1, w.alloc (.cells C 31) = w1 := ⟨_, rfl⟩
  have hbC : w1.heap[m0]? = some (.cells C 31 (0, 0)) := by rw [← hw1, ← hm0]; exact heap_alloc_new _ _
  have hB1 : Below w.heap.size w w1 := by rw [← hw1]; exact (Below.refl _ w).alloc (Nat.le_refl _) _
  have hwin1 := h.below hB1
  have hs1 : w1.heap.size = m0 + 1 := by rw [← hw1]; simp [hm0]
  have hbm : b < m0 := by have := h.size; omega
  have HCB := Lib.hid hbC
  have HB1 := Lib.hid hB1
  have HW1 := Lib.hid hwin1
  have HAT := Lib.hid hat
  have HM0 := Lib.hid hm0
  have H0 := Lib.hid h0
  clear hbC hB1 hwin1 h h0 hat hCs
  refine (callsIn_wide (n := 3)).1 ?_
  refine callsIn_of_wp_marks Tryz.func32 rfl trivial ?_ rfl
  simp only [Tryz.ntmps32, List.size_toArray, List.length_cons, List.length_nil, Nat.reduceAdd, Nat.reduceSub, Array.replicate_succ, Array.replicate_zero, List.push_toArray, List.append_toArray, List.nil_append, List.cons_append]
  gi_wp2_with fail
  refine wpIn_wide.2 ?_
  have hI : ∀ W, Below w1.heap.size w1 W → W.cell? ⟨m0, 0, none⟩ = some (.int .u32 t) ∧ W.heap[m0]? = some (.cells C 31 (0, 0)) ∧ WinAt W b t q := fun W hW => by
    have hc : W.heap[m0]? = some (.cells C 31 (0, 0)) := (hW.block m0 (by omega)).trans HCB.out
    exact ⟨by rw [cell_of_row W m0 0 _ _ _ hc]; exact H0.out, hc, HW1.out.below hW⟩
  have HII := Lib.hid hI
  refine wp_region_order4 (0 :: 2 :: 3 :: 1 :: 4 :: 5 :: 6 :: 8 :: 7 :: 9 :: 10 :: 11 :: []) (fun W => Below w1.heap.size w1 W) (C := fun W => Below w1.heap.size w1 W) (by kernel_rfl) (by kernel_rfl) (Below.refl _ _).drew (fun _ hW => hW) ?_
  repeat (refine wpO4_pure rfl rfl ?_; go_big_quiet_step (fail); refine wpQuiet_nil ?_)
  refine wpO4_load (ad := ⟨m0, 0, none⟩) (.int .u32 t) rfl rfl rfl (by rfl) (fun W hW => by simp [Instr.loadAt, go_sem, (HII.out W hW).1]) ?_
  simp only [Act.put, List.setIfInBounds_toArray, List.set_cons_succ, List.set_cons_zero]
  refine wpO4_call (fun v => v = .int .u32 t) (fun _ W => Below w1.heap.size w1 W) (f := 58) (args := #[.pointer (some ⟨b, 0, none⟩)]) rfl rfl rfl (fun _ W hW => hW) (fun x => by first | rfl | (simp [go_sem]; done)) (fun W hW => (KT.out W (HII.out W hW).2.2).mono fun e W' ⟨he, hw⟩ => ⟨_, he, rfl, by rw [hw]; exact hW⟩) ?_
  rintro v rfl
  simp only [Act.put, List.setIfInBounds_toArray, List.set_cons_succ, List.set_cons_zero]
  repeat (refine wpO4_pure rfl rfl ?_; go_big_quiet_step (fail); refine wpQuiet_nil ?_)
  refine wpO4_load (ad := ⟨m0, 0, none⟩) (.agg C) rfl rfl rfl (by rfl) (fun W hW => ?_) ?_
  · exact run_loadVar_row W m0 31 31 C (0, 0) _ (HII.out W hW).2.1 Tryz.underlying31 (by rfl) HI.out
  simp only [Act.put, List.setIfInBounds_toArray, List.set_cons_succ, List.set_cons_zero]
  refine wpO4_call (fun v => v = .int .u64 (q : Int)) (fun _ W => Below w1.heap.size w1 W) (f := 59) (args := #[.pointer (some ⟨b, 0, none⟩)]) rfl rfl rfl (fun _ W hW => hW) (fun x => by first | rfl | (simp [go_sem]; done)) (fun W hW => (KB.out W (HII.out W hW).2.2).mono fun e W' ⟨he, hw⟩ => ⟨_, he, rfl, by rw [hw]; exact hW⟩) ?_
  rintro v rfl
  simp only [Act.put, List.setIfInBounds_toArray, List.set_cons_succ, List.set_cons_zero]
  refine wpO4_call (fun v => v = .int .u64 (q : Int)) (fun _ W => Below w1.heap.size w1 W) (f := 60) (args := #[.agg C]) rfl rfl rfl (fun _ W hW => hW) (fun x => by first | rfl | (simp [go_sem]; done)) (fun W hW => (KR.out W).mono fun e W' ⟨he, hw⟩ => ⟨_, he, rfl, hW.trans (hw.mono hW.size)⟩) ?_
  rintro v rfl
  simp only [Act.put, List.setIfInBounds_toArray, List.set_cons_succ, List.set_cons_zero]
  repeat (refine wpO4_pure rfl rfl ?_; go_big_quiet_step (fail); refine wpQuiet_nil ?_)
  intro w2 hb2
  have hwin2 := HW1.out.below hb2
  have hC2 := (HII.out w2 hb2).2.1
  have hs2 := hb2.size
  have HB2 := Lib.hid (HB1.out.trans (hb2.mono (by omega)))
  clear HII hI hb2 hw1
  gi_wp2_with fail
  obtain ⟨bi, hbi⟩ : ∃ bi, w2.heap.size = bi := ⟨_, rfl⟩
  obtain ⟨w3, hw3⟩ : ∃ w3, (w2.alloc (.cells #[Value.int .i64 0] 3)).alloc (.cells #[Value.bool true] 4) = w3 := ⟨_, rfl⟩
  have hs3 : w3.heap.size = bi + 2 := by rw [← hw3]; simp [hbi]
  have hb23 : Below w2.heap.size w2 w3 := by rw [← hw3]; exact ((Below.refl _ w2).alloc (Nat.le_refl _) _).alloc (by simp) _
  have bI3 : Boxed w3 bi 3 (.int .i64 0) := by rw [← hw3, ← hbi]; exact (Boxed.new w2 _ _).alloc _
  have bO3 : Boxed w3 (bi + 1) 4 (.bool true) := by
    rw [← hw3, ← hbi]
    have := Boxed.new (w2.alloc (.cells #[Value.int .i64 0] 3)) 4 (.bool true)
    rwa [World.size_alloc] at this
  have hwin3 := hwin2.below hb23
  have K := KC.out w3 hwin3
  rw [hw3, hbi]
  rw [hs3] at K
  refine ⟨trivial, ?_⟩
  refine (callsIn_wide.2 K).mono ?_
  rintro e w4 ⟨rfl, hw4⟩
  clear K KC
  have hs4 : w4.heap.size = bi + 4 := by rw [hw4]; simp [hs3]
  have hb34 : Below w3.heap.size w3 w4 := by rw [hw4]; exact ((Below.refl _ w3).alloc (Nat.le_refl _) _).alloc (by simp) _
  have hrow4 : w4.heap[bi + 2]? = some (.cells #[.int .u32 t, .int .u64 (q : Int)] 101 (0, 0)) := by
    rw [hw4, ← hs3]; exact (Below.heap_alloc _ _ _ (by simp)).trans (World.alloc_heap_new _ _)
  have hside4 : Boxed w4 (bi + 2 + 1) 4 (.bool true) := by
    rw [hw4, ← hs3]
    have := Boxed.new (w3.alloc (.cells #[.int .u32 t, .int .u64 (q : Int)] 101)) 4 (.bool true)
    rwa [World.size_alloc] at this
  have hL4 : LkA w4 bi 0 w4 := ⟨(hb34.block bi (by omega)).trans bI3, (hb34.block (bi + 1) (by omega)).trans bO3, Off.refl _ _⟩
  have hwin4 := hwin3.below hb34
  have hC4 : w4.heap[m0]? = some (.cells C 31 (0, 0)) := (hb34.block m0 (by omega)).trans ((hb23.block m0 (by omega)).trans hC2)
  have HB4 := Lib.hid (HB2.out.trans ((hb23.mono HB2.out.size).trans (hb34.mono (by have := HB2.out.size; omega))))
  have hmb : m0 < bi := by omega
  have hnil := numbers_not_nil (bi + 2) (bi + 2 + 1) w4
  clear hb23 hb34 hw3 hw4 bI3 bO3 hwin3 hwin2 hC2 hs3 hs2 HB2 HCB HB1 HW1 hs1 hbi
  gi_wp2_with fail
  have hHV : ∀ V, Off (fun k => k = bi ∨ k = bi + 1) w4 V → V.cell? ⟨m0, 0, none⟩ = some (.int .u32 t) ∧ (∀ k, k < 64 → V.cell? ⟨m0, 1 + k, none⟩ = some (.bool (q.testBit k))) ∧ WinAt V b t q := fun V hV => by
    have hc : V.heap[m0]? = some (.cells C 31 (0, 0)) := (hV.block m0 (by omega) (by omega)).trans hC4
    exact ⟨by rw [cell_of_row V m0 0 _ _ _ hc]; exact H0.out, fun k hk => by rw [cell_of_row V m0 (1 + k) _ _ _ hc]; exact HAT.out k hk, hwin4.off hV (by omega)⟩
  have HHV := Lib.hid hHV
  have HL4 := Lib.hid hL4
  have HROW := Lib.hid hrow4
  have HSIDE := Lib.hid hside4
  have hbiw : bi + 1 < w4.heap.size := by omega
  clear hHV hL4 hrow4 hside4 hC4 hwin4
  refine range_stops rfl (by omega) (gf := 105) (lb := #[.pointer (some ⟨bi + 2, 0, none⟩), .pointer (some ⟨bi + 2 + 1, 0, none⟩)]) rfl trivial (enters_of Tryz.func105 (by kernel_rfl) rfl)
    (fun x : Int => #[Value.int .u32 x]) (fun _ => rfl)
    (fun j x V => (∃ i, i ≤ 64 ∧ Wn.cnt q true i = j ∧ LkA w4 bi i V) ∧ ∃ k : Nat, k < 64 ∧ q.testBit k = true ∧ Wn.cnt q true k = j ∧ x = Sr.add t (-(k : Int)))
    (fun j V => ∃ i, i ≤ 64 ∧ Wn.cnt q true i = j ∧ LkA w4 bi i V)
    (fun _ _ => False) (fun _ _ => True) (Wn.cnt q true 64)
    (fun j x V l o o' h hl ho hc' => by
      obtain ⟨⟨i, h1, h2, h3⟩, h4⟩ := h
      exact ⟨⟨i, h1, h2, h3.below hbiw (below_put V o' hl)⟩, h4⟩)
    (fun j V l o o' h hl ho hc' => by
      obtain ⟨i, h1, h2, h3⟩ := h
      exact ⟨i, h1, h2, h3.below hbiw (below_put V o' hl)⟩)
    (fun _ _ _ _ _ h _ _ _ => h)
    (fun _ _ _ _ _ => trivial) (fun _ _ _ _ _ _ _ => trivial)
    (fun o => ⟨0, by omega, rfl, HL4.out.below hbiw (((Below.refl w4.heap.size w4).alloc (Nat.le_refl _) _).alloc (by simp) _)⟩) ?a1 ?assign ?body ?iter ?done ?stop
  case assign =>
    intro l x V K hK
    gi_wp2
    exact hK
  case body =>
    rintro l j x V hl ⟨⟨i, hi64, hci, hLk⟩, k, hk64, hbk, hck, hx⟩ hj
    have hik : i ≤ k := Wn.cnt_past (hci.trans hck.symm) hbk
    have hno : ∀ d, i ≤ d → d < k → q.testBit d = false := fun d h1 h2 => by
      have := Wn.cnt_none (hci.trans hck.symm) h1 h2
      simpa using this
    have HNO := Lib.hid hno
    have HCK := Lib.hid (And.intro hbk hck)
    have HLK := Lib.hid hLk
    have HX := Lib.hid hx
    clear hno hbk hck hci hLk hx
    gi_wp2_with fail
    gi_loopw [] (fun wr => ∃ d : Nat, i ≤ d ∧ d ≤ k ∧ LkA w4 bi d wr ∧ KeepsOthers V wr) (fun wr => 64 - inBox bi wr)
    case atStart => exact ⟨i, Nat.le_refl _, hik, HLK.out, KeepsOthers.refl _⟩
    case round =>
      obtain ⟨d, hid, hdk, hLd, hko⟩ := hrel
      have kI := hLd.at'.cell
      have fI := hLd.at'.frozen
      have kO := hLd.ok.cell
      have fO := hLd.ok.frozen
      obtain ⟨c0, cAT, _⟩ := HHV.out wr hLd.off
      have hd64 : (d : Int) < 64 := by omega
      have cd := cAT d (by omega)
      have HLD := Lib.hid hLd
      have HKO := Lib.hid hko
      rcases Nat.lt_or_ge d k with h4 | h4
      · rw [HNO.out d hid h4] at cd
        have hnx := hLd.next
        have hinb := hLd.num
        have hnum := hnx.num
        have HNX := Lib.hid (And.intro hnx (And.intro hnum hinb))
        clear hLd hko cAT kO fO c0 hnx hinb hnum
        gi_wp2
        go_roundw
        case rel => exact ⟨d + 1, by omega, by omega, HNX.out.1, HKO.out.trans (KeepsOthers.setCell _ _ _)⟩
        case measure => rw [HNX.out.2.1, HNX.out.2.2]; omega
      · obtain rfl : d = k := by omega
        rw [HCK.out.1] at cd
        have K := sradd_any t (-(d : Int)) wr ht (by omega)
        rw [← HX.out] at K
        have hfin : LkA w4 bi (d + 1) ((wr.setCell ⟨bi + 1, 0, none⟩ (.bool true)).setCell ⟨bi, 0, none⟩ (.int .i64 ((d : Int) + 1))) := hLd.right.next
        have kI2 := hLd.right.at'.cell
        have fI2 := hLd.right.at'.frozen
        have HFIN := Lib.hid hfin
        clear hLd hko cAT hfin
        gi_wp2_with fail
        refine ⟨trivial, ?_⟩
        refine (callsIn_wide.2 K).mono ?_
        rintro e V1 ⟨rfl, hV⟩
        rw [hV]
        clear hV K
        gi_wp2
        exact ⟨((HKO.out.trans (KeepsOthers.setCell _ _ _)).trans (KeepsOthers.setCell _ _ _)).from _, ⟨d + 1, by omega, by rw [Wn.cnt_step HCK.out.1, HCK.out.2], HFIN.out⟩, trivial⟩
  case iter =>
    intro Bk X l V hBk hBlt hX hlw hD hB hY
    refine (numbers_in 2 (by omega) 1 l (bi + 2) (bi + 2 + 1) t q true ht hq (fun k V => (∃ i, i ≤ 64 ∧ Wn.cnt q true i = Wn.cnt q true k ∧ LkA w4 bi i V) ∧ Bk V) X ?_ ?_ ?_ ?_ V ⟨hD, hB⟩).mono ?_
    · rintro k W ⟨⟨i, _, _, h1⟩, _⟩
      have h2 : W.heap[bi + 2]? = _ := (h1.off.block (bi + 2) (by omega) (by omega)).trans HROW.out
      have h3 : Boxed W (bi + 2 + 1) 4 (.bool true) := (h1.off.block (bi + 2 + 1) (by omega) (by omega)).trans HSIDE.out
      exact ⟨by simp [World.cell?, h2], by simp [World.cell?, h2], h3.cell⟩
    · rintro k W d ⟨⟨i, h1, h2, h3⟩, h4⟩
      exact ⟨⟨i, h1, h2, h3.drewN d⟩, hBk W _ h4 (Nat.le_refl _) (fun _ _ _ => rfl)⟩
    · rintro k W ⟨h1, h2⟩ hk hb
      rw [Wn.cnt_stay hb]
      exact ⟨h1, h2⟩
    · rintro k W ⟨h1, h2⟩ hk hb
      refine (hY _ _ W ⟨h1, k, hk, hb, rfl, rfl⟩ h2 (by have := Wn.cnt_mono q true (show k + 1 ≤ 64 by omega); rw [Wn.cnt_step hb] at this; omega)).mono ?_
      rw [Wn.cnt_step hb]
      rintro e V2 (⟨rfl, hd, _, _⟩ | ⟨rfl, hx, _⟩)
      · exact .inl ⟨rfl, hd⟩
      · exact .inr ⟨rfl, hx⟩
    · exact fun _ _ h => h
  case done =>
    rintro D V hD ⟨i, hi64, hci, hLk⟩ hK
    have hno : ∀ d, i ≤ d → d < 64 → q.testBit d = false := fun d h1 h2 => by
      have := Wn.cnt_none hci h1 h2
      simpa using this
    have HNO := Lib.hid hno
    have HLK := Lib.hid hLk
    have HKD := Lib.hid hK
    clear hno hci hLk hK hnil
    gi_wp2_with fail
    gi_loopw [] (fun wr => ∃ d : Nat, i ≤ d ∧ d ≤ 64 ∧ LkA w4 bi d wr ∧ wr.heap[D]? = some (.deferred (some []))) (fun wr => 64 - inBox bi wr)
    case atStart => exact ⟨i, Nat.le_refl _, hi64, HLK.out, HKD.out⟩
    case round =>
      obtain ⟨d, hid, hd, hLd, hKd⟩ := hrel
      have kI := hLd.at'.cell
      have fI := hLd.at'.frozen
      have kO := hLd.ok.cell
      have fO := hLd.ok.frozen
      obtain ⟨c0, cAT, hwd⟩ := HHV.out wr hLd.off
      rcases Nat.lt_or_ge d 64 with h4 | h4
      · have hd64 : (d : Int) < 64 := by omega
        have cd := cAT d (by omega)
        rw [HNO.out d hid h4] at cd
        have hnx := hLd.right.next
        have hnum := hnx.num
        have hinb := hLd.num
        have kI2 := hLd.right.at'.cell
        have fI2 := hLd.right.at'.frozen
        have hKn : ((wr.setCell ⟨bi + 1, 0, none⟩ (.bool true)).setCell ⟨bi, 0, none⟩ (.int .i64 ((d : Int) + 1))).heap[D]? = some (.deferred (some [])) := (Below.heap_setCell _ ⟨bi, 0, none⟩ _ D (by simp; omega)).trans ((Below.heap_setCell wr ⟨bi + 1, 0, none⟩ _ D (by simp; omega)).trans hKd)
        have HNX := Lib.hid (And.intro hnx (And.intro hnum (And.intro hinb hKn)))
        clear hLd hKd cAT c0 hwd hnx hnum hinb hKn
        gi_wp2
        go_roundw
        case rel => exact ⟨d + 1, by omega, by omega, HNX.out.1, HNX.out.2.2.2⟩
        case measure => rw [HNX.out.2.1, HNX.out.2.2.1]; omega
      · obtain rfl : 64 = d := by omega
        have hd64 : ¬ ((64 : Nat) : Int) < 64 := by omega
        have K := KM.out wr hwd
        have HLD := Lib.hid hLd
        have HKD2 := Lib.hid hKd
        have hsz := hLd.off.size
        have hDlt := (Array.getElem?_eq_some_iff.1 hKd).1
        clear hLd hKd cAT c0 hwd kO fO KM
        rename World => wr
        gi_wp2_with fail
        refine ⟨trivial, ?_⟩
        refine (callsIn_wide.2 K).mono ?_
        rintro e w5 ⟨A5, c5, rfl, hc5, hn5, hb5⟩
        have hbi5 : bi + 1 < wr.heap.size := by omega
        have hO5 : Boxed w5 (bi + 1) 4 (.bool true) := (hb5.block _ hbi5).trans HLD.out.ok
        have hoff5 := off_below HLD.out.off (hb5.mono hsz)
        have hK5 := (hb5.block D hDlt).trans HKD2.out
        have hs5 := hb5.size
        have hB5 := HB4.out.trans (hoff5.below (fun k hk => by have := HM0.out; omega) HB4.out.size)
        obtain ⟨N0, hN0⟩ : ∃ N0, (Wn.gv t q false 64).length = N0 := ⟨_, rfl⟩
        have hcN : Wn.cnt q false 64 = N0 := by rw [← hN0, Wn.gv_len]
        have hN64 : N0 ≤ 64 := by rw [← hcN]; exact Wn.cnt_le q false 64
        have hrev : ∀ y kk : Nat, y < 64 → q.testBit y = false → kk + Wn.cnt q false (y + 1) = N0 → (Wn.gv t q false 64).reverse[kk]? = some (Sr.add t (-(y : Int))) := fun y kk hy hb he => by
          rw [Wn.cnt_step hb] at he
          rw [List.getElem?_reverse (by omega), hN0, show N0 - 1 - kk = Wn.cnt q false y by omega]
          exact Wn.gv_at t hb hy
        have HREV := Lib.hid hrev
        have HN5 := Lib.hid hn5
        have HCN := Lib.hid hcN
        have HO5 := Lib.hid hO5
        have HF5 := Lib.hid hoff5
        have HB5 := Lib.hid hB5
        have HK5 := Lib.hid hK5
        rw [hN0] at hc5 ⊢
        clear hrev hn5 hcN hO5 hoff5 hB5 hK5 hN0 hb5 K HLD HKD2 HKD HLK HNO HL4 HROW HSIDE KT KB KR
        gi_wp2_with fail
        gi_loopw [10, 11] (fun kv xv W => ∃ y kk : Nat, y ≤ 64 ∧ xv = .int .i64 ((y : Int) - 1) ∧ kv = .int .i64 (kk : Int) ∧ kk + Wn.cnt q false y = N0 ∧ Boxed W (bi + 1) 4 (.bool true) ∧ Off (fun k => k = bi + 1) w5 W) (fun _ xv _ => (intOf xv + 1).toNat)
        case atStart => exact ⟨64, 0, Nat.le_refl _, rfl, rfl, by rw [HCN.out]; omega, HO5.out, Off.refl _ _⟩
        case round =>
          obtain ⟨y, kk, hy, rfl, rfl, hkk, hOW, hoW⟩ := hrel
          have hoff := HF5.out.trans hoW (fun j _ hj => .inr hj)
          obtain ⟨c0, cAT, _⟩ := HHV.out _ hoff
          cases y with
          | succ j =>
            have h2 : ((j + 1 : Nat) : Int) - 1 = (j : Int) := by omega
            have h2' : (j : Int) < 64 := by omega
            have cj := cAT j (by omega)
            rw [h2]
            cases hb : q.testBit j with
            | true =>
              rw [hb] at cj
              have hkk2 : kk + Wn.cnt q false j = N0 := by rw [← hkk, Wn.cnt_stay (by rw [hb]; decide)]
              have HKK := Lib.hid hkk2
              have HOW := Lib.hid hOW
              have HoW := Lib.hid hoW
              clear hb hkk hkk2 hOW hoW hoff cAT c0 h2
              gi_wp2
              go_roundw
              case rel => exact ⟨j, kk, by omega, rfl, rfl, HKK.out, HOW.out, HoW.out⟩
              case measure => simp [intOf]
            | false =>
              rw [hb] at cj
              have hel := HREV.out j kk (by omega) hb hkk
              have hkk2 : (kk + 1) + Wn.cnt q false j = N0 := by rw [Wn.cnt_step hb] at hkk; omega
              have hkN : (kk : Int) < (N0 : Int) := by omega
              obtain ⟨g, o, rfl, hg, hcg⟩ := HN5.out.open hel
              have hgn : ¬ g = bi + 1 := fun e => by subst e; exact box_not_num HO5.out hcg
              have hkc : (kk : Int) < (c5 : Int) := by omega
              have HKK := Lib.hid hkk2
              have HOW := Lib.hid hOW
              have HoW := Lib.hid hoW
              have KA := Lib.hid (fun W => sradd_any t (-(j : Int)) W ht (by omega))
              clear hb hkk hkk2 hOW hoW hoff cAT hel h2
              generalize Sr.add t (-(j : Int)) = X at *
              have hI : ∀ W, (Boxed W (bi + 1) 4 (.bool true) ∧ Off (fun k => k = bi + 1) w5 W) → W.cell? ⟨bi + 1, 0, none⟩ = some (.bool true) ∧ W.frozen? ⟨bi + 1, 0, none⟩ = false ∧ W.cell? ⟨m0, 0, none⟩ = some (.int .u32 t) ∧ W.cell? ⟨g, o + kk, none⟩ = some (.int .u32 X) := fun W hW =>
                ⟨hW.1.cell, hW.1.frozen, (HHV.out W (HF5.out.trans hW.2 (fun j _ hj => .inr hj))).1, hW.2.cell hcg hgn⟩
              have HII := Lib.hid hI
              have hI0 : (Boxed wr.drew (bi + 1) 4 (.bool true) ∧ Off (fun k => k = bi + 1) w5 wr.drew) := ⟨HOW.out, ⟨HoW.out.os, HoW.out.tape, HoW.out.output, HoW.out.size, HoW.out.block⟩⟩
              clear hI
              gi_wp2
              refine wpIn_wide.2 ?_
              refine wp_region_order4 (0 :: 1 :: 2 :: 3 :: 4 :: 5 :: 6 :: 7 :: 8 :: 9 :: 10 :: 11 :: 12 :: 13 :: 14 :: 15 :: 16 :: 17 :: 18 :: 19 :: []) (fun W => Boxed W (bi + 1) 4 (.bool true) ∧ Off (fun k => k = bi + 1) w5 W) (C := fun W => Boxed W (bi + 1) 4 (.bool true) ∧ Off (fun k => k = bi + 1) w5 W) (by kernel_rfl) (by kernel_rfl) hI0 (fun _ hW => hW) ?_
              refine wpO4_load (ad := ⟨bi + 1, 0, none⟩) (.bool true) rfl rfl rfl (by rfl) (fun W hW => by simp [Instr.loadAt, go_sem, (HII.out W hW).1]) ?_
              simp only [Act.put, List.setIfInBounds_toArray, List.set_cons_succ, List.set_cons_zero]
              repeat (refine wpO4_pure rfl rfl ?_; go_big_quiet_step (fail); refine wpQuiet_nil ?_)
              refine wpO4_load (ad := ⟨g, o + kk, none⟩) (.int .u32 X) rfl rfl rfl (by rfl) (fun W hW => by simp [Instr.loadAt, go_sem, (HII.out W hW).2.2.2]) ?_
              simp only [Act.put, List.setIfInBounds_toArray, List.set_cons_succ, List.set_cons_zero]
              repeat (refine wpO4_pure rfl rfl ?_; go_big_quiet_step (fail); refine wpQuiet_nil ?_)
              refine wpO4_load (ad := ⟨m0, 0, none⟩) (.int .u32 t) rfl rfl rfl (by rfl) (fun W hW => by simp [Instr.loadAt, go_sem, (HII.out W hW).2.2.1]) ?_
              simp only [Act.put, List.setIfInBounds_toArray, List.set_cons_succ, List.set_cons_zero]
              repeat (refine wpO4_pure rfl rfl ?_; go_big_quiet_step (fail); refine wpQuiet_nil ?_)
              refine wpO4_call (fun v => v = .int .u32 X) (fun _ W => Boxed W (bi + 1) 4 (.bool true) ∧ Off (fun k => k = bi + 1) w5 W) (f := 38) (args := #[.int .u32 t, .int .i64 (-(j : Int))]) rfl rfl rfl (fun _ W hW => hW) (fun x => by first | rfl | (simp [go_sem]; done)) (fun W hW => (KA.out W).mono fun e W' ⟨he, hw⟩ => ⟨_, he, rfl, by rw [hw]; exact hW⟩) ?_
              rintro v rfl
              simp only [Act.put, List.setIfInBounds_toArray, List.set_cons_succ, List.set_cons_zero]
              repeat (refine wpO4_pure rfl rfl ?_; go_big_quiet_step (fail); refine wpQuiet_nil ?_)
              refine wpO4_store (fun W => Boxed W (bi + 1) 4 (.bool true) ∧ Off (fun k => k = bi + 1) w5 W) rfl rfl rfl rfl ⟨bi + 1, 0, none⟩ (.bool true) (by rfl) (by rfl) (fun W hW => hW) (fun W hW => ?_) ?_
              · obtain ⟨k0, k1, _⟩ := HII.out W hW
                exact ⟨W.setCell ⟨bi + 1, 0, none⟩ (.bool true), by simp [Instr.storeAt, go_sem, k0, k1], hW.1.set _, hW.2.setCell (p := ⟨bi + 1, 0, none⟩) rfl _⟩
              intro w6 hw6
              have HW6 := Lib.hid hw6
              clear HOW HoW HII hI0 hw6 c0 cj KA
              gi_wp2
              go_roundw
              case rel => exact ⟨j, kk + 1, by omega, rfl, by go_num, HKK.out, HW6.out.1, HW6.out.2⟩
              case measure => simp [intOf]
          | zero =>
            have h2 : ((0 : Nat) : Int) - 1 = -1 := by omega
            have hkN : kk = N0 := hkk
            subst hkN
            have kO := hOW.cell
            have hKf := (hoW.block D (Array.getElem?_eq_some_iff.1 HK5.out).1 (by omega)).trans HK5.out
            have hBf : Below w.heap.size w _ := HB5.out.trans (hoW.below (fun k hk => by rw [hk]; have := HM0.out; omega) HB5.out.size)
            have HBf := Lib.hid hBf
            have hwD : w.heap.size ≤ D := by have := HM0.out; omega
            rw [h2]
            clear hOW hoW hoff cAT c0 h2 hBf
            gi_wp2
            refine ⟨by simp, .inl ⟨_, _, rfl, run_takeDeferred hKf, ?_⟩⟩
            refine ⟨_, results_tmp rfl _ _ _, rfl, ?_⟩
            exact HBf.out.trans (below_put (B := w.heap.size) _ (.deferred none) hwD)
  case stop =>
    rintro D cd W' _ h _
    exact h.elim
end Go.Proofs.YtfdbcfkjablnkaaGreat

namespace Go.Proofs.YtfdbcfkjablnkaaGreat
open Go.RowKit Go.Shelf
set_option maxRecDepth 100000
attribute [local go_sem] Oper.semAt_some

/-- what the first operations hand on -/
def FAl (r : Nat) (t : Int) (q : Nat) (T : List Tb.Ms) (p : Tmp) (x : Value) (V : World) : Prop :=
  if p = 14 ∨ p = 21 then x = .bool true else if p = 11 then ∃ g, x = .pointer (some ⟨g, 0, none⟩) ∧ WinAt V g t q
  else ∃ c m A n cp X S, x = .pointer (some ⟨c, 0, none⟩) ∧ TblAt V S c r m A n cp X ∧ Tb.Likes T (X.map Sx.ms)
theorem FAl.later {r : Nat} {t : Int} {q : Nat} {T : List Tb.Ms} {p : Tmp} {x : Value} {V V' : World} (h : FAl r t q T p x V) (hb : Below V.heap.size V V') : FAl r t q T p x V' := by
  unfold FAl at *
  split
  · rename_i e; rw [if_pos e] at h; exact h
  · rename_i e; rw [if_neg e] at h
    split
    · rename_i e; rw [if_pos e] at h
      obtain ⟨g, h1, h2⟩ := h
      exact ⟨g, h1, h2.below hb⟩
    · rename_i e; rw [if_neg e] at h
      obtain ⟨c, m, A, n, cp, X, S, h1, h2, h3⟩ := h
      exact ⟨c, m, A, n, cp, X, S, h1, h2.below hb, h3⟩
set_option maxHeartbeats 16000000 in
theorem jalike_any {w : World} {S : Nat → Prop} {bj bw b r : Nat} {t : Int} {q : Nat} {T : List Tb.Ms} (h : JAt w S bj bw b r t q T) {A2 : Option Addr} {n2 cp2 : Nat} {L : List Ds} (hd : DocAt w A2 n2 cp2 L) (hl : Tb.Likes (L.map Ds.ms) T) (hn16 : n2 ≤ 16) :
    Calls Tryz.prog 17 #[.pointer (some ⟨bj, 0, none⟩), .agg (jC t q r A2 n2 cp2)] w fun e w' => e = .returned (.bool true) ∧ Below w.heap.size w w' := by
  have hht := h.top
  have hhq := h.bits
  have hheld : Tb.held (L.map Ds.ms) = Tb.held T := hl.held.symm
  have KWA := Lib.hid (fun (g : Nat) (V : World) (hV : WinAt V g t q) => alike_any hV hht hhq)
  have HCI : (jC t q r A2 n2 cp2).size = 67 := jC_size
  unfold jC refV at *
  have hcs := wC_size t q.testBit
  generalize wC t q.testBit = Cw at *
  have HLD := hd.len
  obtain ⟨w1, hw1⟩ : ∃ w1, w.alloc (.cells (jCw Cw r A2 n2 cp2) 36) = w1 := ⟨_, rfl⟩
  have hb1 : Below w.heap.size w w1 := by rw [← hw1]; exact (Below.refl _ w).alloc (Nat.le_refl _) _
  have hx1 : JdAt w1 w.heap.size Cw r A2 n2 cp2 := by rw [← hw1]; exact World.alloc_heap_new _ _
  have hs1 : w1.heap.size = w.heap.size + 1 := by rw [← hw1]; simp
  have HW1 := Lib.hid hw1
  have HX : Hid (∀ V, Below w1.heap.size w1 V → JAt V S bj bw b r t q T ∧ DocAt V A2 n2 cp2 L ∧ JdAt V w.heap.size Cw r A2 n2 cp2) := Lib.hid fun V hV => ⟨(h.below hb1).below hV, (hd.below hb1).below hV, hx1.below hV⟩
  have HL := Lib.hid hl
  have HLL := Lib.hid HLD
  have HB1 := Lib.hid hb1
  have LW : ∀ V, Below w1.heap.size w1 V → (Instr.loadAt 31 (.pointer (some ⟨w.heap.size, 0, none⟩))).run Tryz.prog V = .ok (.agg Cw) V := fun V hV => (HX.out V hV).2.2.loadW hcs
  have LT : ∀ V, Below w1.heap.size w1 V → (Instr.loadAt 34 (.pointer (some ⟨w.heap.size, 65, none⟩))).run Tryz.prog V = .ok (docV r A2 n2 cp2) V := fun V hV => (HX.out V hV).2.2.loadT hcs
  have KWI : Hid (∀ V, Below w1.heap.size w1 V → Calls Tryz.prog 30 #[.pointer (some ⟨bj, 0, none⟩)] V fun e w'' => ∃ u, e = .returned u ∧ (∃ g, u = .pointer (some ⟨g, 0, none⟩) ∧ WinAt w'' g t q) ∧ Below V.heap.size V w'') := Lib.hid fun V hV => (jwindow_any (HX.out V hV).1).mono fun e w'' ⟨he, hw, hb⟩ => ⟨_, he, ⟨_, rfl, hw⟩, hb⟩
  have KTA : Hid (∀ V, Below w1.heap.size w1 V → Calls Tryz.prog 31 #[.pointer (some ⟨bj, 0, none⟩)] V fun e w'' => ∃ u, e = .returned u ∧ (∃ c m A n cp X S, u = .pointer (some ⟨c, 0, none⟩) ∧ TblAt w'' S c r m A n cp X ∧ Tb.Likes (L.map Ds.ms) (X.map Sx.ms)) ∧ Below V.heap.size V w'') := Lib.hid fun V hV => (jtable_any (HX.out V hV).1).mono fun e w'' ⟨c, m, A, n, cp, X, he, ht, hlk, hb⟩ => ⟨_, he, ⟨c, m, A, n, cp, X, _, rfl, ht, HL.out.trans hlk⟩, hb⟩
  obtain ⟨H, hH⟩ : ∃ H, Tb.held T = H := ⟨_, rfl⟩
  have KH1 : Hid (∀ V, Below w1.heap.size w1 V → Calls Tryz.prog 34 #[.pointer (some ⟨bj, 0, none⟩)] V fun e w'' => e = .returned (.int .i64 (H : Int)) ∧ Below V.heap.size V w'') := Lib.hid fun V hV => by
    have := jheld_any (HX.out V hV).1
    rwa [hH] at this
  have KH2 : Hid (∀ V, Below w1.heap.size w1 V → Calls Tryz.prog 35 #[docV r A2 n2 cp2] V fun e w'' => e = .returned (.int .i64 (H : Int)) ∧ Below V.heap.size V w'') := Lib.hid fun V hV => by
    have := dheld_any (HX.out V hV).2.1 r
    rwa [hheld, hH] at this
  have KTT : Hid (∀ (c : Nat) V, Below w1.heap.size w1 V → (∃ m A n cp X S, TblAt V S c r m A n cp X ∧ Tb.Likes (L.map Ds.ms) (X.map Sx.ms)) → Calls Tryz.prog 33 #[.pointer (some ⟨c, 0, none⟩), docV r A2 n2 cp2] V fun e w'' => e = .returned (.bool true) ∧ Below V.heap.size V w'') := Lib.hid fun c V hV ⟨m, A, n, cp, X, S, ht, hlk⟩ => talike_any ht (HX.out V hV).2.1 hlk
  have HCS := Lib.hid hcs
  clear hheld hl h hd hw1 hx1 hb1 hH HLD HCI hcs hht hhq
  unfold docV at *
  generalize hCj : jCw Cw r A2 n2 cp2 = Cj at HW1 ⊢
  clear hCj
  refine (callsIn_wide (n := 12)).1 ?_
  refine callsIn_of_wp_marks Tryz.func17 rfl trivial ?_ rfl
  simp only [Tryz.ntmps17, List.size_toArray, List.length_cons, List.length_nil, Nat.reduceAdd, Nat.reduceSub, Array.replicate_succ, Array.replicate_zero, List.push_toArray, List.append_toArray, List.nil_append, List.cons_append]
  gi_wp2_with fail
  rw [HW1.out]
  refine wpIn_wide.2 ?_
  refine wp_region_F 92 [11, 14, 18, 21] (FAl r t q (L.map Ds.ms)) (fun V => Below w1.heap.size w1 V) (by kernel_rfl) (by kernel_rfl) (by rfl) (by simp) (fun W W' h hb => h.trans (hb.mono h.size)) (fun p x W W' hp hb => hp.later hb) (Below.refl _ _).drew ?_
  repeat (refine wpF_pure rfl rfl ?_; go_big_quiet_step (fail); refine wpQuiet_nil ?_)
  refine wpF_callsrc 11 (f := 30) (args := #[.pointer (some ⟨bj, 0, none⟩)]) (by simp) rfl rfl rfl (fun x => by first | rfl | (simp [go_sem]; done)) (fun V hV => (KWI.out V hV).mono fun e w'' ⟨u, h1, h2, h3⟩ => ⟨u, h1, by simpa [FAl] using h2, h3⟩) ?_
  simp only [Act.put, List.setIfInBounds_toArray, List.set_cons_succ, List.set_cons_zero]
  repeat (refine wpF_pure rfl rfl ?_; go_big_quiet_step (fail); refine wpQuiet_nil ?_)
  refine wpF_load (.agg Cw) rfl (by rfl) (by rfl) (by rfl) LW ?_
  simp only [Act.put, List.setIfInBounds_toArray, List.set_cons_succ, List.set_cons_zero]
  refine wpF_mixcall 14 [11] (f := 32) (fun xs => #[xs 11, .agg Cw]) (by simp) rfl (by kernel_rfl) (by kernel_rfl) (fun xs => by rfl) (fun xs W => by first | rfl | (simp [fill, Act.put, Act.eval, go_sem]; done)) (fun xs W hW hx => ?_) ?_
  · obtain ⟨g, e11, hg⟩ := (show ∃ g, xs 11 = .pointer (some ⟨g, 0, none⟩) ∧ WinAt W g t q from by simpa [FAl] using hx 11 (by simp))
    rw [e11]
    exact (KWA.out g W hg).mono fun e w'' ⟨he, hb⟩ => ⟨_, he, by simp [FAl], hb⟩
  simp only [Act.put, List.setIfInBounds_toArray, List.set_cons_succ, List.set_cons_zero]
  refine wpF_useval 14 4 (.bool false) (by simp) (by rfl) (by kernel_rfl) (by kernel_rfl) (by rfl) (fun x => by rfl) (fun x W hW hx => ?_) ?_
  · have hx' : x = .bool true := by simpa [FAl] using hx
    subst hx'
    first | rfl | simp [execOp, Act.put, Act.eval, go_sem]
  simp only [Act.put, List.setIfInBounds_toArray, List.set_cons_succ, List.set_cons_zero]
  repeat (refine wpF_pure rfl rfl ?_; go_big_quiet_step (fail); refine wpQuiet_nil ?_)
  refine wpF_callsrc 18 (f := 31) (args := #[.pointer (some ⟨bj, 0, none⟩)]) (by simp) rfl rfl rfl (fun x => by first | rfl | (simp [go_sem]; done)) (fun V hV => (KTA.out V hV).mono fun e w'' ⟨u, h1, h2, h3⟩ => ⟨u, h1, by simpa [FAl] using h2, h3⟩) ?_
  simp only [Act.put, List.setIfInBounds_toArray, List.set_cons_succ, List.set_cons_zero]
  repeat (refine wpF_pure rfl rfl ?_; go_big_quiet_step (fail); refine wpQuiet_nil ?_)
  refine wpF_load _ rfl (by rfl) (by rfl) (by rfl) LT ?_
  simp only [Act.put, List.setIfInBounds_toArray, List.set_cons_succ, List.set_cons_zero]
  refine wpF_mixcall 21 [18] (f := 33) (fun xs => #[xs 18, .agg #[.int .i64 (r : Int), .slice A2 n2 cp2]]) (by simp) rfl (by kernel_rfl) (by kernel_rfl) (fun xs => by rfl) (fun xs W => by first | rfl | (simp [fill, Act.put, Act.eval, go_sem]; done)) (fun xs W hW hx => ?_) ?_
  · obtain ⟨c, m, A, n, cp, X, S, e18, hT⟩ := (show ∃ c m A n cp X S, xs 18 = .pointer (some ⟨c, 0, none⟩) ∧ TblAt W S c r m A n cp X ∧ Tb.Likes (L.map Ds.ms) (X.map Sx.ms) from by simpa [FAl] using hx 18 (by simp))
    rw [e18]
    exact (KTT.out c W hW ⟨m, A, n, cp, X, S, hT⟩).mono fun e w'' ⟨he, hb⟩ => ⟨_, he, by simp [FAl], hb⟩
  simp only [Act.put, List.setIfInBounds_toArray, List.set_cons_succ, List.set_cons_zero]
  refine wpF_useval 21 11 (.bool false) (by simp) (by rfl) (by kernel_rfl) (by kernel_rfl) (by rfl) (fun x => by rfl) (fun x W hW hx => ?_) ?_
  · have hx' : x = .bool true := by simpa [FAl] using hx
    subst hx'
    first | rfl | simp [execOp, Act.put, Act.eval, go_sem]
  simp only [Act.put, List.setIfInBounds_toArray, List.set_cons_succ, List.set_cons_zero]
  repeat (refine wpF_pure rfl rfl ?_; go_big_quiet_step (fail); refine wpQuiet_nil ?_)
  refine wpF_call (f := 34) (args := #[.pointer (some ⟨bj, 0, none⟩)]) (.int .i64 (H : Int)) rfl rfl (fun x => by first | rfl | (simp [go_sem]; done)) KH1.out ?_
  simp only [Act.put, List.setIfInBounds_toArray, List.set_cons_succ, List.set_cons_zero]
  repeat (refine wpF_pure rfl rfl ?_; go_big_quiet_step (fail); refine wpQuiet_nil ?_)
  refine wpF_load _ rfl (by rfl) (by rfl) (by rfl) LT ?_
  simp only [Act.put, List.setIfInBounds_toArray, List.set_cons_succ, List.set_cons_zero]
  refine wpF_call (f := 35) (args := #[.agg #[.int .i64 (r : Int), .slice A2 n2 cp2]]) (.int .i64 (H : Int)) rfl rfl (fun x => by first | rfl | (simp [go_sem]; done)) KH2.out ?_
  simp only [Act.put, List.setIfInBounds_toArray, List.set_cons_succ, List.set_cons_zero]
  repeat (refine wpF_pure rfl rfl ?_; go_big_quiet_step (fail); refine wpQuiet_nil ?_)
  intro xs4 w4 hb4 _
  simp only [fill, Act.put, List.setIfInBounds_toArray, List.set_cons_succ, List.set_cons_zero]
  generalize xs4 11 = x11
  generalize xs4 14 = x14
  generalize xs4 18 = x18
  generalize xs4 21 = x21
  have HB4 := Lib.hid hb4
  obtain ⟨bi, hbi⟩ : ∃ bi, w4.heap.size = bi := ⟨_, rfl⟩
  obtain ⟨w5, hw5⟩ : ∃ w5, (w4.alloc (.cells #[.int .i64 0] 3)).alloc (.cells #[.bool true] 4) = w5 := ⟨_, rfl⟩
  have hb45 : Below w4.heap.size w4 w5 := by rw [← hw5]; exact ((Below.refl _ w4).alloc (Nat.le_refl _) _).alloc (by simp) _
  have hs5 : w5.heap.size = bi + 2 := by rw [← hw5, ← hbi]; simp
  have bI5 : Boxed w5 bi 3 (.int .i64 0) := by rw [← hw5, ← hbi]; exact (Boxed.new w4 _ _).alloc _
  have bO5 : Boxed w5 (bi + 1) 4 (.bool true) := by
    rw [← hw5, ← hbi]
    have := Boxed.new (w4.alloc (.cells #[.int .i64 0] 3)) 4 (.bool true)
    rwa [World.size_alloc] at this
  have hb5 : Below w1.heap.size w1 w5 := hb4.trans (hb45.mono hb4.size)
  have hwbi : w1.heap.size ≤ bi := by rw [← hbi]; exact hb4.size
  have KW := jwait_any (HX.out w5 hb5).1
  have HW5 := Lib.hid hw5
  have HBI := Lib.hid hbi
  have HBI5 := Lib.hid bI5
  have HBO5 := Lib.hid bO5
  have HB5 := Lib.hid hb5
  clear hb4 hw5 hb45 hb5 bI5 bO5 hbi LW LT KWI KTA KH1 KH2 KTT KWA
  gi_wp2_with fail
  refine ⟨trivial, ?_⟩
  rw [HW5.out, HBI.out]
  refine (callsIn_wide.2 KW).mono ?_
  rintro e w6 ⟨Bs, p, c, m', A', n6, cp', X', rfl, hbs, hbx, hBs, hp, hT6, hlk, hb56⟩
  have hnn := jwait_not_nil Bs w6
  have hs6 := hb56.size
  have hbiw : bi + 1 < w6.heap.size := by omega
  have hA6 : AlS w6 bi 0 w6 := ⟨(hb56.block _ (by omega)).trans HBI5.out, (hb56.block _ (by omega)).trans HBO5.out, Off.refl _ _⟩
  have hb16 := HB5.out.trans (hb56.mono HB5.out.size)
  have hlx := HL.out.trans hlk
  have hxl6 := hT6.len
  have hn62 : n6 = n2 := by
    have h1 := hlx.len
    rw [List.length_map, List.length_map, hxl6, HLL.out] at h1
    first | exact h1 | exact h1.symm
  subst hn62
  have hkeep : ∀ V, Off (fun k => k = bi ∨ k = bi + 1) w6 V → TblAt V (fun q => w5.heap.size ≤ q) c r m' A' n6 cp' X' ∧ Boxed V p 66 (.pointer (some ⟨c, 0, none⟩)) ∧ Boxed V Bs 134 (.func (.func 91) #[] #[.pointer (some ⟨p, 0, none⟩)]) := fun V hV => by
    refine ⟨hT6.off hV (fun q hq hk => by omega) (fun x _ cs h1 hk => ?_) (fun g cs h1 hk => ?_), (hV.block p hbx.lt (by omega)).trans hbx, (hV.block Bs hbs.lt (by omega)).trans hbs⟩
    · rcases hk with e | e
      · have h2 := hA6.at'
        rw [← e] at h2
        exact boxed_not h2 h1 (by decide)
      · have h2 := hA6.ok
        rw [← e] at h2
        exact boxed_not h2 h1 (by decide)
    · rcases hk with e | e
      · have h2 := hA6.at'
        rw [← e] at h2
        exact boxed_not h2 h1 (by decide)
      · have h2 := hA6.ok
        rw [← e] at h2
        exact boxed_not h2 h1 (by decide)
  have HKP := Lib.hid hkeep
  have HA6 := Lib.hid hA6
  have HB16 := Lib.hid hb16
  have HLX := Lib.hid hlx
  have HX6 := Lib.hid hxl6
  have hpw : p < w6.heap.size := hbx.lt
  clear hkeep hA6 hb16 hlx hxl6 hlk hT6 hbx hb56 hs6 KW hp hbs hBs
  gi_wp2_with fail
  refine range_stopsL rfl (by omega) (gf := 72) (lb := #[.pointer (some ⟨Bs, 0, none⟩)]) rfl trivial (enters_of Tryz.func72 (by kernel_rfl) rfl)
    (fun x : Sx => #[Value.int .u32 x.s, .int .i64 (x.c - (x.E.length : Int))]) (fun _ => rfl)
    (fun j x V => AlS w6 bi j V ∧ X'[j]? = some x)
    (fun j V => AlS w6 bi j V) (fun _ _ => False)
    (fun V V' => ∀ k cs t, w6.heap.size + 2 ≤ k → V.heap[k]? = some (.cells cs t (0, 0)) → V'.heap[k]? = some (.cells cs t (0, 0))) n6
    (fun j x V l o o' h hl ho => ⟨h.1.below hbiw (below_put V o' hl), h.2⟩)
    (fun j V l o o' h hl ho => h.below hbiw (below_put V o' hl))
    (fun _ _ _ _ _ h _ _ _ => h)
    (fun _ _ _ h k q cs t h1 h2 => k q cs t h1 (h q cs t h1 h2))
    (fun V l o o' hl ho hc q cs t h1 h2 => (World.putObj_heap_other (fun e => by
      rw [e, ho] at h2; injection h2 with h2; rw [h2] at hc; cases hc)).trans h2)
    (fun o => HA6.out.below hbiw (((Below.refl w6.heap.size w6).alloc (Nat.le_refl _) _).alloc (by simp) _)) ?a1 ?assign ?body ?iter ?done ?stop
  case assign =>
    intro l x V K hK
    gi_wp2
    exact hK
  case body =>
    rintro l j x V hl ⟨hA, hxj⟩ hj
    obtain ⟨d, hdj⟩ : ∃ d, L[j]? = some d := ⟨_, List.getElem?_eq_getElem (by rw [HLL.out]; exact hj)⟩
    have hB1V : Below w1.heap.size w1 V := HB16.out.trans (hA.off.below (fun k hk => by omega) HB16.out.size)
    obtain ⟨_, hdoc, hbox⟩ := HX.out V hB1V
    obtain ⟨y', hy', hly⟩ := HLX.out.at (j := j) (x := d.ms) (by rw [List.getElem?_map, hdj]; rfl)
    rw [List.getElem?_map, hxj] at hy'
    injection hy' with hy'
    subst hy'
    have hdat := hdoc.at' d (List.mem_of_getElem? hdj)
    have e5 : x.s = d.s := hly.2.2.1
    have e6 : x.c = d.c := hly.2.2.2.1
    have e7 := hly.2.2.2.2.length_eq
    have e8 := hdat.ref.len
    simp only [Sx.ms, Ds.ms, List.length_map] at e7
    have hlk : x.c - (x.E.length : Int) = d.c - (d.n : Int) := by omega
    have hxat := (HKP.out V hA.off).1.slots x (List.mem_of_getElem? hxj)
    obtain ⟨cn, hcn, _, hcn2, hcn3, _⟩ := SlotAt.count hxat
    have hdn : (d.n : Int) ≤ d.c := by omega
    have hdc : d.c ≤ 255 := by omega
    obtain ⟨g, off, rfl, hg, a0, a1, a2, a3, a4, a5⟩ := hdoc.six hdj
    have hjn : (j : Int) < (n6 : Int) := by omega
    have hnc : (n6 : Int) ≤ (cp2 : Int) := by have := hdoc.room; omega
    rw [e5, hlk]
    obtain ⟨dv, dk, ds, dc, dA, dn, dcp, dgs⟩ := d
    simp only at *
    have hAV := HA6.out
    have LO : ∀ V', Below V.heap.size V V' → (Instr.loadAt 4 (.pointer (some ⟨bi + 1, 0, none⟩))).run Tryz.prog V' = .ok (.bool true) V' := fun V' hV => by
      have := (show Boxed V' (bi + 1) 4 (.bool true) from (hV.block _ hA.ok.lt).trans hA.ok).cell
      simp [Instr.loadAt, go_sem, this]
    have LI : ∀ V', Below V.heap.size V V' → (Instr.loadAt 3 (.pointer (some ⟨bi, 0, none⟩))).run Tryz.prog V' = .ok (.int .i64 (j : Int)) V' := fun V' hV => by
      have := (show Boxed V' bi 3 (.int .i64 (j : Int)) from (hV.block _ hA.at'.lt).trans hA.at').cell
      simp [Instr.loadAt, go_sem, this]
    have LS : ∀ V', Below V.heap.size V V' → (Instr.loadAt 32 (.pointer (some ⟨w.heap.size, 66, none⟩))).run Tryz.prog V' = .ok (.slice (some ⟨g, off, none⟩) n6 cp2) V' := fun V' hV => (hbox.below hV).loadL HCS.out
    have Lq : ∀ V', Below V.heap.size V V' → (Instr.loadAt 22 (.pointer (some ⟨g, off + j * 6 + 2, none⟩))).run Tryz.prog V' = .ok (.int .u32 ds) V' := fun V' hV => by
      have := (hV.cell (p := ⟨g, off + j * 6 + 2, none⟩) hg).trans a2
      simp [Instr.loadAt, go_sem, this]
    have Lc : ∀ V', Below V.heap.size V V' → (Instr.loadAt 3 (.pointer (some ⟨g, off + j * 6 + 4, none⟩))).run Tryz.prog V' = .ok (.int .i64 dc) V' := fun V' hV => by
      have := (hV.cell (p := ⟨g, off + j * 6 + 4, none⟩) hg).trans a4
      simp [Instr.loadAt, go_sem, this]
    have Ll : ∀ V', Below V.heap.size V V' → (Instr.loadAt 82 (.pointer (some ⟨g, off + j * 6 + 5, none⟩))).run Tryz.prog V' = .ok (.slice dA dn dcp) V' := fun V' hV => by
      have := (hV.cell (p := ⟨g, off + j * 6 + 5, none⟩) hg).trans a5
      simp [Instr.loadAt, go_sem, this]
    have HA := Lib.hid hA
    clear hxj hdj hB1V hdoc hbox hly hdat e5 e6 e7 e8 hlk hxat hcn hcn2 hcn3 hA hj hnn hAV a0 a1 a2 a3 a4 a5
    gi_wp2_with fail
    refine wpIn_region_FS 92 42 42 [] (fun _ _ _ => True) (fun W => Below V.heap.size V W) (fun _ W W' => W' = W.setCell ⟨bi + 1, 0, none⟩ (.bool true)) (by kernel_rfl) (fun ⟨_, _, h⟩ => h) (by kernel_rfl) (by rfl) (by kernel_rfl) (by rfl) (by simp) (fun W W' h hb => h.trans (hb.mono h.size)) (fun _ _ _ _ _ _ => trivial) (Below.refl _ _).drew (by rfl) ?_
    refine wpFS_step (wpF_load (.bool true) rfl (by rfl) (by rfl) (by rfl) LO ?_)
    simp only [wpF, Act.put, List.setIfInBounds_toArray, List.set_cons_succ, List.set_cons_zero]
    repeat (refine wpFS_step (wpF_pure rfl rfl ?_); go_big_quiet_step (fail); refine wpQuiet_nil ?_; simp only [wpF])
    refine wpFS_step (wpF_load (.int .i64 (j : Int)) rfl (by rfl) (by rfl) (by rfl) LI ?_)
    simp only [wpF, Act.put, List.setIfInBounds_toArray, List.set_cons_succ, List.set_cons_zero]
    repeat (refine wpFS_step (wpF_pure rfl rfl ?_); go_big_quiet_step (fail); refine wpQuiet_nil ?_; simp only [wpF])
    refine wpFS_step (wpF_load (.slice (some ⟨g, off, none⟩) n6 cp2) rfl (by rfl) (by rfl) (by rfl) LS ?_)
    simp only [wpF, Act.put, List.setIfInBounds_toArray, List.set_cons_succ, List.set_cons_zero]
    repeat (refine wpFS_step (wpF_pure rfl rfl ?_); go_big_quiet_step (fail); refine wpQuiet_nil ?_; simp only [wpF])
    refine wpFS_step (wpF_load (.slice (some ⟨g, off, none⟩) n6 cp2) rfl (by rfl) (by rfl) (by rfl) LS ?_)
    simp only [wpF, Act.put, List.setIfInBounds_toArray, List.set_cons_succ, List.set_cons_zero]
    refine wpFS_step (wpF_load (.int .i64 (j : Int)) rfl (by rfl) (by rfl) (by rfl) LI ?_)
    simp only [wpF, Act.put, List.setIfInBounds_toArray, List.set_cons_succ, List.set_cons_zero]
    repeat (refine wpFS_step (wpF_pure rfl rfl ?_); go_big_quiet_step (fail); refine wpQuiet_nil ?_; simp only [wpF])
    refine wpFS_step (wpF_load (.int .u32 ds) rfl (by rfl) (by rfl) (by rfl) Lq ?_)
    simp only [wpF, Act.put, List.setIfInBounds_toArray, List.set_cons_succ, List.set_cons_zero]
    repeat (refine wpFS_step (wpF_pure rfl rfl ?_); go_big_quiet_step (fail); refine wpQuiet_nil ?_; simp only [wpF])
    refine wpFS_step (wpF_load (.slice (some ⟨g, off, none⟩) n6 cp2) rfl (by rfl) (by rfl) (by rfl) LS ?_)
    simp only [wpF, Act.put, List.setIfInBounds_toArray, List.set_cons_succ, List.set_cons_zero]
    refine wpFS_step (wpF_load (.int .i64 (j : Int)) rfl (by rfl) (by rfl) (by rfl) LI ?_)
    simp only [wpF, Act.put, List.setIfInBounds_toArray, List.set_cons_succ, List.set_cons_zero]
    repeat (refine wpFS_step (wpF_pure rfl rfl ?_); go_big_quiet_step (fail); refine wpQuiet_nil ?_; simp only [wpF])
    refine wpFS_step (wpF_load (.int .i64 dc) rfl (by rfl) (by rfl) (by rfl) Lc ?_)
    simp only [wpF, Act.put, List.setIfInBounds_toArray, List.set_cons_succ, List.set_cons_zero]
    repeat (refine wpFS_step (wpF_pure rfl rfl ?_); go_big_quiet_step (fail); refine wpQuiet_nil ?_; simp only [wpF])
    refine wpFS_step (wpF_load (.slice (some ⟨g, off, none⟩) n6 cp2) rfl (by rfl) (by rfl) (by rfl) LS ?_)
    simp only [wpF, Act.put, List.setIfInBounds_toArray, List.set_cons_succ, List.set_cons_zero]
    refine wpFS_step (wpF_load (.int .i64 (j : Int)) rfl (by rfl) (by rfl) (by rfl) LI ?_)
    simp only [wpF, Act.put, List.setIfInBounds_toArray, List.set_cons_succ, List.set_cons_zero]
    repeat (refine wpFS_step (wpF_pure rfl rfl ?_); go_big_quiet_step (fail); refine wpQuiet_nil ?_; simp only [wpF])
    refine wpFS_step (wpF_load (.slice dA dn dcp) rfl (by rfl) (by rfl) (by rfl) Ll ?_)
    simp only [wpF, Act.put, List.setIfInBounds_toArray, List.set_cons_succ, List.set_cons_zero]
    repeat (refine wpFS_step (wpF_pure rfl rfl ?_); go_big_quiet_step (fail); refine wpQuiet_nil ?_; simp only [wpF])
    refine wpFS_store rfl rfl rfl ⟨bi + 1, 0, none⟩ (fun _ => .bool true) (fun _ => rfl) (fun _ => by rfl) (fun xs W hW _ => ?_) ?_
    · have hb := (show Boxed W (bi + 1) 4 (.bool true) from (hW.block _ HA.out.ok.lt).trans HA.out.ok)
      have k1 := hb.cell
      have k2 := hb.frozen
      exact ⟨_, by simp [Instr.storeAt, go_sem, k1, k2], rfl⟩
    simp only [wpFS]
    rintro xs W W' hW _ rfl
    have hs2 := hW.size
    have hAV := HA.out.off.size
    have hA2 := HA.out.below hbiw (hW.mono hAV)
    have kI := (hA2.at'.other (show bi ≠ bi + 1 by omega) (.bool true)).cell
    have fI := (hA2.at'.other (show bi ≠ bi + 1 by omega) (.bool true)).frozen
    have hFIN : Hid (KeepsFrom w6.heap.size V ((W.setCell ⟨bi + 1, 0, none⟩ (.bool true)).setCell ⟨bi, 0, none⟩ (.int .i64 ((j : Int) + 1))) ∧ AlS w6 bi (j + 1) ((W.setCell ⟨bi + 1, 0, none⟩ (.bool true)).setCell ⟨bi, 0, none⟩ (.int .i64 ((j : Int) + 1))) ∧ ∀ k cs t, w6.heap.size + 2 ≤ k → V.heap[k]? = some (.cells cs t (0, 0)) → ((W.setCell ⟨bi + 1, 0, none⟩ (.bool true)).setCell ⟨bi, 0, none⟩ (.int .i64 ((j : Int) + 1))).heap[k]? = some (.cells cs t (0, 0))) := Lib.hid (by
      have hof : Off (fun k => k = bi ∨ k = bi + 1) W ((W.setCell ⟨bi + 1, 0, none⟩ (.bool true)).setCell ⟨bi, 0, none⟩ (.int .i64 ((j : Int) + 1))) := ((Off.refl _ W).setCell (p := ⟨bi + 1, 0, none⟩) (.inr rfl) _).setCell (p := ⟨bi, 0, none⟩) (.inl rfl) _
      have hk : ∀ k (o : Obj), w6.heap.size ≤ k → V.heap[k]? = some o → ((W.setCell ⟨bi + 1, 0, none⟩ (.bool true)).setCell ⟨bi, 0, none⟩ (.int .i64 ((j : Int) + 1))).heap[k]? = some o := fun k o h1 h2 => by
        have h3 := (Array.getElem?_eq_some_iff.1 h2).1
        exact (hof.block k (by omega) (by omega)).trans ((hW.block k h3).trans h2)
      refine ⟨⟨Nat.le_trans hs2 hof.size, fun k o h1 h2 _ => hk k o h1 h2⟩, ⟨?_, ?_, ?_⟩, fun k cs t h1 h2 => hk k _ (by omega) h2⟩
      · have := Boxed.set (.int .i64 ((j : Int) + 1)) (hA2.at'.other (show bi ≠ bi + 1 by omega) (.bool true))
        rw [Int.natCast_succ]
        exact this
      · exact (hA2.ok.set _).other (by omega) _
      · exact (hA2.off.setCell (p := ⟨bi + 1, 0, none⟩) (.inr rfl) _).setCell (p := ⟨bi, 0, none⟩) (.inl rfl) _)
    clear hA2 hW hs2 hAV HA LO LI LS Lq Lc Ll
    simp only [fill]
    gi_wp2
    exact hFIN.out
  case iter =>
    intro Bk Xp l V hBk hBlt hX hl2 hD hB hY
    refine (jwait_in 11 (by omega) 10 l Bs w6.heap.size p (some ⟨c, 0, none⟩) X' (fun j V => AlS w6 bi j V) Bk Xp (fun V V' => ∀ k cs t, w6.heap.size + 2 ≤ k → V.heap[k]? = some (.cells cs t (0, 0)) → V'.heap[k]? = some (.cells cs t (0, 0))) hl2 (fun j A B h hb => h.below hbiw hb) (fun j V h => ⟨(HKP.out V h.off).2.1.cell, (HKP.out V h.off).1.slots⟩) hBk hBlt hX (fun V V' k cs t h h1 h2 => h k cs t h1 h2) (fun l2 Bs2 J Jx hJ hYY V h0 => ?_) (fun j x V h hx hb => ?_) V (HKP.out V hD.off).2.2.cell hD hB).mono ?_
    · rw [HX6.out]
      refine teach_in 9 (by omega) _ l2 Bs2 c r m' A' n6 cp' X' J Jx (fun j W hj => ?_) hYY V h0
      obtain ⟨h1, k, hk⟩ := hJ j W hj
      exact ⟨h1, _, (HKP.out W hk.off).1⟩
    · exact hY j x V ⟨h, hx⟩ hb (by rw [← HX6.out]; exact (List.getElem?_eq_some_iff.1 hx).1)
    · intro e W' h
      rw [HX6.out] at h
      exact h
  case done =>
    rintro D V hD hA hK
    have hB1V : Below w1.heap.size w1 V := HB16.out.trans (hA.off.below (fun k hk => by omega) HB16.out.size)
    obtain ⟨_, _, hbox⟩ := HX.out V hB1V
    obtain ⟨k0, k1⟩ := hbox.cells HCS.out
    have kI := hA.at'.cell
    have kO := hA.ok.cell
    have hfin := Lib.hid (HB1.out.trans ((hB1V.trans (below_put (B := w1.heap.size) V (.deferred none) (by omega : w1.heap.size ≤ D))).mono HB1.out.size))
    clear hA hB1V hbox hnn
    gi_wp2
    refine ⟨by simp, .inl ⟨_, _, rfl, run_takeDeferred hK, ?_⟩⟩
    refine ⟨_, results_tmp rfl _ _ _, rfl, ?_⟩
    exact hfin.out
  case stop =>
    rintro D cd V _ h _
    exact h.elim
end Go.Proofs.YtfdbcfkjablnkaaGreat

namespace Go.Proofs.YtfdbcfkjablnkaaGreat
open Go.RowKit
set_option maxRecDepth 100000

/-- what Done answers -/
def DDoneR (w : World) (t : Int) (q : Nat) (r : Nat) (_A : Option Addr) (_n _cp : Nat) (L : List Ds) (z : Int) (e : Ending) (w' : World) : Prop :=
  Below w.heap.size w w' ∧ ∃ A' cp' L', e = .returned (.tuple #[.agg (jC (if Wn.look t q z = 0 then Wn.nt t z else t) (if Wn.look t q z = 0 then Wn.nq t q z else q) r A' L'.length cp'), .int .i64 (Wn.look t q z)]) ∧
    DocAt w' A' L'.length cp' L' ∧ L' = if Wn.look t q z = 0 then L.filter fun d => d.s != z else L
section
variable {w w' : World} {A : Option Addr} {n cp : Nat} {L : List Ds} {t : Int} {q : Nat}
/-- three boxes: the call's copy of the joiner, its result's, and a window's -/
structure Jb (w : World) (Cw : Array Value) (r : Nat) (A : Option Addr) (n cp : Nat) (Z : Array Value) (W : World) : Prop where
  j : JdAt W w.heap.size Cw r A n cp
  res : W.heap[w.heap.size + 1]? = some (.cells Z 36 (0, 0))
  below : Below w.heap.size w W
theorem Jb.later {Cw Z : Array Value} {r : Nat} {W W' : World} (h : Jb w Cw r A n cp Z W) (hb : Below W.heap.size W W') : Jb w Cw r A n cp Z W' :=
  ⟨h.j.below hb, row_keep h.res hb, h.below.trans (hb.mono h.below.size)⟩
theorem Jb.start {Cw Z : Array Value} {r : Nat} {w1 : World} (hw : (w.alloc (.cells (jCw Cw r A n cp) 36)).alloc (.cells Z 36) = w1) : Jb w Cw r A n cp Z w1 ∧ w1.heap.size = w.heap.size + 2 := by
  subst hw
  exact ⟨⟨heap_alloc2_old w _ _, heap_alloc2_new w _ _, ((Below.refl _ w).alloc (Nat.le_refl _) _).alloc (by simp) _⟩, by simp⟩
/-- the result is stored -/
theorem Jb.fin {Cw Z : Array Value} {r : Nat} {W : World} (h : Jb w Cw r A n cp Z W) (hs : Cw.size = 65) (h1 : Cw.all (·.oneCell') = true) (hz : Z.size = 67) (hu : ∀ (j : Nat) (z : Int), Z[j]? ≠ some (.int .u8 z)) (hd : DocAt W A n cp L) :
    (Instr.storeAt 36 (.pointer (some ⟨w.heap.size + 1, 0, none⟩)) (.agg (jCw Cw r A n cp))).run Tryz.prog W = .ok () (W.setRow (w.heap.size + 1) (jCw Cw r A n cp)) ∧
      (W.setRow (w.heap.size + 1) (jCw Cw r A n cp)).heap[w.heap.size + 1]? = some (.cells (jCw Cw r A n cp) 36 (0, 0)) ∧ Below w.heap.size w (W.setRow (w.heap.size + 1) (jCw Cw r A n cp)) ∧ DocAt (W.setRow (w.heap.size + 1) (jCw Cw r A n cp)) A n cp L :=
  ⟨jd_store h.res hz (jCw_size hs) (jCw_one h1), setRow_heap _ _ _ _ _ _ h.res, setRow_new h.below (by omega) _, hd.smj (Off.setRow (S := fun q => q = w.heap.size + 1) (Off.refl _ _) rfl _) (smj_row h.res hu)⟩
set_option maxHeartbeats 8000000 in
theorem jddone_any (h : DocAt w A n cp L) (r : Nat) (ht : 0 ≤ t ∧ t < 4294967296) (_hq : q < 18446744073709551616) (z : Int) (hz : 0 ≤ z ∧ z < 4294967296) :
    Calls Tryz.prog 12 #[.agg (jC t q r A n cp), .int .u32 z] w (DDoneR w t q r A n cp L z) := by
  obtain ⟨hzj, hzji⟩ := zero_of_info (P := Tryz.prog) jdZero
  have hzjs : (jCw (wC 0 (fun _ => false)) 0 none 0 0).size = 67 := jCw_size (wC_size _ _)
  have hzju : ∀ (j : Nat) (z : Int), (jCw (wC 0 (fun _ => false)) 0 none 0 0)[j]? ≠ some (.int .u8 z) := fun j z => jC_u8
  generalize jCw (wC 0 (fun _ => false)) 0 none 0 0 = Z at *
  obtain ⟨hzw, hzwi⟩ := zero_of_info (P := Tryz.prog) wZero
  have hzws : (wC 0 (fun _ => false)).size = 65 := wC_size _ _
  generalize wC 0 (fun _ => false) = Zw at *
  have KM := Lib.hid (fun W => rmark_any t q z ht hz W)
  obtain ⟨K, hK⟩ : ∃ K, Wn.look t q z = K := ⟨_, rfl⟩
  rw [hK] at KM
  have HEND : Hid (∀ e w', (Below w.heap.size w w' ∧ ∃ A' cp' L', e = .returned (.tuple #[.agg (jC (if K = 0 then Wn.nt t z else t) (if K = 0 then Wn.nq t q z else q) r A' L'.length cp'), .int .i64 K]) ∧
    DocAt w' A' L'.length cp' L' ∧ L' = if K = 0 then L.filter fun d => d.s != z else L) → DDoneR w t q r A n cp L z e w') := Lib.hid fun e w' h => by subst hK; exact h
  generalize DDoneR w t q r A n cp L z = G at *
  clear hK
  generalize (if K = 0 then Wn.nt t z else t) = t' at *
  generalize (if K = 0 then Wn.nq t q z else q) = q' at *
  unfold jC at *
  unfold refV at KM
  have hcs := wC_size t q.testBit
  have hcs' := wC_size t' q'.testBit
  have hc1' := wC_one t' q'.testBit
  have hcu' : ∀ (r : Nat) (A : Option Addr) (n cp j : Nat) (z : Int), (jCw (wC t' q'.testBit) r A n cp)[j]? ≠ some (.int .u8 z) := fun r A n cp j z => jC_u8
  generalize wC t q.testBit = Cw at *
  generalize wC t' q'.testBit = Cw' at *
  obtain ⟨w1, hw1⟩ : ∃ w1, (w.alloc (.cells (jCw Cw r A n cp) 36)).alloc (.cells Z 36) = w1 := ⟨_, rfl⟩
  obtain ⟨hB1, hs1⟩ := Jb.start hw1
  have HD := Lib.hid h
  have HL1 := Lib.hid (hB1.j.loadW hcs)
  have HCS := Lib.hid hcs
  have HCS' := Lib.hid hcs'
  have HC1' := Lib.hid hc1'
  have HB1 := Lib.hid hB1
  have HW1 := Lib.hid hw1
  have HZJ := Lib.hid hzjs
  have HZW := Lib.hid hzws
  have HZWI := Lib.hid hzwi
  have HZU := Lib.hid hzju
  have HCU := Lib.hid hcu'
  clear h hcs hcs' hc1' hB1 hw1 hzjs hzws hzwi hzji hzju hcu'
  generalize hCj : jCw Cw r A n cp = Cj at HW1 ⊢
  go_enter Tryz.func12, Tryz.ntmps12
  go_wp2_with (first | (rw [HW1.out]; refine wpList_load_run rfl 31 (.tmp 9) rfl (some ⟨w.heap.size, 0, none⟩) rfl (.agg Cw) HL1.out ?_))
  refine (KM.out w1).mono ?_
  rintro e w2 ⟨rfl, hb2⟩
  have hB2 := HB1.out.later hb2
  have hs2 : w.heap.size + 2 ≤ w2.heap.size := by have := hb2.size; omega
  have hst : (Instr.storeAt 31 (.pointer (some ⟨w2.heap.size, 0, none⟩)) (.agg Cw')).run Tryz.prog (w2.alloc (.cells Zw 31)) = .ok () (w2.alloc (.cells Cw' 31)) :=
    run_storeAt_new w2 31 Zw Cw' (by rw [HCS'.out]; exact HZWI.out) (by rw [HZW.out, HCS'.out]) HC1'.out
  obtain ⟨w3, hw3⟩ : ∃ w3, w2.alloc (.cells Cw' 31) = w3 := ⟨_, rfl⟩
  rw [hw3] at hst
  have hb23 : Below w2.heap.size w2 w3 := by rw [← hw3]; exact (Below.refl _ _).alloc (Nat.le_refl _) _
  have hx3 : w3.heap[w2.heap.size]? = some (.cells Cw' 31 (0, 0)) := by rw [← hw3]; exact World.alloc_heap_new _ _
  have hB3 := hB2.later hb23
  have hbw : w2.heap.size ≠ w.heap.size := by omega
  obtain ⟨w4, hw4⟩ : ∃ w4, w3.setRow w.heap.size (jCw Cw' r A n cp) = w4 := ⟨_, rfl⟩
  have hst4 := hB3.j.storeW (r := r) (A := A) (n := n) (cp := cp) HCS.out HCS'.out HC1'.out
  rw [hw4] at hst4
  have hB4 : Jb w Cw' r A n cp Z w4 := ⟨by rw [← hw4]; exact jd_set hB3.j, by rw [← hw4]; exact (setRow_other _ _ _ _ (by omega)).trans hB3.res, by rw [← hw4]; exact setRow_new hB3.below (Nat.le_refl _) _⟩
  have HST := Lib.hid hst
  have HST4 := Lib.hid hst4
  have HX3 := Lib.hid hx3
  have HB4 := Lib.hid hB4
  have HWI : Hid ((Tryz.prog.info? 31).map (·.size) = some Cw'.size) := by show _ = _; rw [HCS'.out]; exact HZWI.out
  clear hb2 hB2 hst hw3 hb23 hx3 hB3 hw4 hst4 hB4 HB1 HW1 HL1 KM
  by_cases hK0 : K = 0
  · subst hK0
    have KD := Lib.hid (ddrop_any (HD.out.below HB4.out.below) r z)
    have HLT := Lib.hid (HB4.out.j.loadT HCS'.out)
    unfold docV at KD HLT
    go_wp2_with (first | (refine wpList_store_run rfl 31 (.tmp 6) (.tmp 13) rfl (some ⟨w2.heap.size, 0, none⟩) rfl (.agg Cw') rfl HST.out ?_) | (refine wpList_load_row rfl 31 (.tmp 6) rfl w2.heap.size rfl 31 Cw' (0, 0) _ HX3.out Tryz.underlying31 rfl HWI.out ?_) | (refine wpList_store_run rfl 31 (.tmp 16) (.tmp 15) rfl (some ⟨w.heap.size, 0, none⟩) rfl (.agg Cw') rfl HST4.out ?_) | (refine wpList_load_run rfl 34 (.tmp 19) rfl (some ⟨w.heap.size, 65, none⟩) rfl _ HLT.out ?_))
    refine KD.out.mono ?_
    rintro e w5 ⟨hb5, A', cp', rfl, hd5⟩
    have hB5 := HB4.out.later hb5
    obtain ⟨w6, hw6⟩ : ∃ w6, w5.setRow w.heap.size (jCw Cw' r A' (L.filter fun d => d.s != z).length cp') = w6 := ⟨_, rfl⟩
    have hst6 := hB5.j.storeT (r' := r) (A' := A') (n' := (L.filter fun d => d.s != z).length) (cp' := cp') HCS'.out
    have hd6 := hd5.smj (Off.setRow (S := fun q => q = w.heap.size) (Off.refl _ w5) rfl (jCw Cw' r A' (L.filter fun d => d.s != z).length cp')) (smj_row hB5.j (fun j z => HCU.out _ _ _ _ j z))
    have hB6 : Jb w Cw' r A' (L.filter fun d => d.s != z).length cp' Z w6 := ⟨by rw [← hw6]; exact jd_set hB5.j, by rw [← hw6]; exact (setRow_other _ _ _ _ (by omega)).trans hB5.res, by rw [← hw6]; exact setRow_new hB5.below (Nat.le_refl _) _⟩
    rw [hw6] at hst6 hd6
    obtain ⟨f1, f2, f3, f4⟩ := hB6.fin HCS'.out HC1'.out HZJ.out HZU.out hd6
    have HLJ := Lib.hid (hB6.j.load HCS'.out)
    have HST6 := Lib.hid hst6
    have HFIN := Lib.hid (HEND.out _ _ ⟨f3, A', cp', _, rfl, f4, (if_pos trivial).symm⟩)
    have HJS : Hid ((Tryz.prog.info? 36).map (·.size) = some (jCw Cw' r A' (L.filter fun d => d.s != z).length cp').size) := by show _ = _; rw [jCw_size HCS'.out]; exact jdInfo
    have HF1 := Lib.hid f1
    have HF2 := Lib.hid f2
    clear KD HLT hb5 hd5 hB5 hw6 hst6 hd6 hB6 f1 f2 f3 f4 HEND HB4 HST HST4 HX3 HWI HCU HZU
    unfold docV at HST6
    generalize (L.filter fun d => d.s != z).length = n' at *
    generalize jCw Cw' r A' n' cp' = Cf at *
    go_wp2_with (first | (refine wpList_store_run rfl 34 (.tmp 23) (.tmp 22) rfl (some ⟨w.heap.size, 65, none⟩) rfl _ rfl HST6.out ?_) | (refine wpList_load_run rfl 36 (.tmp 2) rfl (some ⟨w.heap.size, 0, none⟩) rfl _ HLJ.out ?_) | (refine wpList_store_run rfl 36 (.tmp 4) (.tmp 24) rfl (some ⟨w.heap.size + 1, 0, none⟩) rfl _ rfl HF1.out ?_))
    refine bodyPost_ret (results_row_tmp (P := Tryz.prog) (fn := Tryz.f12) rfl _ _ (w.heap.size + 1) 36 Cf _ (by rfl) HF2.out Tryz.underlying36 (by rfl) HJS.out) rfl ?_
    exact HFIN.out
  · have hK1 : (K == 0) = false := by simpa using hK0
    obtain ⟨f1, f2, f3, f4⟩ := HB4.out.fin HCS'.out HC1'.out HZJ.out HZU.out (HD.out.below HB4.out.below)
    have HLJ := Lib.hid (HB4.out.j.load HCS'.out)
    have hlen := HD.out.len
    subst hlen
    have HFIN := Lib.hid (HEND.out _ _ ⟨f3, A, cp, L, rfl, f4, (if_neg hK0).symm⟩)
    have HJS : Hid ((Tryz.prog.info? 36).map (·.size) = some (jCw Cw' r A L.length cp).size) := by show _ = _; rw [jCw_size HCS'.out]; exact jdInfo
    have HF1 := Lib.hid f1
    have HF2 := Lib.hid f2
    clear f1 f2 f3 f4 HEND HB4 HCU HZU hK0
    generalize jCw Cw' r A L.length cp = Cf at *
    go_wp2_with (first | (refine wpList_store_run rfl 31 (.tmp 6) (.tmp 13) rfl (some ⟨w2.heap.size, 0, none⟩) rfl (.agg Cw') rfl HST.out ?_) | (refine wpList_load_row rfl 31 (.tmp 6) rfl w2.heap.size rfl 31 Cw' (0, 0) _ HX3.out Tryz.underlying31 rfl HWI.out ?_) | (refine wpList_store_run rfl 31 (.tmp 16) (.tmp 15) rfl (some ⟨w.heap.size, 0, none⟩) rfl (.agg Cw') rfl HST4.out ?_) | (refine wpList_load_run rfl 36 (.tmp 2) rfl (some ⟨w.heap.size, 0, none⟩) rfl _ HLJ.out ?_) | (refine wpList_store_run rfl 36 (.tmp 4) (.tmp 24) rfl (some ⟨w.heap.size + 1, 0, none⟩) rfl _ rfl HF1.out ?_))
    refine bodyPost_ret (results_row_tmp (P := Tryz.prog) (fn := Tryz.f12) rfl _ _ (w.heap.size + 1) 36 Cf _ (by rfl) HF2.out Tryz.underlying36 (by rfl) HJS.out) rfl ?_
    exact HFIN.out
end
end Go.Proofs.YtfdbcfkjablnkaaGreat

namespace Go.Proofs.YtfdbcfkjablnkaaGreat
open Go.RowKit
set_option maxRecDepth 100000

section
variable {w w' : World} {S : Nat → Prop} {b r m n cp : Nat} {A : Option Addr} {X : List Sx}
theorem RefAt.tys {c : Int} {A : Option Addr} {n cp : Nat} {fs : List Fr} (h : RefAt w c A n cp fs) (hsrc : ∀ g ∈ fs, g.At w' w'.heap.size) (ho : Off S w w') (hS : Tys w S) : RefAt w' c A n cp fs := by
  have hr : ∀ g off cs, A = some ⟨g, off, none⟩ → w.heap[g]? = some (.cells cs 52 (0, 0)) → ¬ S g := fun g off cs _ hg hs => by
    rcases hS g cs _ _ hg hs rfl with h | h
    · exact absurd h (by decide)
    · exact absurd h (by decide)
  refine ⟨⟨hsrc, fun j f hf => ?_⟩, h.len, h.room, h.few, h.keys, h.most, h.small, fun g off e => ?_⟩
  · obtain ⟨b, off, e, hb, hc⟩ := h.at'.2 j f hf
    obtain ⟨cs, h1⟩ := h.row b off e
    exact ⟨b, off, e, Nat.lt_of_lt_of_le hb ho.size, fun q u hq => ho.cell (hc q u hq) (hr b off cs e h1)⟩
  · obtain ⟨cs, h1⟩ := h.row g off e
    exact ⟨cs, (ho.block g (Array.getElem?_eq_some_iff.1 h1).1 (hr g off cs e h1)).trans h1⟩
theorem DocAt.tys {A : Option Addr} {n cp : Nat} {L : List Ds} (h : DocAt w A n cp L) (hsrc : SrcL (fun g => g.At w' w'.heap.size) L) (ho : Off S w w') (hS : Tys w S) : DocAt w' A n cp L := by
  have key : ∀ (j : Nat) (d : Ds), L[j]? = some d → ∀ b off, A = some ⟨b, off, none⟩ → ¬ S b := fun j d hj b off e hs => by
    obtain ⟨cs, h1⟩ := h.row j d hj b off e
    rcases hS b cs _ _ h1 hs rfl with h | h
    · exact absurd h (by decide)
    · exact absurd h (by decide)
  refine ⟨fun d hd => ⟨(h.at' d hd).ref.tys (hsrc d hd) ho hS, (h.at' d hd).num, (h.at' d hd).good⟩, h.len, h.room, h.few, fun j d hj => ?_, fun j d hj b off e => ?_⟩
  · obtain ⟨b, off, e, hB, hc⟩ := h.cells j d hj
    exact ⟨b, off, e, Nat.lt_of_lt_of_le hB ho.size, fun q u hq => ho.cell (hc q u hq) (key j d hj b off e)⟩
  · obtain ⟨cs, h1⟩ := h.row j d hj b off e
    exact ⟨cs, (ho.block b (Array.getElem?_eq_some_iff.1 h1).1 (key j d hj b off e)).trans h1⟩
end
/-- the law's state: its table, the document's in box bm -/
structure Tw (w : World) (b r bm m : Nat) (A : Option Addr) (n cp : Nat) (X : List Sx) (A2 : Option Addr) (n2 cp2 : Nat) (L : List Ds) (W : World) : Prop where
  tbl : TblAt W (Own b m A n cp X) b r m A n cp X
  box : W.heap[bm]? = some (.cells #[.int .i64 (r : Int), .slice A2 n2 cp2] 34 (0, 0))
  doc : DocAt W A2 n2 cp2 L
  like : Tb.Likes (L.map Ds.ms) (X.map Sx.ms)
  src : SrcL (fun g => g.At w w.heap.size) L
  low : ∀ q, Own b m A n cp X q → w.heap.size ≤ q
  lowb : w.heap.size ≤ bm
  below : Below w.heap.size w W
section
variable {w W W' : World} {b r bm m n cp : Nat} {A : Option Addr} {X : List Sx} {A2 : Option Addr} {n2 cp2 : Nat} {L : List Ds}
theorem Tw.later (h : Tw w b r bm m A n cp X A2 n2 cp2 L W) (hb : Below W.heap.size W W') : Tw w b r bm m A n cp X A2 n2 cp2 L W' :=
  ⟨h.tbl.below hb, row_keep h.box hb, h.doc.below hb, h.like, h.src, h.low, h.lowb, h.below.trans (hb.mono h.below.size)⟩
theorem Tw.nodup (h : Tw w b r bm m A n cp X A2 n2 cp2 L W) : (L.map Ds.s).Nodup ∧ n2 = n ∧ L.map Ds.s = X.map Sx.s := by
  have e : L.map Ds.s = X.map Sx.s := by rw [← ds_nums, ← nums_ms, h.like.nums]
  refine ⟨by rw [e]; exact h.tbl.keys.1, ?_, e⟩
  have h1 := h.like.len
  rw [List.length_map, List.length_map, h.tbl.len, h.doc.len] at h1
  exact h1.symm
/-- a box that is turned -/
theorem Tw.alike (h : Tw w b r bm m A n cp X A2 n2 cp2 L W) : Calls Tryz.prog 33 #[.pointer (some ⟨b, 0, none⟩), docV r A2 n2 cp2] W fun e w' => e = .returned (.bool true) ∧ Tw w b r bm m A n cp X A2 n2 cp2 L w' :=
  (talike_any h.tbl h.doc h.like).mono fun _ _ ⟨he, hb⟩ => ⟨he, h.later hb⟩
end
section
variable {w w' : World} {S : Nat → Prop} {b r m n cp bm : Nat} {A : Option Addr} {X : List Sx}
theorem off_tbox (w : World) (bm : Nat) (cs : Array Value) : Off (fun q => q = bm) w (w.setRow bm cs) := Off.setRow (S := fun q => q = bm) (Off.refl _ w) rfl _
theorem DocAt.toff {A : Option Addr} {n cp : Nat} {L : List Ds} {w0 : World} (h : DocAt w A n cp L) (hsrc : SrcL (fun g => g.At w0 w0.heap.size) L) (hb : Below w0.heap.size w0 w') (ho : TOff S w w') (hS : Tys w S) : DocAt w' A n cp L :=
  h.tys (fun d hd g hg => ((hsrc d hd g hg).below hb).mono hb.size) (Off.mono ho fun _ _ h => h.1) hS
theorem keysL {A : Option Addr} {n cp : Nat} {L : List Ds} (h : DocAt w A n cp L) : ∀ x ∈ L.map Ds.ms, Sl.Keys x.C := fun x hx => by
  obtain ⟨d, hd, rfl⟩ := List.mem_map.1 hx
  exact (h.at' d hd).ref.keys
theorem filter_ds (L : List Ds) (z : Int) : Tb.drop (L.map Ds.ms) z = (L.filter fun d => d.s != z).map Ds.ms := by
  unfold Tb.drop
  rw [List.filter_map]
  rfl
end
section
variable {w V : World} {b r bm m n cp : Nat} {A : Option Addr} {X : List Sx} {A3 : Option Addr} {n3 cp3 : Nat} {L3 : List Ds} {z : Int}
end
end Go.Proofs.YtfdbcfkjablnkaaGreat

namespace Go.Proofs.YtfdbcfkjablnkaaGreat
open Go.RowKit Go.Shelf
set_option maxRecDepth 100000

end Go.Proofs.YtfdbcfkjablnkaaGreat

namespace Go.Proofs.YtfdbcfkjablnkaaGreat
open Go.RowKit
namespace Sl
theorem cat_more (C : Ct) (i : Nat) (x : List Int) (h : has C i = false) : ∀ n : Nat, (cat ((i, x) :: C) n).length = (if i < n then x.length else 0) + (cat C n).length
  | 0 => by simp [cat]
  | n + 1 => by
    have ih := cat_more C i x h n
    rw [cat_succ, cat_succ, List.length_append, List.length_append, ih]
    by_cases hi : i = n
    · subst hi
      have h1 : at' ((i, x) :: C) i = x := by simp [at']
      rw [h1, at_none h, if_neg (by omega), if_pos (by omega)]
      simp
      omega
    · have h1 : at' ((i, x) :: C) n = at' C n := by
        unfold at'
        rw [List.find?_cons_of_neg (by simpa using hi)]
      rw [h1]
      by_cases hlt : i < n
      · rw [if_pos hlt, if_pos (by omega)]
        omega
      · rw [if_neg hlt, if_neg (by omega)]
        omega
theorem cat_tot : ∀ {C : Ct} {n : Nat}, Keys C → (∀ p ∈ C, p.1 < n) → (cat C n).length = tot C
  | [], n, _, _ => by
    unfold cat
    induction n with
    | zero => simp [tot]
    | succ n ih => rw [List.range_succ, List.flatMap_append, List.length_append, ih (by simp)]; simp [at', tot]
  | (i, x) :: C, n, hk, hf => by
    unfold Keys at hk
    rw [List.map_cons, List.nodup_cons] at hk
    have hno : has C i = false := by
      cases h : has C i with
      | false => rfl
      | true => exact absurd (has_iff.1 h) hk.1
    rw [cat_more C i x hno n, if_pos (hf (i, x) (by simp)), cat_tot hk.2 fun p hp => hf p (List.mem_cons_of_mem _ hp)]
    simp [tot]
end Sl
namespace Tb
/-- what each message of a table has -/
def Good (x : Ms) : Prop := Sl.Keys x.C ∧ (∀ p ∈ x.C, (p.1 : Int) < x.c) ∧ Sl.tot x.C ≤ 192
theorem Good.cat {x : Ms} (h : Good x) (hf : (x.C.length : Int) = x.c) : (Sl.cat x.C x.C.length).length ≤ 192 := by
  rw [Sl.cat_tot h.1 fun p hp => by have := h.2.1 p hp; omega]
  exact h.2.2
theorem Good.push {x : Ms} {f : Fr} (h : Good x) (he : x.err f = 0) : Good (x.push f) := by
  obtain ⟨_, h1, h2, _, h4, h5⟩ := sErr_zero he
  refine ⟨?_, fun p hp => ?_, ?_⟩
  · unfold Sl.Keys
    show ((x.C ++ [f.ct]).map Prod.fst).Nodup
    rw [List.map_append, List.nodup_append]
    refine ⟨h.1, by simp, fun a ha b hb e => ?_⟩
    have hb' : b = f.i.toNat := by simpa [Fr.ct] using hb
    rw [e, hb'] at ha
    rw [Sl.has_iff.2 ha] at h4
    cases h4
  · rcases List.mem_append.1 hp with hp | hp
    · exact h.2.1 p hp
    · obtain rfl := List.mem_singleton.1 hp
      show ((f.i.toNat : Nat) : Int) < x.c
      omega
  · show Sl.tot (x.C ++ [f.ct]) ≤ 192
    rw [Sl.tot_push]
    exact h5
section
variable {r : Nat} {T : List Ms} {f : Fr}
theorem came_zs {T : List Ms} {n : Int} {ev : Bool} {old : Int} (h : ∀ x ∈ T, Good x) : (came T n ev old).2.zs.length ≤ 192 := by
  cases hx : find T n with
  | none => unfold came; rw [hx]; simp
  | some x =>
    by_cases hf : (x.C.length : Int) = x.c
    · rw [came_full hx hf]
      exact (h x (find_mem hx).1).cat hf
    · rw [came_part hx hf]
      simp
theorem good_new (f : Fr) : Good (Ms.new f) := ⟨by simp [Sl.Keys, Ms.new], fun p hp => (by cases hp), by simp [Ms.new, Sl.tot]⟩
/-- never more than a message's bytes -/
theorem put_zs (hk : (nums T).Nodup) (h : ∀ x ∈ T, Good x) : (put r T f).o.zs.length ≤ 192 := by
  by_cases h1 : chk f.v f.k f.i f.c = 0
  · by_cases h2 : f.zs = []
    · rw [put_short h1 h2]; simp [Out.no]
    · cases hx : find T f.s with
      | some x =>
        rw [put_there h1 h2 hx]
        by_cases he : x.err f = 0
        · rw [if_neg (by simpa using he)]
          refine came_zs fun y hy => ?_
          obtain ⟨z, hz, e⟩ := List.mem_map.1 hy
          by_cases hs : z.s = f.s
          · rw [if_pos hs] at e
            subst e
            have hzx := find_of hk hz
            rw [hs, hx] at hzx
            injection hzx with hzx
            subst hzx
            exact (h _ hz).push he
          · rw [if_neg hs] at e
            subst e
            exact h z hz
        · rw [if_pos he]; simp [Out.no]
      | none =>
        rw [put_new h1 h2 hx]
        by_cases he : (Ms.new f).err f = 0
        · rw [if_neg (by simpa using he)]
          have hp : Good ((Ms.new f).push f) := (good_new f).push he
          split
          · split
            · refine came_zs fun y hy => ?_
              rcases List.mem_append.1 hy with hy | hy
              · exact h y (List.mem_filter.1 hy).1
              · obtain rfl := List.mem_singleton.1 hy
                exact hp
            · simp [Out.no]
          · refine came_zs fun y hy => ?_
            rcases List.mem_append.1 hy with hy | hy
            · exact h y hy
            · obtain rfl := List.mem_singleton.1 hy
              exact hp
        · rw [if_pos he]; simp [Out.no]
  · rw [put_head h1]; simp [Out.no]
end
end Tb
end Go.Proofs.YtfdbcfkjablnkaaGreat

namespace Go.Proofs.YtfdbcfkjablnkaaGreat
open Go.RowKit Go.Shelf
set_option maxRecDepth 100000

theorem TblAt.good {w : World} {S : Nat → Prop} {b r m n cp : Nat} {A : Option Addr} {X : List Sx} (h : TblAt w S b r m A n cp X) : (Tb.nums (X.map Sx.ms)).Nodup ∧ ∀ x ∈ X.map Sx.ms, Tb.Good x := by
  refine ⟨by rw [nums_ms]; exact h.keys.1, fun x hx => ?_⟩
  obtain ⟨y, hy, rfl⟩ := List.mem_map.1 hx
  have hs := h.slots y hy
  refine ⟨SlotAt.keys hs, fun p hp => ?_, SlotAt.most hs⟩
  obtain ⟨q, hq, rfl⟩ := List.mem_map.1 hp
  exact SlotAt.few hs q hq
end Go.Proofs.YtfdbcfkjablnkaaGreat

namespace Go.Proofs.YtfdbcfkjablnkaaGreat
open Go.RowKit
set_option maxRecDepth 100000

section
variable {w w' : World} {c : Int} {A : Option Addr} {n cp : Nat} {fs : List Fr} {S : Nat → Prop}
theorem RefAt.far (h : RefAt w c A n cp fs) (hsrc : ∀ g ∈ fs, g.At w' w'.heap.size) (ho : Off S w w') (hF : ∀ g cs, w.heap[g]? = some (.cells cs 52 (0, 0)) → ¬ S g) : RefAt w' c A n cp fs := by
  refine ⟨⟨hsrc, fun j f hf => ?_⟩, h.len, h.room, h.few, h.keys, h.most, h.small, fun g off e => ?_⟩
  · obtain ⟨b, off, e, hb, hc⟩ := h.at'.2 j f hf
    obtain ⟨cs, h1⟩ := h.row b off e
    exact ⟨b, off, e, Nat.lt_of_lt_of_le hb ho.size, fun q u hq => ho.cell (hc q u hq) (hF b cs h1)⟩
  · obtain ⟨cs, h1⟩ := h.row g off e
    exact ⟨cs, (ho.block g (Array.getElem?_eq_some_iff.1 h1).1 (hF g cs h1)).trans h1⟩
theorem DocAt.far {L : List Ds} (h : DocAt w A n cp L) (hsrc : SrcL (fun g => g.At w' w'.heap.size) L) (ho : Off S w w') (hF : ∀ g cs, w.heap[g]? = some (.cells cs 52 (0, 0)) → ¬ S g) (hD : ∀ g cs, w.heap[g]? = some (.cells cs 84 (0, 0)) → ¬ S g) : DocAt w' A n cp L := by
  have key : ∀ (j : Nat) (d : Ds), L[j]? = some d → ∀ b off, A = some ⟨b, off, none⟩ → ¬ S b := fun j d hj b off e hs => by
    obtain ⟨cs, h1⟩ := h.row j d hj b off e
    exact hD b cs h1 hs
  refine ⟨fun d hd => ⟨(h.at' d hd).ref.far (hsrc d hd) ho hF, (h.at' d hd).num, (h.at' d hd).good⟩, h.len, h.room, h.few, fun j d hj => ?_, fun j d hj b off e => ?_⟩
  · obtain ⟨b, off, e, hB, hc⟩ := h.cells j d hj
    exact ⟨b, off, e, Nat.lt_of_lt_of_le hB ho.size, fun q u hq => ho.cell (hc q u hq) (key j d hj b off e)⟩
  · obtain ⟨cs, h1⟩ := h.row j d hj b off e
    exact ⟨cs, (ho.block b (Array.getElem?_eq_some_iff.1 h1).1 (key j d hj b off e)).trans h1⟩
end
section
variable {w W W' : World} {S : Nat → Prop} {bj bw b r bm : Nat} {t : Int} {q : Nat} {T : List Tb.Ms} {A2 : Option Addr} {n2 cp2 : Nat} {L : List Ds}
/-- rows that no call of a joiner turns: of its table's .. -/
theorem JAt.keepT (h : JAt W S bj bw b r t q T) (ho : TOff S W W') {g : Nat} {cs : Array Value} {tt : TypeId} (hg : W.heap[g]? = some (.cells cs tt (0, 0))) (h1 : tt ≠ 97) (h2 : tt ≠ 22) : W'.heap[g]? = some (.cells cs tt (0, 0)) :=
  (TOff.keep ho (Array.getElem?_eq_some_iff.1 hg).1 (h.tys.not hg h1 h2)).trans hg
theorem JAt.not_bw (h : JAt W S bj bw b r t q T) {g : Nat} {cs : Array Value} {tt : TypeId} (hg : W.heap[g]? = some (.cells cs tt (0, 0))) (h3 : tt ≠ 103) : g ≠ bw := fun e => by
  have h4 : W.heap[bw]? = _ := h.win
  rw [e, h4] at hg
  injection hg with hg
  injection hg with _ hg
  exact h3 hg.symm
/-- .. and of its window's -/
theorem JAt.keepD (h : JAt W S bj bw b r t q T) (ho : TOff (fun p => S p ∨ p = bw) W W') {g : Nat} {cs : Array Value} {tt : TypeId} (hg : W.heap[g]? = some (.cells cs tt (0, 0))) (h1 : tt ≠ 97) (h2 : tt ≠ 22) (h3 : tt ≠ 103) : W'.heap[g]? = some (.cells cs tt (0, 0)) :=
  (TOff.keep ho (Array.getElem?_eq_some_iff.1 hg).1 fun hs => hs.elim (h.tys.not hg h1 h2) (h.not_bw hg h3)).trans hg
theorem JAt.docT (h : JAt W S bj bw b r t q T) (ho : TOff S W W') (hd : DocAt W A2 n2 cp2 L) (hsrc : SrcL (fun g => g.At w w.heap.size) L) (hb : Below w.heap.size w W') : DocAt W' A2 n2 cp2 L :=
  hd.far (fun d hd g hg => ((hsrc d hd g hg).below hb).mono hb.size) ho (fun g cs hg hs => h.tys.not hg (by decide) (by decide) hs.1) (fun g cs hg hs => h.tys.not hg (by decide) (by decide) hs.1)
theorem JAt.docD (h : JAt W S bj bw b r t q T) (ho : TOff (fun p => S p ∨ p = bw) W W') (hd : DocAt W A2 n2 cp2 L) (hsrc : SrcL (fun g => g.At w w.heap.size) L) (hb : Below w.heap.size w W') : DocAt W' A2 n2 cp2 L :=
  hd.far (fun d hd g hg => ((hsrc d hd g hg).below hb).mono hb.size) ho (fun g cs hg hs => hs.1.elim (h.tys.not hg (by decide) (by decide)) (h.not_bw hg (by decide))) (fun g cs hg hs => hs.1.elim (h.tys.not hg (by decide) (by decide)) (h.not_bw hg (by decide)))
/-- the law's state: its joiner, the document's in box bm -/
structure Jw (w : World) (S : Nat → Prop) (bj bw b r bm : Nat) (t : Int) (q : Nat) (T : List Tb.Ms) (A2 : Option Addr) (n2 cp2 : Nat) (L : List Ds) (W : World) : Prop where
  joi : JAt W S bj bw b r t q T
  box : JdAt W bm (wC t q.testBit) r A2 n2 cp2
  doc : DocAt W A2 n2 cp2 L
  like : Tb.Likes (L.map Ds.ms) T
  src : SrcL (fun g => g.At w w.heap.size) L
  low : ∀ p, S p → w.heap.size ≤ p
  lowbw : w.heap.size ≤ bw
  lowb : w.heap.size ≤ bm
  below : Below w.heap.size w W
theorem Jw.later (h : Jw w S bj bw b r bm t q T A2 n2 cp2 L W) (hb : Below W.heap.size W W') : Jw w S bj bw b r bm t q T A2 n2 cp2 L W' :=
  ⟨h.joi.below hb, h.box.below hb, h.doc.below hb, h.like, h.src, h.low, h.lowbw, h.lowb, h.below.trans (hb.mono h.below.size)⟩
theorem Jw.nodup (h : Jw w S bj bw b r bm t q T A2 n2 cp2 L W) : (L.map Ds.s).Nodup ∧ n2 ≤ r ∧ 1 ≤ r ∧ r ≤ 16 ∧ n2 ≤ 16 ∧ L.map Ds.s = Tb.nums T := by
  obtain ⟨m, A, n, cp, X, hT, rfl⟩ := h.joi.tbl
  have e : L.map Ds.s = X.map Sx.s := by rw [← ds_nums, ← nums_ms, h.like.nums]
  have h1 := h.like.len
  rw [List.length_map, List.length_map, hT.len, h.doc.len] at h1
  have h2 := hT.few
  have h3 := hT.room
  exact ⟨by rw [e]; exact hT.keys.1, by omega, h3.1, h3.2, by omega, by rw [nums_ms]; exact e⟩
theorem Jw.alike (h : Jw w S bj bw b r bm t q T A2 n2 cp2 L W) : Calls Tryz.prog 17 #[.pointer (some ⟨bj, 0, none⟩), .agg (jC t q r A2 n2 cp2)] W fun e w' => e = .returned (.bool true) ∧ Jw w S bj bw b r bm t q T A2 n2 cp2 L w' :=
  (jalike_any h.joi h.doc h.like h.nodup.2.2.2.2.1).mono fun _ _ ⟨he, hb⟩ => ⟨he, h.later hb⟩
/-- Take of tables that are alike -/
theorem jtake_likes {T T' : List Tb.Ms} (h : Tb.Likes T T') (hk : ∀ x ∈ T, Sl.Keys x.C) (r : Nat) (t : Int) (q : Nat) (f : Fr) : (jtake r t q T f).e = (jtake r t q T' f).e ∧ (jtake r t q T f).o = (jtake r t q T' f).o ∧ Tb.Likes (jtake r t q T f).T (jtake r t q T' f).T := by
  unfold jtake
  split
  · exact ⟨rfl, rfl, h⟩
  · obtain ⟨h1, h2, h3⟩ := h.put hk r f
    exact ⟨h1.symm, h2.symm, h3⟩
theorem jtake_zs (h : JAt W S bj bw b r t q T) (f : Fr) : (jtake r t q T f).o.zs.length ≤ 192 := by
  obtain ⟨m, A, n, cp, X, hT, rfl⟩ := h.tbl
  unfold jtake
  split
  · exact Nat.zero_le _
  · exact Tb.put_zs hT.good.1 hT.good.2
/-- the law's Take -/
theorem jput_law (h : JAt W S bj bw b r t q T) (hlow : ∀ p, S p → w.heap.size ≤ p) (hb : Below w.heap.size w W) (f : Fr) (hf : f.At W W.heap.size) {R : Tb.Res} (hR : jtake r t q T f = R) {A3 : Option Addr} {n3 cp3 : Nat} {L3 : List Ds} (hd : DocAt W A3 n3 cp3 L3) (hsrc : SrcL (fun g => g.At w w.heap.size) L3) :
    Calls Tryz.prog 10 #[.pointer (some ⟨bj, 0, none⟩), frV f.v f.k f.s f.i f.c (.slice f.a f.zs.length f.cp)] W fun e W' => ∃ A5 c5 S', e = .returned (.tuple #[outV A5 R.o.zs.length c5 R.o.wh R.o.ev R.o.old, .int .i64 R.e]) ∧ R.o.zs.length ≤ c5 ∧ Nums .u8 W' W'.heap.size A5 R.o.zs ∧
      JAt W' S' bj bw b r t q R.T ∧ (∀ p, S' p → S p ∨ W.heap.size ≤ p) ∧ Below w.heap.size w W' ∧ DocAt W' A3 n3 cp3 L3 ∧ (∀ (g : Nat) (cs : Array Value) (tt : TypeId), W.heap[g]? = some (.cells cs tt (0, 0)) → tt ≠ 97 → tt ≠ 22 → W'.heap[g]? = some (.cells cs tt (0, 0))) ∧
      (∀ (Ab : Option Addr) (zs : List Int), Nums .u8 W W.heap.size Ab zs → (∀ p, Ab = some p → ¬ S p.block) → Nums .u8 W' W'.heap.size Ab zs) := by
  refine (jtake_any h f hf).mono ?_
  rintro e W' hT
  obtain ⟨A5, c5, rfl, hc5, hn5, ho, S', hJ, hS'⟩ := hT.of hR
  have hbw := hb.trans (ho.below hlow hb.size)
  refine ⟨A5, c5, S', rfl, hc5, hn5.nums fun k hk => hk.2, hJ, hS', hbw, h.docT ho hd hsrc hbw, fun g cs tt hg h1 h2 => h.keepT ho hg h1 h2, fun Ab zs hn hp => (hn.off ho fun _ k hk hs => ?_).mono ho.size⟩
  obtain ⟨_, _, e⟩ := hk
  exact hp _ e hs.1
/-- the law's Done, the document's already told -/
theorem jdone_law (h : JAt W S bj bw b r t q T) (hlow : ∀ p, S p → w.heap.size ≤ p) (hlbw : w.heap.size ≤ bw) (hlb : w.heap.size ≤ bm) (hb : Below w.heap.size w W) {z : Int} (hz : 0 ≤ z ∧ z ≤ 4294967295) {A3 : Option Addr} {n3 cp3 : Nat} {L3 : List Ds} (hd : DocAt W A3 n3 cp3 L3) (hsrc : SrcL (fun g => g.At w w.heap.size) L3)
    (hbox : JdAt W bm (wC (if Wn.look t q z = 0 then Wn.nt t z else t) (if Wn.look t q z = 0 then Wn.nq t q z else q).testBit) r A3 n3 cp3) (hlk : Tb.Likes (L3.map Ds.ms) (if Wn.look t q z = 0 then Tb.drop T z else T)) :
    Calls Tryz.prog 13 #[.pointer (some ⟨bj, 0, none⟩), .int .u32 z] W fun e W' => e = .returned (.int .i64 (Wn.look t q z)) ∧ ∃ S' T' t' q', Jw w S' bj bw b r bm t' q' T' A3 n3 cp3 L3 W' := by
  refine (jdone_any h hz).mono ?_
  rintro e W' ⟨rfl, ho, S', hJ, hS'⟩
  have hbw := hb.trans (ho.below (fun p hp => hp.elim (hlow p) (fun e => by rw [e]; exact hlbw)) hb.size)
  exact ⟨rfl, S', _, _, _, hJ, h.keepD ho hbox (by decide) (by decide) (by decide), h.docD ho hd hsrc hbw, hlk, hsrc, fun p hp => hlow p (hS' p hp), hlbw, hlb, hbw⟩
/-- the law's Drop, the document's already without the number -/
theorem jdrop_law (h : JAt W S bj bw b r t q T) (hlow : ∀ p, S p → w.heap.size ≤ p) (hlbw : w.heap.size ≤ bw) (hlb : w.heap.size ≤ bm) (hb : Below w.heap.size w W) {z : Int} (hz : 0 ≤ z ∧ z ≤ 4294967295) {A3 : Option Addr} {n3 cp3 : Nat} {L3 : List Ds} (hd : DocAt W A3 n3 cp3 L3) (hsrc : SrcL (fun g => g.At w w.heap.size) L3)
    (hbox : JdAt W bm (wC t q.testBit) r A3 n3 cp3) (hlk : Tb.Likes (L3.map Ds.ms) (Tb.drop T z)) :
    Calls Tryz.prog 15 #[.pointer (some ⟨bj, 0, none⟩), .int .u32 z] W fun e W' => e = .returned (.bool (Tb.find T z).isSome) ∧ (∃ S' T', Jw w S' bj bw b r bm t q T' A3 n3 cp3 L3 W') ∧
      ∀ (g : Nat) (cs : Array Value) (tt : TypeId), W.heap[g]? = some (.cells cs tt (0, 0)) → tt ≠ 97 → tt ≠ 22 → W'.heap[g]? = some (.cells cs tt (0, 0)) := by
  refine (jdrop_any h hz).mono ?_
  rintro e W' ⟨rfl, ho, S', hJ, hS'⟩
  have hbw := hb.trans (ho.below hlow hb.size)
  exact ⟨rfl, ⟨S', _, hJ, h.keepT ho hbox (by decide) (by decide), h.docT ho hd hsrc hbw, hlk, hsrc, fun p hp => hlow p (hS' p hp), hlbw, hlb, hbw⟩, fun g cs tt hg h1 h2 => h.keepT ho hg h1 h2⟩
/-- a box of the document's type that is turned -/
theorem JAt.jbox (h : JAt W S bj bw b r t q T) {old : Array Value} (hx : W.heap[bm]? = some (.cells old 36 (0, 0))) (cs : Array Value) : JAt (W.setRow bm cs) S bj bw b r t q T :=
  h.other hx ⟨by decide, by decide, by decide, by decide⟩ ⟨by decide, by decide⟩ ((Off.refl (fun p => p = bm) W).setRow rfl _)
/-- the number of slots behind a Drop -/
theorem jdrop_less {L : List Ds} {T : List Tb.Ms} {z : Int} (he : L.map Ds.s = Tb.nums T) : ((Tb.find T z).isSome = true ∧ (L.filter fun d => d.s != z).length < L.length) ∨ ((Tb.find T z).isSome = false ∧ (L.filter fun d => d.s != z).length = L.length) := by
  cases hf : Tb.find T z with
  | some y =>
    obtain ⟨hy, hyz⟩ := Tb.find_mem hf
    obtain ⟨d, hd, hdz⟩ := List.mem_map.1 (by rw [he]; exact List.mem_map.2 ⟨y, hy, hyz⟩ : z ∈ L.map Ds.s)
    exact .inl ⟨rfl, List.length_filter_lt_length_iff_exists.2 ⟨d, hd, by simp [hdz]⟩⟩
  | none =>
    have hno := Tb.find_none.1 hf
    refine .inr ⟨rfl, ?_⟩
    rw [List.filter_eq_self.2]
    intro d hd
    obtain ⟨x, hx, hz⟩ := List.mem_map.1 (by rw [← he]; exact List.mem_map.2 ⟨d, hd, rfl⟩ : d.s ∈ Tb.nums T)
    have := hno x hx
    simp only [bne_iff_ne, ne_eq]
    rw [← hz]
    exact this
end
end Go.Proofs.YtfdbcfkjablnkaaGreat

namespace Go.Proofs.YtfdbcfkjablnkaaGreat
open Go.RowKit Go.Shelf
set_option maxRecDepth 100000

/-- the example's frame, its payload in block p -/
def knJ (p : Nat) : Fr := ⟨1, 1, 5, 0, 1, some ⟨p, 0, none⟩, 1, [1]⟩
theorem knj1 (p : Nat) : jtake 2 (Sr.add 5 (-1)) 18446744073709551615 [] (knJ p) = ⟨0, [], ⟨[1], true, false, 0⟩⟩ := by rfl
theorem knj2 : Wn.look (Sr.add 5 (-1)) 18446744073709551615 5 = 0 := by rfl
theorem knj3 (p : Nat) : jtake 2 (Wn.nt (Sr.add 5 (-1)) 5) (Wn.nq (Sr.add 5 (-1)) 18446744073709551615 5) [] (knJ p) = ⟨14, [], .no⟩ := by
  have h : jwhy (Wn.nt (Sr.add 5 (-1)) 5) (Wn.nq (Sr.add 5 (-1)) 18446744073709551615 5) (knJ p) = 14 := (if_neg (show ¬ chk 1 1 0 1 ≠ 0 by decide)).trans (Wn.look_again knj2)
  unfold jtake
  rw [h]
  rfl
/-- the example's memory: a payload, and the frame's box behind it -/
structure KnjAt (p : Nat) (V : World) : Prop where
  pay : V.heap[p]? = some (.cells #[.int .u8 1] 5 (0, 0))
  f : V.heap[p + 1]? = some (.cells (knJ p).cs 42 (0, 0))
section
variable {p : Nat} {V V' : World}
theorem KnjAt.lt (h : KnjAt p V) : p + 1 < V.heap.size := (Array.getElem?_eq_some_iff.1 h.f).1
theorem KnjAt.toff {S : Nat → Prop} (h : KnjAt p V) (ho : TOff S V V') (h1 : ¬ S p) (h2 : ¬ S (p + 1)) : KnjAt p V' := by
  have := h.lt
  exact ⟨(TOff.keep ho (by omega) h1).trans h.pay, (TOff.keep ho (by omega) h2).trans h.f⟩
theorem KnjAt.below (h : KnjAt p V) (hb : Below V.heap.size V V') : KnjAt p V' := ⟨row_stays h.pay hb, row_stays h.f hb⟩
theorem KnjAt.at (h : KnjAt p V) : (knJ p).At V V.heap.size :=
  ⟨by simp [knJ], by simp [knJ], Nat.le_refl _, by simp [knJ], fun z hz => by simp [knJ] at hz; omega, fun _ => ⟨p, 0, rfl, by have := h.lt; omega, fun j c hj => by
    cases j with
    | zero => simp [knJ] at hj; subst hj; simp [World.cell?, h.pay]
    | succ j => simp [knJ] at hj⟩⟩
end
theorem knj_boxes {W1 W2 : World} (hw : (W1.alloc (.cells #[.int .u8 1] 5)).alloc (.cells (knJ W1.heap.size).cs 42) = W2) : KnjAt W1.heap.size W2 ∧ Below W1.heap.size W1 W2 := by
  obtain ⟨V1, hV1⟩ : ∃ V1, W1.alloc (.cells #[.int .u8 1] 5) = V1 := ⟨_, rfl⟩
  rw [hV1] at hw
  have s1 : V1.heap.size = W1.heap.size + 1 := by rw [← hV1]; simp
  have b1 : Below W1.heap.size W1 V1 := by rw [← hV1]; exact (Below.refl _ _).alloc (Nat.le_refl _) _
  have b2 : Below V1.heap.size V1 W2 := by rw [← hw]; exact (Below.refl _ _).alloc (Nat.le_refl _) _
  have h1 : V1.heap[W1.heap.size]? = some (.cells #[.int .u8 1] 5 (0, 0)) := by rw [← hV1]; exact World.alloc_heap_new _ _
  have h2 : W2.heap[W1.heap.size + 1]? = some (.cells (knJ W1.heap.size).cs 42 (0, 0)) := by rw [← s1, ← hw]; exact World.alloc_heap_new _ _
  exact ⟨⟨row_stays h1 b2, h2⟩, b1.trans (b2.mono b1.size)⟩
set_option maxHeartbeats 8000000 in
theorem jknown_any (w : World) : Calls Tryz.prog 5 #[] w fun e w' => e = .returned (.bool true) ∧ Below w.heap.size w w' := by
  have KN := jnew_any 5 2 (by omega) w
  go_enter Tryz.func5, Tryz.ntmps5
  go_wp2_with fail
  refine KN.mono ?_
  rintro e W1 (⟨h, _⟩ | ⟨r, hr, S, bj, bw, b, rfl, hJ, hS, hbw, hbj, hb1⟩)
  · exact absurd ⟨by omega, by omega⟩ h
  obtain rfl : r = 2 := by omega
  have HJ := Lib.hid hJ
  have HB1 := Lib.hid hb1
  have HS := Lib.hid hS
  clear KN hr hJ hb1 hS
  go_wp2_with fail
  obtain ⟨W2, hW2⟩ : ∃ W2, (W1.alloc (.cells #[.int .u8 1] 5)).alloc (.cells (knJ W1.heap.size).cs 42) = W2 := ⟨_, rfl⟩
  obtain ⟨hk2, hb2⟩ := knj_boxes hW2
  have hJ2 := HJ.out.below hb2
  have KT : Calls Tryz.prog 10 #[.pointer (some ⟨bj, 0, none⟩), .agg #[.int .i64 1, .int .i64 1, .int .u32 5, .int .i64 0, .int .i64 1, .slice (some ⟨W1.heap.size, 0, none⟩) 1 1]] W2 (JTakeR W2 S bj bw b 2 (Sr.add 5 (-1)) 18446744073709551615 [] (knJ W1.heap.size)) := jtake_any hJ2 (knJ W1.heap.size) hk2.at
  have hs2 := hk2.lt
  have hlt := HJ.out.lt
  have hbwl := HJ.out.win.size
  have hb02 := HB1.out.trans (hb2.mono HB1.out.size)
  rw [show (W1.alloc (.cells #[.int .u8 1] 5)).alloc (.cells #[.int .i64 1, .int .i64 1, .int .u32 5, .int .i64 0, .int .i64 1, .slice (some ⟨W1.heap.size, 0, none⟩) 1 1] 42) = W2 from hW2]
  have HLT := Lib.hid hlt
  clear hW2 hb2 hJ2 hlt
  refine KT.mono ?_
  rintro e W3 hp1
  obtain ⟨A3, c3, rfl, _, _, ho3, S3, hJ3, hS3⟩ := hp1.of (knj1 _)
  have hk3 := hk2.toff ho3 (fun h => by have := HLT.out _ h; omega) (fun h => by have := HLT.out _ h; omega)
  have hb03 := hb02.trans (ho3.below HS.out hb02.size)
  have hws2 := hb02.size
  have hal := (Below.refl W3.heap.size W3).alloc (Nat.le_refl _) (.cells (outC A3 1 c3 true false 0) 54)
  have hO3 := World.alloc_heap_new W3 (.cells (outC A3 1 c3 true false 0) 54)
  have hJ3' := hJ3.below hal
  have hk3' := hk3.below hal
  have hb03' := hb03.trans (hal.mono hb03.size)
  have hsub3 : ∀ q, S3 q → w.heap.size ≤ q ∧ ¬ q = W1.heap.size ∧ ¬ q = W1.heap.size + 1 ∧ q < W3.heap.size := fun q hq => by
    have h9 := hJ3.lt q hq
    rcases hS3 q hq with h | h
    · have := HLT.out q h
      exact ⟨HS.out q h, by omega, by omega, h9⟩
    · exact ⟨by omega, by omega, by omega, h9⟩
  have KD := jdone_any hJ3' (z := 5) (by omega)
  have hsz3 := hb03'.size
  have hs3 := ho3.size
  have HSUB := Lib.hid hsub3
  have HK := Lib.hid hk3'
  have HB3 := Lib.hid hb03'
  have HO3 := Lib.hid hO3
  clear KT hp1 ho3 hJ3 hk3 hk2 hal hO3 hJ3' hk3' hb03' hb02 hb03 hS3 hsub3 HJ HB1
  unfold outV
  simp only [outC, List.length_cons, List.length_nil, Nat.zero_add] at HK HB3 HO3 KD hsz3 ⊢
  go_wp2_with fail
  refine KD.mono ?_
  rintro e W4 ⟨rfl, ho4, S4, hJ4, hS4⟩
  rw [knj2] at hJ4
  simp only [if_true] at hJ4
  have hO4 := (TOff.keep ho4 (Array.getElem?_eq_some_iff.1 HO3.out).1 (fun h => by
    rcases h with h | h
    · have := (HSUB.out _ h).2.2.2; omega
    · omega)).trans HO3.out
  have hk4 := HK.out.toff ho4 (fun h => by
    rcases h with h | h
    · exact (HSUB.out _ h).2.1 rfl
    · omega) (fun h => by
    rcases h with h | h
    · exact (HSUB.out _ h).2.2.1 rfl
    · omega)
  have hb04 := HB3.out.trans (ho4.below (B := w.heap.size) (fun q h => by
    rcases h with h | h
    · exact (HSUB.out q h).1
    · omega) HB3.out.size)
  have KT4 := jtake_any hJ4 (knJ W1.heap.size) hk4.at
  obtain ⟨e0, e1, e2, e3, e4, e5⟩ := fr_block (v := 1) (k := 1) (s := 5) (i := 0) (c := 1) hk4.f
  have HB4 := Lib.hid hb04
  have HO4 := Lib.hid hO4
  have HJ4 := Lib.hid hJ4
  have HS4 := Lib.hid hS4
  rw [knj2]
  unfold frV at KT4
  simp only [knJ, frC, List.length_cons, List.length_nil, Nat.zero_add] at KT4 e0 e1 e2 e3 e4 e5
  have HKT := Lib.hid KT4
  clear ho4 hJ4 hO4 hk4 hb04 KT4 KD HK HO3 HB3 hS4
  go_wp2_with fail
  refine (HKT.out.mono fun _ _ h => h.of (knj3 W1.heap.size)).mono ?_
  rintro e W5 ⟨A5, c5, rfl, _, _, ho5, _⟩
  have hO5 := (TOff.keep ho5 (Array.getElem?_eq_some_iff.1 HO4.out).1 (fun h => by have := (HSUB.out _ (HS4.out _ h)).2.2.2; omega)).trans HO4.out
  have hb05 := HB4.out.trans (ho5.below (B := w.heap.size) (fun q h => (HSUB.out q (HS4.out q h)).1) HB4.out.size)
  have hO6 := row_stays hO5 ((Below.refl W5.heap.size W5).alloc (Nat.le_refl _) (.cells (outC A5 0 c5 false false 0) 54))
  have hb06 := Lib.hid (hb05.alloc hb05.size (.cells (outC A5 0 c5 false false 0) 54))
  obtain ⟨k0, k1, k2, k3⟩ := out_block hO6
  clear ho5 hO5 hO6 hb05 HB4 HO4 HJ4 HS4 HSUB HKT e0 e1 e2 e3 e4 e5
  unfold outV Tb.Out.no
  simp only [outC, List.length_nil] at hb06 k0 k1 k2 k3 ⊢
  go_wp2
  go_ret
  exact ⟨rfl, hb06.out⟩
end Go.Proofs.YtfdbcfkjablnkaaGreat

namespace Go.Proofs.YtfdbcfkjablnkaaGreat
open Go.ChangeShapes Go.WideShapes Go.RowKit
set_option maxRecDepth 100000

section
variable {H : Type} {enc : TypeId × Value → H} {w : World} {base : Nat} {spare : Nat → Bool} {held : Bool}
end
end Go.Proofs.YtfdbcfkjablnkaaGreat

namespace Go.Proofs.YtfdbcfkjablnkaaGreat
open Go.RowKit Go.ChangeShapes Go.WideShapes Go.Deep
set_option maxRecDepth 100000

def i64Ok (z : Int) : Prop := -9223372036854775808 ≤ z ∧ z ≤ 9223372036854775807
/-- its numbers are numbers of its kinds -/
structure Fr.Wf (f : Fr) : Prop where
  v : i64Ok f.v
  k : i64Ok f.k
  i : i64Ok f.i
  c : i64Ok f.c
section
variable {H : Type} {enc : TypeId × Value → H} {w : World}
theorem row_of {T E : TypeId} {k : IntKind} {fuel : Nat} {v : Value} {x : DataW H × List MemPlace} (ht : Tryz.prog.underlying T = some (.slice E)) (he : Tryz.prog.underlying E = some (.int k)) (hc : Tryz.prog.cellsOf E = 1)
    (h : DataW.trod enc Tryz.prog w 0 (fun _ => true) true fuel T [v] = some x) : ∃ a n c es, v = .slice a n c ∧ es.length = n ∧ n ≤ c ∧ Nums k w w.heap.size a es ∧ ∀ z ∈ es, (Lit.int k z).wf = true := by
  rcases open_ints ht he hc h with ⟨hcs, _⟩ | ⟨a, l, c, zs, hcs, _, hl, hm, hz, _, hcell, hwz⟩
  · injection hcs with hcs
    exact ⟨none, 0, 0, [], hcs, rfl, Nat.le_refl _, Nums.nil, fun z hz => by cases hz⟩
  · injection hcs with hcs
    obtain ⟨es, h1, h2, h3, h4, h5⟩ := IsRow.elems (k := k) (w := w) (a := some a) (len := l) (cap := c) (zs := zs) (.inr ⟨_, rfl, hl, hm, by simpa using hz, hcell, hwz⟩)
    exact ⟨some a, l, c, es, hcs, h1, h2, h4, h5⟩
theorem row_short {T E : TypeId} {k : IntKind} {fuel : Nat} {v : Value} {x : DataW H × List MemPlace} (ht : Tryz.prog.underlying T = some (.slice E)) (he : Tryz.prog.underlying E = some (.int k)) (hc : Tryz.prog.cellsOf E = 1)
    (h : DataW.trod enc Tryz.prog w 0 (fun _ => true) true fuel T [v] = some x) : ∃ a n c, v = .slice a n c ∧ c ≤ maxLen := by
  rcases open_ints ht he hc h with ⟨hcs, _⟩ | ⟨a, l, c, zs, hcs, _, hl, hm, hz, _, hcell, hwz⟩
  · injection hcs with hcs
    exact ⟨none, 0, 0, hcs, Nat.zero_le _⟩
  · injection hcs with hcs
    exact ⟨some a, l, c, hcs, hm⟩
/-- a head's cells -/
theorem head_of {fuel : Nat} {cs : List Value} {x : DataW H × List MemPlace} (h : DataW.trod enc Tryz.prog w 0 (fun _ => true) true fuel 39 cs = some x) :
    ∃ v k s i c : Int, cs = [.int .i64 v, .int .i64 k, .int .u32 s, .int .i64 i, .int .i64 c] ∧ 0 ≤ s ∧ s ≤ 4294967295 ∧ i64Ok v ∧ i64Ok k ∧ i64Ok i ∧ i64Ok c := by
  obtain ⟨xs, n, _, _, hlen, hxl, hf⟩ := DataW.trod_struct Tryz.underlying39 h
  have h5 : Tryz.prog.cellsOf 39 = 5 := by kernel_rfl
  have k0 : Tryz.prog.cellsOf 3 = 1 := by kernel_rfl
  have k1 : Tryz.prog.cellsOf 22 = 1 := by kernel_rfl
  rw [h5] at hlen
  match cs, hlen with
  | [c0, c1, c2, c3, c4], _ =>
    have hx : ∀ i, i < 5 → ∃ y, xs[i]? = some y := fun i hi => ⟨_, List.getElem?_eq_getElem (by rw [hxl]; exact hi)⟩
    obtain ⟨y0, e0⟩ := hx 0 (by decide)
    obtain ⟨y1, e1⟩ := hx 1 (by decide)
    obtain ⟨y2, e2⟩ := hx 2 (by decide)
    obtain ⟨y3, e3⟩ := hx 3 (by decide)
    obtain ⟨y4, e4⟩ := hx 4 (by decide)
    have f0 : DataW.trod enc Tryz.prog w 0 (fun _ => true) true n 3 (([c0, c1, c2, c3, c4].drop 0).take (Tryz.prog.cellsOf 3)) = some y0 := (hf 0 _ rfl).trans e0
    rw [k0] at f0
    have f1 : DataW.trod enc Tryz.prog w 0 (fun _ => true) true n 3 (([c0, c1, c2, c3, c4].drop 1).take (Tryz.prog.cellsOf 3)) = some y1 := (hf 1 _ rfl).trans e1
    rw [k0] at f1
    have f2 : DataW.trod enc Tryz.prog w 0 (fun _ => true) true n 22 (([c0, c1, c2, c3, c4].drop 2).take (Tryz.prog.cellsOf 22)) = some y2 := (hf 2 _ rfl).trans e2
    rw [k1] at f2
    have f3 : DataW.trod enc Tryz.prog w 0 (fun _ => true) true n 3 (([c0, c1, c2, c3, c4].drop 3).take (Tryz.prog.cellsOf 3)) = some y3 := (hf 3 _ rfl).trans e3
    rw [k0] at f3
    have f4 : DataW.trod enc Tryz.prog w 0 (fun _ => true) true n 3 (([c0, c1, c2, c3, c4].drop 4).take (Tryz.prog.cellsOf 3)) = some y4 := (hf 4 _ rfl).trans e4
    rw [k0] at f4
    obtain ⟨v, g0, _, hv⟩ := DataW.trod_int Tryz.underlying3 f0
    obtain ⟨k, g1, _, hk⟩ := DataW.trod_int Tryz.underlying3 f1
    obtain ⟨s, g2, _, hs⟩ := DataW.trod_int Tryz.underlying22 f2
    obtain ⟨i, g3, _, hi⟩ := DataW.trod_int Tryz.underlying3 f3
    obtain ⟨c, g4, _, hc⟩ := DataW.trod_int Tryz.underlying3 f4
    injection g0 with g0
    injection g1 with g1
    injection g2 with g2
    injection g3 with g3
    injection g4 with g4
    subst g0 g1 g2 g3 g4
    have hr : 0 ≤ s ∧ s ≤ 4294967295 := by
      have h := hs
      simp [Lit.wf] at h
      exact h
    exact ⟨v, k, s, i, c, rfl, hr.1, hr.2, bounds_i64 hv, bounds_i64 hk, bounds_i64 hi, bounds_i64 hc⟩
/-- a frame's cells -/
theorem fr_of {fuel : Nat} {cs : List Value} {x : DataW H × List MemPlace} (h : DataW.trod enc Tryz.prog w 0 (fun _ => true) true fuel 42 cs = some x) :
    ∃ f : Fr, cs = f.cs.toList ∧ f.At w w.heap.size ∧ f.Wf := by
  obtain ⟨xs, n, _, _, hlen, hxl, hf⟩ := DataW.trod_struct Tryz.underlying42 h
  have h6 : Tryz.prog.cellsOf 42 = 6 := by kernel_rfl
  have k0 : Tryz.prog.cellsOf 39 = 5 := by kernel_rfl
  have k1 : Tryz.prog.cellsOf 40 = 1 := by kernel_rfl
  rw [h6] at hlen
  match cs, hlen with
  | [c0, c1, c2, c3, c4, c5], _ =>
    have hx : ∀ i, i < 2 → ∃ y, xs[i]? = some y := fun i hi => ⟨_, List.getElem?_eq_getElem (by rw [hxl]; exact hi)⟩
    obtain ⟨y0, e0⟩ := hx 0 (by decide)
    obtain ⟨y1, e1⟩ := hx 1 (by decide)
    have f0 : DataW.trod enc Tryz.prog w 0 (fun _ => true) true n 39 (([c0, c1, c2, c3, c4, c5].drop 0).take (Tryz.prog.cellsOf 39)) = some y0 := (hf 0 _ rfl).trans e0
    rw [k0] at f0
    have f1 : DataW.trod enc Tryz.prog w 0 (fun _ => true) true n 40 (([c0, c1, c2, c3, c4, c5].drop 5).take (Tryz.prog.cellsOf 40)) = some y1 := (hf 1 _ rfl).trans e1
    rw [k1] at f1
    obtain ⟨v, k, s, i, c, g0, hs0, hs1, hv, hk, hi, hc⟩ := head_of f0
    obtain ⟨a, m, cp, zs, rfl, l1, l2, l3, l4⟩ := row_of Tryz.underlying40 Tryz.underlying5 (by kernel_rfl) f1
    obtain ⟨a2, m2, cp2, q1, q2⟩ := row_short Tryz.underlying40 Tryz.underlying5 (by kernel_rfl) f1
    injection q1 with q1 q3 q4
    subst q1 q3 q4
    simp only [List.drop_zero, List.take_succ_cons, List.take_zero, List.cons.injEq, and_true] at g0
    obtain ⟨rfl, rfl, rfl, rfl, rfl⟩ := g0
    subst l1
    exact ⟨⟨v, k, s, i, c, a, cp, zs⟩, rfl, ⟨hs0, hs1, l2, by unfold maxLen at q2; simp only; omega, bytes_of l4, l3⟩, ⟨hv, hk, hi, hc⟩⟩
end
end Go.Proofs.YtfdbcfkjablnkaaGreat

namespace Go.Proofs.YtfdbcfkjablnkaaGreat
open Go.RowKit Go.ChangeShapes Go.WideShapes Go.Deep
set_option maxRecDepth 100000

/-- a call: its kind, its frame -/
structure Ac where
  k : Int
  f : Fr
def Ac.cs (a : Ac) : Array Value := #[.int .i64 a.k, .int .i64 a.f.v, .int .i64 a.f.k, .int .u32 a.f.s, .int .i64 a.f.i, .int .i64 a.f.c, .slice a.f.a a.f.zs.length a.f.cp]
def AcsAt (w : World) (A : Option Addr) (l : List Ac) : Prop :=
  (∀ a ∈ l, a.f.At w w.heap.size) ∧ ∀ (j : Nat) (a : Ac), l[j]? = some a → ∃ b off, A = some ⟨b, off, none⟩ ∧ b < w.heap.size ∧ ∀ (q : Nat) (u : Value), a.cs[q]? = some u → w.cell? ⟨b, off + j * 7 + q, none⟩ = some u
theorem AcsAt.seven {w W : World} {A : Option Addr} {l : List Ac} (h : AcsAt w A l) (hb : Below w.heap.size w W) {j : Nat} {a : Ac} (hj : l[j]? = some a) : ∃ b off, A = some ⟨b, off, none⟩ ∧ b < w.heap.size ∧
    W.cell? ⟨b, off + j * 7, none⟩ = some (.int .i64 a.k) ∧ W.cell? ⟨b, off + j * 7 + 1, none⟩ = some (.int .i64 a.f.v) ∧ W.cell? ⟨b, off + j * 7 + 2, none⟩ = some (.int .i64 a.f.k) ∧ W.cell? ⟨b, off + j * 7 + 3, none⟩ = some (.int .u32 a.f.s) ∧
    W.cell? ⟨b, off + j * 7 + 4, none⟩ = some (.int .i64 a.f.i) ∧ W.cell? ⟨b, off + j * 7 + 5, none⟩ = some (.int .i64 a.f.c) ∧ W.cell? ⟨b, off + j * 7 + 6, none⟩ = some (.slice a.f.a a.f.zs.length a.f.cp) := by
  obtain ⟨b, off, e, hB, hc⟩ := h.2 j a hj
  have hk : ∀ q u, a.cs[q]? = some u → W.cell? ⟨b, off + j * 7 + q, none⟩ = some u := fun q u hq => (hb.cell (p := ⟨b, off + j * 7 + q, none⟩) hB).trans (hc q u hq)
  exact ⟨b, off, e, hB, hk 0 _ rfl, hk 1 _ rfl, hk 2 _ rfl, hk 3 _ rfl, hk 4 _ rfl, hk 5 _ rfl, hk 6 _ rfl⟩
section
variable {H : Type} {enc : TypeId × Value → H} {w : World}
theorem ac_of {fuel : Nat} {cs : List Value} {x : DataW H × List MemPlace} (h : DataW.trod enc Tryz.prog w 0 (fun _ => true) true fuel 45 cs = some x) :
    ∃ a : Ac, cs = a.cs.toList ∧ a.f.At w w.heap.size := by
  obtain ⟨xs, n, _, _, hlen, hxl, hf⟩ := DataW.trod_struct Tryz.underlying45 h
  have h7 : Tryz.prog.cellsOf 45 = 7 := by kernel_rfl
  have k0 : Tryz.prog.cellsOf 3 = 1 := by kernel_rfl
  have k1 : Tryz.prog.cellsOf 42 = 6 := by kernel_rfl
  rw [h7] at hlen
  match cs, hlen with
  | [c0, c1, c2, c3, c4, c5, c6], _ =>
    have hx : ∀ i, i < 2 → ∃ y, xs[i]? = some y := fun i hi => ⟨_, List.getElem?_eq_getElem (by rw [hxl]; exact hi)⟩
    obtain ⟨y0, e0⟩ := hx 0 (by decide)
    obtain ⟨y1, e1⟩ := hx 1 (by decide)
    have f0 : DataW.trod enc Tryz.prog w 0 (fun _ => true) true n 3 (([c0, c1, c2, c3, c4, c5, c6].drop 0).take (Tryz.prog.cellsOf 3)) = some y0 := (hf 0 _ rfl).trans e0
    rw [k0] at f0
    have f1 : DataW.trod enc Tryz.prog w 0 (fun _ => true) true n 42 (([c0, c1, c2, c3, c4, c5, c6].drop 1).take (Tryz.prog.cellsOf 42)) = some y1 := (hf 1 _ rfl).trans e1
    rw [k1] at f1
    obtain ⟨k, g0, _, _⟩ := DataW.trod_int Tryz.underlying3 f0
    obtain ⟨f, g1, hat, _⟩ := fr_of f1
    injection g0 with g0
    simp only [List.drop_succ_cons, List.drop_zero, List.take_succ_cons, List.take_zero, Fr.cs, frC, List.cons.injEq, and_true] at g1
    obtain ⟨rfl, rfl, rfl, rfl, rfl, rfl⟩ := g1
    subst g0
    exact ⟨⟨k, f⟩, rfl, hat⟩
theorem acs_of {fuel : Nat} {A : Option Addr} {len cap : Nat} {x : DataW H × List MemPlace} (h : DataW.trod enc Tryz.prog w 0 (fun _ => true) true fuel 23 [.slice A len cap] = some x) :
    ∃ fs : List Ac, fs.length = len ∧ len ≤ 9223372036854775807 ∧ AcsAt w A fs := by
  rcases open_slice Tryz.underlying23 h with ⟨hcs, _⟩ | ⟨a, l, c, m, n, D, Pl, hcs, _, hl, hm, hmm, _, hi⟩
  · injection hcs with hcs
    injection hcs with h1 h2 h3
    subst h1 h2 h3
    exact ⟨[], rfl, by decide, ⟨fun f hf => by simp at hf, fun j f hj => by simp at hj⟩⟩
  · injection hcs with hcs
    injection hcs with h1 h2 h3
    subst h1 h2 h3
    have h6 : Tryz.prog.cellsOf 45 = 7 := by kernel_rfl
    have hmc : m = cap := by simpa using hmm
    have key : ∀ i, ∃ f : Ac, i < len → f.f.At w w.heap.size ∧ ∃ b o, some a = some (⟨b, o, none⟩ : Addr) ∧ b < w.heap.size ∧ ∀ (q : Nat) (u : Value), f.cs[q]? = some u → w.cell? ⟨b, o + i * 7 + q, none⟩ = some u := by
      intro i
      by_cases hil : i < len
      · obtain ⟨cs', hc', ht'⟩ := hi i (by omega)
        rw [h6] at hc'
        obtain ⟨f, rfl, hat⟩ := ac_of ht'
        obtain ⟨_, _, hcell⟩ := World.cells?_some hc'
        obtain ⟨cs0, hc0, ht0⟩ := hi 0 (by omega)
        rw [h6] at hc0
        obtain ⟨f0, rfl, _⟩ := ac_of ht0
        have hz := (World.cells?_some hc0).2.2 0 (by decide)
        have hadd : ∀ a : Addr, a.add 0 = a := fun a => by unfold Addr.add; rw [if_pos rfl]
        rw [Nat.zero_mul, hadd, hadd] at hz
        obtain ⟨b, o, sp⟩ := a
        have hsp : sp = none := World.cell?_spot hz
        subst hsp
        have hcj : ∀ (j : Nat) v, f.cs[j]? = some v → w.cell? ⟨b, o + i * 7 + j, none⟩ = some v := fun j v hv => by
          have hj : j < 7 := (Array.getElem?_eq_some_iff.1 hv).1
          have h0 := hcell j hj
          rw [Addr.add_lit, Addr.add_lit, Array.getElem?_toList, hv] at h0
          exact h0
        exact ⟨f, fun _ => ⟨hat, b, o, rfl, block_of_cell (hcj 0 _ rfl), hcj⟩⟩
      · exact ⟨⟨0, ⟨0, 0, 0, 0, 0, none, 0, []⟩⟩, fun h => absurd h hil⟩
    obtain ⟨g, hg⟩ := Classical.axiomOfChoice key
    have hall : ∀ (i : Nat) f, ((List.range len).map g)[i]? = some f → i < len ∧ f = g i := fun i f hd => by
      rw [List.getElem?_map] at hd
      obtain ⟨j, hj, rfl⟩ := Option.map_eq_some_iff.1 hd
      have hil : i < len := by
        rcases Nat.lt_or_ge i len with h | h
        · exact h
        · rw [List.getElem?_eq_none (by simpa using h)] at hj; simp at hj
      rw [List.getElem?_range hil] at hj
      injection hj with hj
      exact ⟨hil, by rw [hj]⟩
    refine ⟨(List.range len).map g, by simp, by unfold maxLen at hm; omega, ⟨fun f hf => ?_, fun j f hj => ?_⟩⟩
    · obtain ⟨i, hi, rfl⟩ := List.mem_iff_getElem.1 hf
      obtain ⟨h1, h2⟩ := hall i _ (List.getElem?_eq_getElem hi)
      rw [h2]; exact (hg i h1).1
    · obtain ⟨h1, rfl⟩ := hall j f hj
      exact (hg j h1).2
end
end Go.Proofs.YtfdbcfkjablnkaaGreat

namespace Go.Proofs.YtfdbcfkjablnkaaGreat
open Go.RowKit Go.Shelf
set_option maxRecDepth 100000

/-- what the operations of 'next, w, want := ref.Take(m, Of(f))' hand on -/
def FJp (Src : Fr → Prop) (Zj : Array Value) (H B r : Nat) (Cw : Array Value) (T : List Tb.Ms) (er : Int) (o : Tb.Out) (q : Tmp) (x : Value) (W : World) : Prop :=
  if q = 12 then ∃ g, x = .pointer (some ⟨g, 0, none⟩) ∧ H ≤ g ∧ W.heap[g]? = some (.cells Zj 36 (0, 0))
  else if q = 13 then ∃ g, x = .pointer (some ⟨g, 0, none⟩) ∧ H ≤ g ∧ W.heap[g]? = some (.cells (outC none 0 0 false false 0) 47 (0, 0))
  else ∃ A n cp L Ab cb, x = (if q = 79 then .agg (jCw Cw r A n cp) else if q = 80 then outV Ab o.zs.length cb o.wh o.ev o.old else .tuple #[.agg (jCw Cw r A n cp), outV Ab o.zs.length cb o.wh o.ev o.old, .int .i64 er]) ∧
    DocAt W A n cp L ∧ T = L.map Ds.ms ∧ o.zs.length ≤ cb ∧ Nums .u8 W W.heap.size Ab o.zs ∧ SrcL Src L ∧ ∀ p, Ab = some p → B ≤ p.block
theorem FJp.later {Src : Fr → Prop} {Zj : Array Value} {H B r : Nat} {Cw : Array Value} {T : List Tb.Ms} {er : Int} {o : Tb.Out} {q : Tmp} {x : Value} {W W' : World} (h : FJp Src Zj H B r Cw T er o q x W) (hb : Below W.heap.size W W') : FJp Src Zj H B r Cw T er o q x W' := by
  unfold FJp at *
  split
  · rename_i e; rw [if_pos e] at h
    obtain ⟨g, h1, h2, h3⟩ := h
    exact ⟨g, h1, h2, row_keep h3 hb⟩
  · rename_i e; rw [if_neg e] at h
    split
    · rename_i e; rw [if_pos e] at h
      obtain ⟨g, h1, h2, h3⟩ := h
      exact ⟨g, h1, h2, row_keep h3 hb⟩
    · rename_i e; rw [if_neg e] at h
      obtain ⟨A, n, cp, L, Ab, cb, h1, h2, h3, h4, h5, h6, h7⟩ := h
      exact ⟨A, n, cp, L, Ab, cb, h1, h2.below hb, h3, h4, (h5.below hb).mono hb.size, h6, h7⟩
theorem Jw.tail {w W : World} {S : Nat → Prop} {bj bw b r bm : Nat} {t : Int} {q : Nat} {T : List Tb.Ms} {A2 : Option Addr} {n2 cp2 : Nat} {L : List Ds} (h : Jw w S bj bw b r bm t q T A2 n2 cp2 L W) :
    ∃ Cz : Array Value, (Calls Tryz.prog 17 #[.pointer (some ⟨bj, 0, none⟩), .agg Cz] W fun e w' => e = .returned (.bool true) ∧ Jw w S bj bw b r bm t q T A2 n2 cp2 L w') ∧
      Hid ((Instr.loadAt 36 (.pointer (some ⟨bm, 0, none⟩))).run Tryz.prog W = .ok (.agg Cz) W) :=
  ⟨jC t q r A2 n2 cp2, h.alike, Lib.hid (h.box.load (wC_size _ _))⟩
set_option maxHeartbeats 16000000 in
theorem jplays_go (st : Int) (hst : 0 ≤ st ∧ st < 4294967296) (x : Int) (A0 : Option Addr) (N : Nat) (cp0 : Nat) (l : List Ac) (w : World) (hn : l.length = N) (h1 : AcsAt w A0 l) :
    Calls Tryz.prog 3 #[.int .u32 st, .int .i64 x, .slice A0 N cp0] w fun e w' => e = .returned (.bool true) ∧ Below w.heap.size w w' := by
  obtain ⟨hzj, hzji⟩ := zero_of_info (P := Tryz.prog) jdZero
  have hzjs : (jCw (wC 0 (fun _ => false)) 0 none 0 0).size = 67 := jCw_size (wC_size _ _)
  have hzju : ∀ (j : Nat) (z : Int), (jCw (wC 0 (fun _ => false)) 0 none 0 0)[j]? ≠ some (.int .u8 z) := fun j z => jC_u8
  generalize jCw (wC 0 (fun _ => false)) 0 none 0 0 = Zj at *
  have HZI : Hid ((Tryz.prog.info? 36).map (·.size) = some 67) := Lib.hid hzji
  have HZS := Lib.hid hzjs
  have HZU := Lib.hid hzju
  have HKN := Lib.hid (fun W => jknown_any W)
  have HNW := Lib.hid (jnew_any st x hst w)
  have HDN := Lib.hid (fun r W => jdnew_any st hst r W)
  have H1 := Lib.hid h1
  have HN := Lib.hid hn
  clear h1 hn hzji hzjs hzju
  go_enter Tryz.func3, Tryz.ntmps3
  go_wp2_with fail
  refine HNW.out.mono ?_
  rintro e w1 (⟨hx, rfl, rfl⟩ | ⟨r, rfl, S, bj, bw, b, rfl, hJ, hS, hbw, hbj, hb1⟩)
  · clear HNW
    rename World => wr
    by_cases hx1 : x < 1
    · go_wp2_with fail
      refine (HKN.out wr).mono ?_
      rintro e wz ⟨rfl, hbz⟩
      go_wp2
      go_ret
      exact ⟨rfl, hbz⟩
    · have hx2 : 16 < x := by omega
      go_wp2_with fail
      refine (HKN.out wr).mono ?_
      rintro e wz ⟨rfl, hbz⟩
      go_wp2
      go_ret
      exact ⟨rfl, hbz⟩
  have hr : 1 ≤ r ∧ r ≤ 16 := by
    obtain ⟨m, A, n, cp, X, hT, _⟩ := hJ.tbl
    exact hT.room
  have hr1 : ¬ (r : Int) < 1 := by omega
  have hr2 : ¬ 16 < (r : Int) := by omega
  have HJ := Lib.hid hJ
  have HS := Lib.hid hS
  have HBW := Lib.hid hbw
  have HB1 := Lib.hid hb1
  clear HNW hJ hS hbw hb1 hbj
  go_wp2_with fail
  refine (HDN.out r w1).mono ?_
  rintro e w2 ⟨rfl, hb2⟩
  obtain ⟨bm, hbm⟩ : ∃ bm, w2.heap.size = bm := ⟨_, rfl⟩
  obtain ⟨w3, hw3⟩ : ∃ w3, w2.alloc (.cells (jC (Sr.add st (-1)) 18446744073709551615 r none 0 0) 36) = w3 := ⟨_, rfl⟩
  have hb23 : Below w2.heap.size w2 w3 := by rw [← hw3]; exact (Below.refl _ w2).alloc (Nat.le_refl _) _
  have hx3 : JdAt w3 bm (wC (Sr.add st (-1)) (18446744073709551615 : Nat).testBit) r none 0 0 := by rw [← hw3, ← hbm]; exact World.alloc_heap_new _ _
  have hst3 := run_storeAt_new (P := Tryz.prog) w2 36 Zj (jC (Sr.add st (-1)) 18446744073709551615 r none 0 0) (by rw [jC_size]; exact HZI.out) (by rw [HZS.out, jC_size]) jC_one
  rw [hw3, hbm] at hst3
  have hb03 := HB1.out.trans ((hb2.trans (hb23.mono hb2.size)).mono HB1.out.size)
  have HT0 : Hid (Jw w S bj bw b r bm (Sr.add st (-1)) 18446744073709551615 [] none 0 0 [] w3) := Lib.hid ⟨(HJ.out.below hb2).below hb23, hx3, .nil _, trivial, fun d hd => (by cases hd), HS.out, HBW.out, by rw [← hbm]; exact Nat.le_trans HB1.out.size hb2.size, hb03⟩
  have HST3 := Lib.hid hst3
  have HBM := Lib.hid hbm
  clear HDN hb2 hb23 hx3 hst3 hb03 hw3 hbm HJ HS HBW HB1
  generalize jC (Sr.add st (-1)) 18446744073709551615 r none 0 0 = C0 at HST3 ⊢
  go_wp2_with (rw [HBM.out]; refine wpList_store_run rfl 36 (.tmp 9) (.tmp 50) rfl (some ⟨bm, 0, none⟩) rfl (.agg C0) rfl HST3.out ?_)
  clear hr1 hr2
  go_loopw [7, 10] (fun tv iv wr => ∃ (j : Nat) (S : Nat → Prop) (bj bw b : Nat) (t : Int) (q : Nat) (T : List Tb.Ms) (A2 : Option Addr) (n2 cp2 : Nat) (L : List Ds), j ≤ N ∧ j ≤ 60 ∧ tv = .pointer (some ⟨bj, 0, none⟩) ∧ iv = .int .i64 (j : Int) ∧ Hid (Jw w S bj bw b r bm t q T A2 n2 cp2 L wr)) (fun _ iv _ => 60 - (intOf iv).toNat)
  case atStart => exact ⟨0, _, _, _, _, _, _, _, _, _, _, _, by omega, by omega, rfl, rfl, HT0⟩
  case round =>
    clear HT0 HST3 HBM
    obtain ⟨j, S, bj, bw, b, t, q, T, A2, n2, cp2, L, hjN, hj60, rfl, rfl, HT⟩ := hrel
    by_cases hj1 : j < N
    · by_cases hj2 : j < 60
      · have hj1' : (j : Int) < (N : Int) := by omega
        have hj2' : (j : Int) < 60 := by omega
        obtain ⟨a, haj⟩ : ∃ a, l[j]? = some a := ⟨_, List.getElem?_eq_getElem (by rw [HN.out]; omega)⟩
        obtain ⟨f, hf⟩ : ∃ f, a.f = f := ⟨_, rfl⟩
        obtain ⟨kk, hkk⟩ : ∃ kk, a.k = kk := ⟨_, rfl⟩
        have hat := H1.out.1 a (List.mem_of_getElem? haj)
        obtain ⟨g, off, rfl, hg, a0, a1, a2, a3, a4, a5, a6⟩ := H1.out.seven HT.out.below haj
        rw [hf] at hat a1 a2 a3 a4 a5 a6
        rw [hkk] at a0
        have hfl : (f.zs.take 250).length = min 250 f.zs.length := List.length_take
        have h250 : f.cut.zs.length ≤ 250 := by show (f.zs.take 250).length ≤ 250; omega
        have KC : ∀ W, Calls Tryz.prog 7 #[.agg #[.int .i64 f.v, .int .i64 f.k, .int .u32 f.s, .int .i64 f.i, .int .i64 f.c, .slice f.a f.zs.length f.cp]] W fun e w' => e = .returned (.agg #[.int .i64 f.cut.v, .int .i64 f.cut.k, .int .u32 f.cut.s, .int .i64 f.cut.i, .int .i64 f.cut.c, .slice f.cut.a f.cut.zs.length f.cut.cp]) ∧ Below W.heap.size W w' :=
          fun W => cut_any f.v f.k f.s f.i f.c f.a f.zs.length (f.zs.take 250).length f.cp W (by omega) (by omega) hat.room
        have HCA := Lib.hid (Fr.cut_at hat)
        have HKC := Lib.hid KC
        have hgW : g < wr.heap.size := by have := HT.out.below.size; omega
        clear KC hat hfl hj1 hj2 hg haj hf hkk
        generalize f.cut = h at HCA HKC h250
        obtain ⟨hv, hk, hs, hi, hc, ha, hcp, hz⟩ := h
        simp only at HKC h250
        go_wp2_with fail
        refine (HKC.out wr).mono ?_
        rintro e W1 ⟨rfl, hbW1⟩
        have a0' : (W1.alloc (.cells #[.int .i64 hv, .int .i64 hk, .int .u32 hs, .int .i64 hi, .int .i64 hc, .slice ha hz.length hcp] 42)).cell? ⟨g, off + j * 7, none⟩ = some (.int .i64 kk) :=
          ((hbW1.alloc hbW1.size (.cells #[.int .i64 hv, .int .i64 hk, .int .u32 hs, .int .i64 hi, .int .i64 hc, .slice ha hz.length hcp] 42)).cell (p := ⟨g, off + j * 7, none⟩) hgW).trans a0
        obtain ⟨W2, hW2⟩ : ∃ W2, W1.alloc (.cells #[.int .i64 hv, .int .i64 hk, .int .u32 hs, .int .i64 hi, .int .i64 hc, .slice ha hz.length hcp] 42) = W2 := ⟨_, rfl⟩
        have hb12 : Below W1.heap.size W1 W2 := by rw [← hW2]; exact (Below.refl _ W1).alloc (Nat.le_refl _) _
        obtain ⟨bf, hbf⟩ : ∃ bf, W1.heap.size = bf := ⟨_, rfl⟩
        have hxf : W2.heap[bf]? = some (.cells (frC hv hk hs hi hc (.slice ha hz.length hcp)) 42 (0, 0)) := by rw [← hW2, ← hbf]; exact World.alloc_heap_new _ _
        have hbr2 := hbW1.trans (hb12.mono hbW1.size)
        have HT2 := Lib.hid (HT.out.later hbr2)
        have HXF := Lib.hid hxf
        have HW2 := Lib.hid hW2
        have HBF := Lib.hid hbf
        have hfat : Hid ((⟨hv, hk, hs, hi, hc, ha, hcp, hz⟩ : Fr).At w w.heap.size) := HCA
        clear hW2 hb12 hxf hbr2 hbW1 a1 a2 a3 a4 a5 a6 hbf HKC HCA HT a0
        by_cases hk0 : kk = 0
        · have hk0' : (kk == 0) = true := by simpa using hk0
          clear hk0
          obtain ⟨hnd, hn2r, hr1', hr2', hnc2, _⟩ := HT2.out.nodup
          obtain ⟨R, hR⟩ : ∃ R, jtake r t q (L.map Ds.ms) ⟨hv, hk, hs, hi, hc, ha, hcp, hz⟩ = R := ⟨_, rfl⟩
          have hlk := jtake_likes HT2.out.like (keysL HT2.out.doc) r t q ⟨hv, hk, hs, hi, hc, ha, hcp, hz⟩
          have hz192 := jtake_zs HT2.out.joi ⟨hv, hk, hs, hi, hc, ha, hcp, hz⟩
          obtain ⟨R', hR'⟩ : ∃ R', jtake r t q T ⟨hv, hk, hs, hi, hc, ha, hcp, hz⟩ = R' := ⟨_, rfl⟩
          rw [hR, hR'] at hlk
          rw [hR'] at hz192
          obtain ⟨er, T3, zs, wh, ev, old⟩ := R
          obtain ⟨er0, T3', o'⟩ := R'
          obtain ⟨hle, hlo, hlT⟩ := hlk
          simp only at hle hlo hlT hz192
          subst hle hlo
          simp only at hz192
          have HB2 := Lib.hid HT2.out.below
          have hbm2 : bm < W2.heap.size := HT2.out.box.lt
          have hbf2 : bf < W2.heap.size := (Array.getElem?_eq_some_iff.1 HXF.out).1
          have hwbm := HT2.out.lowb
          have hcs := wC_size t q.testBit
          have hone : ∀ (A : Option Addr) (n cp : Nat), (jCw (wC t q.testBit) r A n cp).all (·.oneCell') = true := fun A n cp => jCw_one (wC_one _ _)
          have hcu : ∀ (A : Option Addr) (n cp : Nat) (j : Nat) (z : Int), (jCw (wC t q.testBit) r A n cp)[j]? ≠ some (.int .u8 z) := fun A n cp j z => jC_u8
          have hbox : JdAt W2 bm (wC t q.testBit) r A2 n2 cp2 := HT2.out.box
          have hFA : Hid (∀ V, Below w.heap.size w V → (⟨hv, hk, hs, hi, hc, ha, hcp, hz⟩ : Fr).At V V.heap.size) := Lib.hid fun V hV => (hfat.out.below hV).mono hV.size
          have KO : Hid (∀ V, Below W2.heap.size W2 V → Calls Tryz.prog 9 #[Value.agg #[.int .i64 hv, .int .i64 hk, .int .u32 hs, .int .i64 hi, .int .i64 hc, .slice ha hz.length hcp]] V fun e w' => e = .returned (Value.agg #[.int .i64 hv, .int .i64 hk, .int .u32 hs, .int .i64 hi, .int .i64 hc, .slice ha hz.length hcp]) ∧ Below V.heap.size V w') := Lib.hid fun V _ => of_frame hv hk hs hi hc ha hz.length hcp V
          have KR : Hid (∀ V, Below W2.heap.size W2 V → Calls Tryz.prog 8 #[.agg (jCw (wC t q.testBit) r A2 n2 cp2), Value.agg #[.int .i64 hv, .int .i64 hk, .int .u32 hs, .int .i64 hi, .int .i64 hc, .slice ha hz.length hcp]] V fun e w' => ∃ u, e = .returned u ∧ FJp (fun g => g.At w w.heap.size) Zj W2.heap.size W2.heap.size r (wC t q.testBit) T3 er ⟨zs, wh, ev, old⟩ 78 u w' ∧ Below V.heap.size V w') := Lib.hid fun V hV => by
            refine (jdtake_any (HT2.out.doc.below hV) hnd r hr1' hn2r hr2' HT2.out.joi.top ⟨hv, hk, hs, hi, hc, ha, hcp, hz⟩ (hFA.out V (HB2.out.trans (hV.mono HB2.out.size))) h250 (fun g => g.At w w.heap.size) HT2.out.src hfat.out).mono ?_
            rintro e V' ⟨hb, A3, n3, cp3, L3, Ab, cb, he, hd, hT3, hcb, hnb, hsr, hnew⟩
            rw [hR] at he hT3 hcb hnb
            refine ⟨_, he, ⟨A3, n3, cp3, L3, Ab, cb, rfl, hd, hT3, hcb, hnb, hsr, fun p hp => ?_⟩, hb⟩
            have := hnew p hp
            have := hV.size
            omega
          obtain ⟨Cw, hCw⟩ : ∃ Cw, wC t q.testBit = Cw := ⟨_, rfl⟩
          rw [hCw] at hcs hone hcu hbox KR
          have HCW := Lib.hid hCw
          have HCS := Lib.hid hcs
          have HONE := Lib.hid hone
          have HCU := Lib.hid hcu
          have HBX := Lib.hid hbox
          clear hCw hcs hone hcu hbox hnd hn2r hr1' hr2' hnc2 hR
          have LM : ∀ V, Below W2.heap.size W2 V → (Instr.loadAt 36 (.pointer (some ⟨bm, 0, none⟩))).run Tryz.prog V = .ok (.agg (jCw Cw r A2 n2 cp2)) V := fun V hV => (HBX.out.below hV).load HCS.out
          have LF : ∀ V, Below W2.heap.size W2 V → (Instr.loadAt 42 (.pointer (some ⟨bf, 0, none⟩))).run Tryz.prog V = .ok (.agg #[.int .i64 hv, .int .i64 hk, .int .u32 hs, .int .i64 hi, .int .i64 hc, .slice ha hz.length hcp]) V := fun V hV => by
            obtain ⟨d0, d1, d2, d3, d4, d5⟩ := fr_block (row_keep HXF.out hV)
            simp [Instr.loadAt, go_sem, d0, d1, d2, d3, d4, d5]
          go_wp2_with fail
          rw [HW2.out, HBF.out]
          refine wp_region_FTL 171 10 6 [6, 7] [78, 74, 79, 80, 12, 13] (FJp (fun g => g.At w w.heap.size) Zj W2.heap.size W2.heap.size r Cw T3 er ⟨zs, wh, ev, old⟩) (fun V => Below W2.heap.size W2 V) (by kernel_rfl) (by kernel_rfl) (by rfl) (by kernel_rfl) (by kernel_rfl) (by kernel_rfl) (by rfl) (by simp) (fun W W' h hb => h.trans (hb.mono h.size)) (fun q x W W' h hb => h.later hb) (Below.refl _ _).drew ?_
          simp only [List.take_succ_cons, List.take_zero, List.drop_succ_cons, List.drop_zero]
          refine wpF_load _ rfl (by rfl) (by rfl) (by rfl) LM ?_
          simp only [Act.put, List.setIfInBounds_toArray, List.set_cons_succ, List.set_cons_zero]
          refine wpF_load _ rfl (by rfl) (by rfl) (by rfl) LF ?_
          simp only [Act.put, List.setIfInBounds_toArray, List.set_cons_succ, List.set_cons_zero]
          refine wpF_call (f := 9) (args := #[Value.agg #[.int .i64 hv, .int .i64 hk, .int .u32 hs, .int .i64 hi, .int .i64 hc, .slice ha hz.length hcp]]) (Value.agg #[.int .i64 hv, .int .i64 hk, .int .u32 hs, .int .i64 hi, .int .i64 hc, .slice ha hz.length hcp]) rfl rfl (fun x => by first | rfl | (simp [go_sem]; done)) KO.out ?_
          simp only [Act.put, List.setIfInBounds_toArray, List.set_cons_succ, List.set_cons_zero]
          refine wpF_callsrc 78 (f := 8) (args := #[.agg (jCw Cw r A2 n2 cp2), Value.agg #[.int .i64 hv, .int .i64 hk, .int .u32 hs, .int .i64 hi, .int .i64 hc, .slice ha hz.length hcp]]) (by simp) rfl rfl rfl (fun x => by first | rfl | (simp [go_sem]; done)) KR.out ?_
          simp only [Act.put, List.setIfInBounds_toArray, List.set_cons_succ, List.set_cons_zero]
          refine wpF_mix 74 [78] (by simp) rfl (by kernel_rfl) (by kernel_rfl) (fun xs => by rfl) (fun xs V hV hx => ⟨xs 78, V, by simp [execOp, fill, Act.put, Act.eval, go_sem], hx 78 (by simp), Below.refl _ _⟩) ?_
          simp only [Act.put, List.setIfInBounds_toArray, List.set_cons_succ, List.set_cons_zero]
          refine wpF_mix 79 [74] (by simp) rfl (by kernel_rfl) (by kernel_rfl) (fun xs => by rfl) (fun xs V hV hx => ?_) ?_
          · obtain ⟨A3, n3, cp3, L3, Ab, cb, e74, h3⟩ := (show ∃ A n cp L Ab cb, xs 74 = .tuple #[.agg (jCw Cw r A n cp), outV Ab zs.length cb wh ev old, .int .i64 er] ∧ DocAt V A n cp L ∧ T3 = L.map Ds.ms ∧ zs.length ≤ cb ∧ Nums .u8 V V.heap.size Ab zs ∧ SrcL (fun g => g.At w w.heap.size) L ∧ ∀ p, Ab = some p → W2.heap.size ≤ p.block from hx 74 (by simp))
            exact ⟨.agg (jCw Cw r A3 n3 cp3), V, by simp [execOp, fill, Act.put, Act.eval, e74, go_sem], ⟨A3, n3, cp3, L3, Ab, cb, rfl, h3⟩, Below.refl _ _⟩
          simp only [Act.put, List.setIfInBounds_toArray, List.set_cons_succ, List.set_cons_zero]
          refine wpF_mix 80 [74] (by simp) rfl (by kernel_rfl) (by kernel_rfl) (fun xs => by rfl) (fun xs V hV hx => ?_) ?_
          · obtain ⟨A3, n3, cp3, L3, Ab, cb, e74, h3⟩ := (show ∃ A n cp L Ab cb, xs 74 = .tuple #[.agg (jCw Cw r A n cp), outV Ab zs.length cb wh ev old, .int .i64 er] ∧ DocAt V A n cp L ∧ T3 = L.map Ds.ms ∧ zs.length ≤ cb ∧ Nums .u8 V V.heap.size Ab zs ∧ SrcL (fun g => g.At w w.heap.size) L ∧ ∀ p, Ab = some p → W2.heap.size ≤ p.block from hx 74 (by simp))
            exact ⟨outV Ab zs.length cb wh ev old, V, by simp [execOp, fill, Act.put, Act.eval, e74, go_sem], ⟨A3, n3, cp3, L3, Ab, cb, rfl, h3⟩, Below.refl _ _⟩
          simp only [Act.put, List.setIfInBounds_toArray, List.set_cons_succ, List.set_cons_zero]
          refine wpF_useval 74 4 (.int .i64 er) (by simp) (by rfl) (by kernel_rfl) (by kernel_rfl) (by rfl) (fun x => by rfl) (fun x V hV hx => ?_) ?_
          · obtain ⟨A3, n3, cp3, L3, Ab, cb, e74, h3⟩ := (show ∃ A n cp L Ab cb, x = .tuple #[.agg (jCw Cw r A n cp), outV Ab zs.length cb wh ev old, .int .i64 er] ∧ DocAt V A n cp L ∧ T3 = L.map Ds.ms ∧ zs.length ≤ cb ∧ Nums .u8 V V.heap.size Ab zs ∧ SrcL (fun g => g.At w w.heap.size) L ∧ ∀ p, Ab = some p → W2.heap.size ≤ p.block from hx)
            simp [execOp, Act.put, Act.eval, e74, go_sem]
          simp only [Act.put, List.setIfInBounds_toArray, List.set_cons_succ, List.set_cons_zero]
          refine wpF_src 12 (by simp) rfl (by kernel_rfl) (by kernel_rfl) (fun V hV => ⟨.pointer (some ⟨V.heap.size, 0, none⟩), V.alloc (.cells Zj 36), ?_, ⟨_, rfl, hV.size, World.alloc_heap_new _ _⟩, (Below.refl _ _).alloc (Nat.le_refl _) _⟩) ?_
          · have hzz := hzj V
            simp [execOp, go_sem, hzz]
            try rfl
          simp only [Act.put, List.setIfInBounds_toArray, List.set_cons_succ, List.set_cons_zero]
          refine wpF_src 13 (by simp) rfl (by kernel_rfl) (by kernel_rfl) (fun V hV => ⟨.pointer (some ⟨V.heap.size, 0, none⟩), V.alloc (.cells (outC none 0 0 false false 0) 47), ?_, ⟨_, rfl, hV.size, World.alloc_heap_new _ _⟩, (Below.refl _ _).alloc (Nat.le_refl _) _⟩) ?_
          · have hzz : (zeroValue 47).run Tryz.prog V = .ok (.agg (outC none 0 0 false false 0)) V := by kernel_rfl
            simp [execOp, go_sem, hzz]
            try rfl
          simp only [Act.put, List.setIfInBounds_toArray, List.set_cons_succ, List.set_cons_zero]
          intro xs V hV hx
          obtain ⟨g12, e12, hg12, hc12⟩ := (show ∃ g, xs 12 = .pointer (some ⟨g, 0, none⟩) ∧ W2.heap.size ≤ g ∧ V.heap[g]? = some (.cells Zj 36 (0, 0)) from hx 12 (by simp))
          obtain ⟨g13, e13, hg13, hc13⟩ := (show ∃ g, xs 13 = .pointer (some ⟨g, 0, none⟩) ∧ W2.heap.size ≤ g ∧ V.heap[g]? = some (.cells (outC none 0 0 false false 0) 47 (0, 0)) from hx 13 (by simp))
          obtain ⟨A3, n3, cp3, L3, _, _, e79, hd3, hT3, _, _, hsr3, _⟩ := (show ∃ A n cp L Ab cb, xs 79 = .agg (jCw Cw r A n cp) ∧ DocAt V A n cp L ∧ T3 = L.map Ds.ms ∧ zs.length ≤ cb ∧ Nums .u8 V V.heap.size Ab zs ∧ SrcL (fun g => g.At w w.heap.size) L ∧ ∀ p, Ab = some p → W2.heap.size ≤ p.block from hx 79 (by simp))
          obtain ⟨_, _, _, _, Ab, cb, e80, _, _, hcb, hnb, _, hnew⟩ := (show ∃ A n cp L Ab cb, xs 80 = outV Ab zs.length cb wh ev old ∧ DocAt V A n cp L ∧ T3 = L.map Ds.ms ∧ zs.length ≤ cb ∧ Nums .u8 V V.heap.size Ab zs ∧ SrcL (fun g => g.At w w.heap.size) L ∧ ∀ p, Ab = some p → W2.heap.size ≤ p.block from hx 80 (by simp))
          simp only [fill, Act.put, List.setIfInBounds_toArray, List.set_cons_succ, List.set_cons_zero]
          rw [e12, e13, e79, e80]
          generalize xs 78 = x78
          generalize xs 74 = x74
          obtain ⟨C3, hC3⟩ : ∃ C3, jCw Cw r A3 n3 cp3 = C3 := ⟨_, rfl⟩
          have hs3 : C3.size = 67 := by rw [← hC3]; exact jCw_size HCS.out
          have ho3 : C3.all (·.oneCell') = true := by rw [← hC3]; exact HONE.out _ _ _
          rw [hC3]
          have hgg : g13 ≠ g12 := fun e => by
            rw [e, hc12] at hc13
            injection hc13 with h1
            injection h1 with _ h1 _
            exact absurd h1 (by decide)
          clear hx
          unfold outV
          refine wpList_store_run rfl 36 (.tmp 12) (.tmp 79) rfl (some ⟨g12, 0, none⟩) rfl (.agg C3) rfl (jd_store hc12 HZS.out hs3 ho3) ?_
          have hc13' : (V.setRow g12 C3).heap[g13]? = some (.cells (outC none 0 0 false false 0) 47 (0, 0)) := (setRow_other _ _ _ _ hgg).trans hc13
          refine wpList_store_row rfl 47 (.tmp 13) (.tmp 80) rfl g13 (outC Ab zs.length cb wh ev old) rfl rfl 47 _ hc13' soInfo rfl (out_one _ _ _ _ _ _) ?_
          refine wpList_val rfl (.int .i64 er) (fun W => by simp [execOp, Act.put, Act.eval, go_sem]) ?_
          simp only [Act.put, List.setIfInBounds_toArray, List.set_cons_succ, List.set_cons_zero]
          refine ⟨rfl, ?_⟩
          simp only [Exit.then]
          have hof : Off (fun p => p = g12 ∨ p = g13) V ((V.setRow g12 C3).setRow g13 (outC Ab zs.length cb wh ev old)) := ((off_tbox V g12 _).mono (S' := fun p => p = g12 ∨ p = g13) fun _ _ h => .inl h).trans (Off.setRow (S := fun p => p = g13) (Off.refl _ _) rfl _) fun _ _ h => .inr h
          have hsm : Smj V (fun p => p = g12 ∨ p = g13) := (smj_row hc12 HZU.out).or (smj_out hc13)
          have hc12f : ((V.setRow g12 C3).setRow g13 (outC Ab zs.length cb wh ev old)).heap[g12]? = some (.cells C3 36 (0, 0)) := (setRow_other _ _ _ _ (Ne.symm hgg)).trans (setRow_heap V g12 _ _ _ _ hc12)
          have hc13f : ((V.setRow g12 C3).setRow g13 (outC Ab zs.length cb wh ev old)).heap[g13]? = some (.cells (outC Ab zs.length cb wh ev old) 47 (0, 0)) := setRow_heap _ g13 _ _ _ _ hc13'
          have hdf := hd3.smj hof hsm
          have hnf := nums_smj hnb hof rfl hsm
          have hvf : Below W2.heap.size W2 _ := hV.trans (hof.below (fun p hp => by rcases hp with rfl | rfl <;> assumption) hV.size)
          obtain ⟨Wf, hWf⟩ : ∃ Wf, (V.setRow g12 C3).setRow g13 (outC Ab zs.length cb wh ev old) = Wf := ⟨_, rfl⟩
          rw [hWf] at hof hc12f hc13f hdf hnf hvf
          have hTf := HT2.out.later hvf
          have hxff := row_keep HXF.out hvf
          have hbwf := hTf.below
          have KP := jput_law hTf.joi hTf.low hbwf ⟨hv, hk, hs, hi, hc, ha, hcp, hz⟩ (hFA.out Wf hbwf) hR' hdf hsr3
          obtain ⟨d0, d1, d2, d3, d4, d5⟩ := fr_block hxff
          unfold frV at KP
          have HWF := Lib.hid hWf
          have HC12 := Lib.hid hc12f
          have HC13 := Lib.hid hc13f
          have HNF := Lib.hid hnf
          have HTF := Lib.hid hTf
          have HSLT := Lib.hid HT2.out.joi.lt
          have HNEW := Lib.hid hnew
          have HSR3 := Lib.hid hsr3
          have HT3 := Lib.hid hT3
          have HLT := Lib.hid hlT
          have HC3 := Lib.hid hC3
          have HS3 := Lib.hid hs3
          have HO3 := Lib.hid ho3
          have hg12f : g12 < Wf.heap.size := (Array.getElem?_eq_some_iff.1 hc12f).1
          have hg13f : g13 < Wf.heap.size := (Array.getElem?_eq_some_iff.1 hc13f).1
          clear hWf hof hc12f hc13f hdf hnf hTf hxff hbwf hsm hV hvf hc12 hc13 hc13' hd3 hnb hnew hsr3 hT3 hlT hR' LM LF KO KR e12 e13 e79 e80 hC3 hs3 ho3
          rw [HWF.out]
          simp only [frC] at KP
          go_wp2_with fail
          refine KP.mono ?_
          rintro e W3 ⟨A5, c5, S5, rfl, hc5, hn5, hj5, hlow', hbw3, hdoc3, hkeep, hnum3⟩
          have hlow5 : ∀ p, S5 p → w.heap.size ≤ p := fun p hp => by
            rcases hlow' p hp with h1 | h1
            · exact HTF.out.low p h1
            · have := HTF.out.below.size
              omega
          have hx12 := hkeep _ _ _ HC12.out (by decide) (by decide)
          have hx13 := hkeep _ _ _ HC13.out (by decide) (by decide)
          have hxbm := hkeep _ _ _ HTF.out.box (by decide) (by decide)
          have hnB3 : Nums .u8 W3 W3.heap.size Ab zs := hnum3 Ab zs HNF.out fun p hp hS => by
            have h1 := HSLT.out _ hS
            have h2 := HNEW.out p hp
            omega
          have hal := (Below.refl W3.heap.size W3).alloc (Nat.le_refl _) (.cells (outC A5 zs.length c5 wh ev old) 54)
          have hx15 := World.alloc_heap_new W3 (.cells (outC A5 zs.length c5 wh ev old) 54)
          obtain ⟨W4, hW4⟩ : ∃ W4, W3.alloc (.cells (outC A5 zs.length c5 wh ev old) 54) = W4 := ⟨_, rfl⟩
          rw [hW4] at hal hx15
          have hW4' : W3.alloc (.cells #[.slice A5 zs.length c5, .bool wh, .bool ev, .int .u32 old] 54) = W4 := hW4
          have hbm4 : W4.heap[bm]? = some (.cells (jCw (wC t q.testBit) r A2 n2 cp2) 36 (0, 0)) := row_keep hxbm hal
          rw [HCW.out] at hbm4
          have hx12' : JdAt W4 g12 Cw r A3 n3 cp3 := by
            rw [JdAt, HC3.out]
            exact row_keep hx12 hal
          have L12 := hx12'.load HCS.out
          have hst5 := jd_store hbm4 (jCw_size HCS.out) HS3.out HO3.out
          have hbx5 : JdAt (W4.setRow bm (jCw Cw r A3 n3 cp3)) bm Cw r A3 n3 cp3 := jd_set hbm4
          rw [HC3.out] at L12 hbx5
          have hbb : W3.heap.size ≠ bm := fun e => by
            have := (Array.getElem?_eq_some_iff.1 hxbm).1
            omega
          have hgb : g13 ≠ bm := fun e => by
            rw [e] at hx13
            rw [show W3.heap[bm]? = some _ from hxbm] at hx13
            injection hx13 with h1
            injection h1 with _ h1 _
            exact absurd h1 (by decide)
          have hx15' : (W4.setRow bm C3).heap[W3.heap.size]? = some (.cells (outC A5 zs.length c5 wh ev old) 54 (0, 0)) := (setRow_other _ _ _ _ hbb).trans hx15
          have hx13' : (W4.setRow bm C3).heap[g13]? = some (.cells (outC Ab zs.length cb wh ev old) 47 (0, 0)) := (setRow_other _ _ _ _ hgb).trans (row_keep hx13 hal)
          obtain ⟨p0, p1, p2, p3⟩ := out_block hx15'
          obtain ⟨q0, q1, q2, q3⟩ := out_block hx13'
          have hsm4 : Smj W4 (fun p => p = bm) := smj_row hbm4 (HCU.out _ _ _)
          have ho5 : Off (fun p => p = bm) W4 (W4.setRow bm C3) := off_tbox W4 bm C3
          have hbw4 := hbw3.trans (hal.mono hbw3.size)
          obtain ⟨W5, hW5⟩ : ∃ W5, W4.setRow bm C3 = W5 := ⟨_, rfl⟩
          have hj5' := (hj5.below hal).jbox hbm4 C3
          have hd5 := (hdoc3.below hal).smj ho5 hsm4
          have hnA5 := nums_smj ((hn5.below hal).mono hal.size) ho5 rfl hsm4
          have hnB5 := nums_smj ((hnB3.below hal).mono hal.size) ho5 rfl hsm4
          have hbw5 := hbw4.trans (ho5.below (B := w.heap.size) (fun p hp => by rw [hp]; exact hwbm) hbw4.size)
          rw [← HCW.out] at hbx5
          rw [hW5] at hbx5 hj5' hd5 hnA5 hnB5 hbw5 p0 p1 p2 p3 q0 q1 q2 q3 hst5
          have HZ5 : Hid (Jw w S5 bj bw b r bm t q T3' A3 n3 cp3 L3 W5) := Lib.hid ⟨hj5', hbx5, hd5, by rw [← HT3.out]; exact HLT.out, HSR3.out, hlow5, HTF.out.lowbw, hwbm, hbw5⟩
          have KQ := touts_any A5 Ab zs.length c5 cb wh ev old zs W5 rfl (by omega) hnA5 hnB5
          unfold outV at KQ
          simp only [outC] at KQ
          rw [← hW4'] at L12 hst5
          have HW4 := Lib.hid hW4'
          have HW5 := Lib.hid hW5
          clear hW4 hW4' hW5 hal hx15 hx15' hx13' hx12' hx12 hx13 hxbm hkeep hnB3 hj5 hj5' hdoc3 hd5 hbw3 hbw4 hbw5 hbx5 hnA5 hnB5 hbm4 hsm4 ho5 KP d0 d1 d2 d3 d4 d5 hbb hgb hc5 hn5 hnum3 hlow5
          generalize zs.length = zl at *
          unfold outV
          simp only [outC]
          go_wp2_with (first
            | (refine wpList_load_run rfl 36 (.tmp 12) rfl (some ⟨g12, 0, none⟩) rfl (.agg C3) L12 ?_)
            | (refine wpList_store_run rfl 36 (.tmp 9) (.tmp 88) rfl (some ⟨bm, 0, none⟩) rfl (.agg C3) rfl hst5 ?_))
          refine KQ.mono ?_
          rintro e W6 ⟨rfl, hb6⟩
          have HZ := Lib.hid (HZ5.out.later hb6)
          clear hb6 KQ HZ5 p0 p1 p2 p3 q0 q1 q2 q3 L12 hst5 HT2 HXF HW2 HBF HTF HC12 HC13 HNF HSLT HNEW HSR3 HT3 HLT HC3 HS3 HO3 HWF HW4 HW5 hFA HB2 HCW HCS HONE HCU HBX
          obtain ⟨Cz, KAz, HLZ⟩ := HZ.out.tail
          go_wp2_with (refine wpList_load_rung (by rfl) 36 (.tmp 9) rfl (some ⟨bm, 0, none⟩) rfl (.agg Cz) HLZ.out ?_)
          refine KAz.mono ?_
          rintro e Vz ⟨rfl, hz2⟩
          have HZ2 := Lib.hid hz2
          clear hz2 HZ KAz HLZ
          go_wp2
          go_roundw
          case rel => exact ⟨j + 1, _, _, _, _, _, _, _, _, _, _, _, by omega, by omega, rfl, by go_num, HZ2⟩
          case measure => simp [intOf]; omega
        · by_cases hk1 : kk = 1
          · have hk0' : (kk == 0) = false := by simpa using hk0
            have hk1' : (kk == 1) = true := by simpa using hk1
            clear hk0 hk1
            have hzb : 0 ≤ hs ∧ hs ≤ 4294967295 := ⟨hfat.out.s0, hfat.out.s1⟩
            have KD := jddone_any HT2.out.doc r HT2.out.joi.top HT2.out.joi.bits hs ⟨hzb.1, by omega⟩
            have LJ := HT2.out.box.load (wC_size _ _)
            have hCs : (jCw (wC t q.testBit) r A2 n2 cp2).size = 67 := jCw_size (wC_size _ _)
            have hCu : ∀ (j : Nat) (z : Int), (jCw (wC t q.testBit) r A2 n2 cp2)[j]? ≠ some (.int .u8 z) := fun j z => jC_u8
            have hxbm : W2.heap[bm]? = some (.cells (jCw (wC t q.testBit) r A2 n2 cp2) 36 (0, 0)) := HT2.out.box
            unfold jC at KD
            generalize jCw (wC t q.testBit) r A2 n2 cp2 = Cj at KD LJ hCs hCu hxbm
            obtain ⟨e0, e1, e2, e3, e4, e5⟩ := fr_block HXF.out
            rw [← HW2.out, ← HBF.out] at e2
            rw [← HW2.out] at LJ
            have HCS := Lib.hid hCs
            have HCU := Lib.hid hCu
            have HXB := Lib.hid hxbm
            clear e0 e1 e3 e4 e5 hCs hCu hxbm
            go_wp2_with (refine wpList_load_run rfl 36 (.tmp 9) rfl (some ⟨bm, 0, none⟩) rfl (.agg Cj) LJ ?_)
            rw [HW2.out, HBF.out]
            refine KD.mono ?_
            rintro e W3 ⟨hb3, A3, cp3, L3, rfl, hd3, hL3⟩
            clear KD LJ e2
            have hlk3 : Tb.Likes (L3.map Ds.ms) (if Wn.look t q hs = 0 then Tb.drop T hs else T) := by
              rw [hL3]
              split
              · have := HT2.out.like.drop hs
                rwa [filter_ds] at this
              · exact HT2.out.like
            have hsr3 : SrcL (fun g => g.At w w.heap.size) L3 := by
              rw [hL3]
              split
              · exact fun d hd => HT2.out.src d (List.mem_filter.1 hd).1
              · exact HT2.out.src
            clear hL3
            generalize L3.length = n3 at hd3 ⊢
            obtain ⟨C3, hC3⟩ : ∃ C3, jC (if Wn.look t q hs = 0 then Wn.nt t hs else t) (if Wn.look t q hs = 0 then Wn.nq t q hs else q) r A3 n3 cp3 = C3 := ⟨_, rfl⟩
            rw [hC3]
            have hs3 : C3.size = 67 := by rw [← hC3]; exact jC_size
            have ho3 : C3.all (·.oneCell') = true := by rw [← hC3]; exact jC_one
            obtain ⟨b17, hb17⟩ : ∃ b17, W3.heap.size = b17 := ⟨_, rfl⟩
            obtain ⟨W4, hW4⟩ : ∃ W4, W3.alloc (.cells C3 36) = W4 := ⟨_, rfl⟩
            have hb34 : Below W3.heap.size W3 W4 := by rw [← hW4]; exact (Below.refl _ W3).alloc (Nat.le_refl _) _
            have hx17 : JdAt W4 b17 (wC (if Wn.look t q hs = 0 then Wn.nt t hs else t) (if Wn.look t q hs = 0 then Wn.nq t q hs else q).testBit) r A3 n3 cp3 := by
              rw [← hW4, ← hb17, ← hC3]
              exact World.alloc_heap_new _ _
            have L17 := hx17.load (wC_size _ _)
            have hst4 := run_storeAt_new (P := Tryz.prog) W3 36 Zj C3 (by rw [hs3]; exact HZI.out) (by rw [HZS.out, hs3]) ho3
            rw [hW4, hb17] at hst4
            have hbm4 : W4.heap[bm]? = some (.cells Cj 36 (0, 0)) := row_keep (row_keep HXB.out hb3) hb34
            have hst5 := jd_store hbm4 HCS.out hs3 ho3
            have hbx5 : JdAt (W4.setRow bm (jCw (wC (if Wn.look t q hs = 0 then Wn.nt t hs else t) (if Wn.look t q hs = 0 then Wn.nq t q hs else q).testBit) r A3 n3 cp3)) bm (wC (if Wn.look t q hs = 0 then Wn.nt t hs else t) (if Wn.look t q hs = 0 then Wn.nq t q hs else q).testBit) r A3 n3 cp3 := jd_set hbm4
            unfold jC at hC3
            rw [hC3] at L17 hbx5
            have hxf4 := row_keep (row_keep HXF.out hb3) hb34
            have hbfm : bf ≠ bm := fun e => by
              rw [e, hbm4] at hxf4
              injection hxf4 with h1
              injection h1 with _ h1 _
              exact absurd h1 (by decide)
            have hxf5 := (setRow_other W4 bm bf C3 hbfm).trans hxf4
            have ho5 : Off (fun p => p = bm) W4 (W4.setRow bm C3) := off_tbox W4 bm C3
            have hd5 := (hd3.below hb34).smj ho5 (smj_row hbm4 HCU.out)
            have hj5 := ((HT2.out.joi.below hb3).below hb34).jbox hbm4 C3
            have hb24 := hb3.trans (hb34.mono hb3.size)
            have hbw4 := HT2.out.below.trans (hb24.mono HT2.out.below.size)
            have hbw5 := hbw4.trans (ho5.below (B := w.heap.size) (fun p hp => by rw [hp]; exact HT2.out.lowb) hbw4.size)
            obtain ⟨W5, hW5⟩ : ∃ W5, W4.setRow bm C3 = W5 := ⟨_, rfl⟩
            rw [hW5] at hst5 hbx5 hxf5 hd5 hj5 hbw5
            have KP := jdone_law hj5 HT2.out.low HT2.out.lowbw HT2.out.lowb hbw5 hzb hd5 hsr3 hbx5 hlk3
            obtain ⟨e0, e1, e2, e3, e4, e5⟩ := fr_block hxf5
            have HW4 := Lib.hid hW4
            have HB17 := Lib.hid hb17
            clear e0 e1 e3 e4 e5 hW4 hb17 hW5 hbx5 hxf5 hxf4 hd5 hj5 hbw5 hbw4 hb24 ho5 hbfm hbm4 hx17 hb34 hC3 hs3 ho3 hlk3 hsr3 hb3 hd3
            generalize Wn.look t q hs = K at *
            go_wp2_with (first
              | (rw [HB17.out]; refine wpList_store_run rfl 36 (.tmp 17) (.tmp 106) rfl (some ⟨b17, 0, none⟩) rfl (.agg C3) rfl hst4 ?_)
              | (refine wpList_load_run rfl 36 (.tmp 17) rfl (some ⟨b17, 0, none⟩) rfl (.agg C3) L17 ?_)
              | (refine wpList_store_run rfl 36 (.tmp 9) (.tmp 108) rfl (some ⟨bm, 0, none⟩) rfl (.agg C3) rfl hst5 ?_))
            refine KP.mono ?_
            rintro e W6 ⟨rfl, S6, T6, t6, q6, h6⟩
            have HZ := Lib.hid h6
            clear h6 KP hst4 L17 hst5 HW4 HB17 e2 HT2 HXF HW2 HBF HCS HCU HXB
            obtain ⟨Cz, KAz, HLZ⟩ := HZ.out.tail
            go_wp2_with (refine wpList_load_rung (by rfl) 36 (.tmp 9) rfl (some ⟨bm, 0, none⟩) rfl (.agg Cz) HLZ.out ?_)
            refine KAz.mono ?_
            rintro e Vz ⟨rfl, hz2⟩
            have HZ2 := Lib.hid hz2
            clear hz2 HZ KAz HLZ
            go_wp2
            go_roundw
            case rel => exact ⟨j + 1, _, _, _, _, _, _, _, _, _, _, _, by omega, by omega, rfl, by go_num, HZ2⟩
            case measure => simp [intOf]; omega
          · by_cases hk2 : kk = 2
            · have hk0' : (kk == 0) = false := by simpa using hk0
              have hk1' : (kk == 1) = false := by simpa using hk1
              have hk2' : (kk == 2) = true := by simpa using hk2
              clear hk0 hk1 hk2
              obtain ⟨hnd, hn2r, hr1', hr2', hnc2, hsn⟩ := HT2.out.nodup
              have hless := jdrop_less (z := hs) hsn
              rw [HT2.out.doc.len] at hless
              have hzb : 0 ≤ hs ∧ hs ≤ 4294967295 := ⟨hfat.out.s0, hfat.out.s1⟩
              have KDR := ddrop_any HT2.out.doc r hs
              obtain ⟨d0, d1⟩ := HT2.out.box.cells (wC_size _ _)
              obtain ⟨e0, e1, e2, e3, e4, e5⟩ := fr_block HXF.out
              unfold docV at KDR
              rw [← HW2.out, ← HBF.out] at e2
              rw [← HW2.out] at d0 d1
              clear e0 e1 e3 e4 e5 hnd hn2r hr1' hr2' hsn
              go_wp2_with fail
              rw [HW2.out, HBF.out]
              refine KDR.mono ?_
              rintro e W3 ⟨hb3, A3, cp3, rfl, hd3⟩
              obtain ⟨L3, hL3⟩ : ∃ L3, (L.filter fun d => d.s != hs) = L3 := ⟨_, rfl⟩
              obtain ⟨dv, hdv⟩ : ∃ dv, (Tb.find T hs).isSome = dv := ⟨_, rfl⟩
              have hlk3 : Tb.Likes (L3.map Ds.ms) (Tb.drop T hs) := by
                have := HT2.out.like.drop hs
                rwa [filter_ds, hL3] at this
              have hsr3 : SrcL (fun g => g.At w w.heap.size) L3 := fun d hd => HT2.out.src d (by rw [← hL3] at hd; exact (List.mem_filter.1 hd).1)
              rw [hL3] at hd3 hless ⊢
              rw [hdv] at hless
              obtain ⟨n3, hn3⟩ : ∃ n3, L3.length = n3 := ⟨_, rfl⟩
              rw [hn3] at hd3 hless ⊢
              have hcmp : decide (n3 < n2) = dv := by
                rcases hless with ⟨rfl, h⟩ | ⟨rfl, h⟩
                · simpa using h
                · simp [h]
              have hT3 := HT2.out.later hb3
              have hxbm3 : W3.heap[bm]? = some (.cells (jCw (wC t q.testBit) r A2 n2 cp2) 36 (0, 0)) := hT3.box
              have hst4 := hT3.box.storeT (wC_size _ _) (r' := r) (A' := A3) (n' := n3) (cp' := cp3)
              have hxf3 := row_keep HXF.out hb3
              have hbfm : bf ≠ bm := fun e => by
                rw [e, hxbm3] at hxf3
                injection hxf3 with h1
                injection h1 with _ h1 _
                exact absurd h1 (by decide)
              have ho4 : Off (fun p => p = bm) W3 (W3.setRow bm (jCw (wC t q.testBit) r A3 n3 cp3)) := off_tbox W3 bm _
              have hx4 : JdAt (W3.setRow bm (jCw (wC t q.testBit) r A3 n3 cp3)) bm (wC t q.testBit) r A3 n3 cp3 := jd_set hxbm3
              have hxf4 := (setRow_other W3 bm bf (jCw (wC t q.testBit) r A3 n3 cp3) hbfm).trans hxf3
              have hd4 := hd3.smj ho4 (smj_row hxbm3 fun j z => jC_u8)
              have hj4 := hT3.joi.jbox hxbm3 (jCw (wC t q.testBit) r A3 n3 cp3)
              have hbw4 := hT3.below.trans (ho4.below (B := w.heap.size) (fun p hp => by rw [hp]; exact hT3.lowb) hT3.below.size)
              obtain ⟨W4, hW4⟩ : ∃ W4, W3.setRow bm (jCw (wC t q.testBit) r A3 n3 cp3) = W4 := ⟨_, rfl⟩
              rw [hW4] at hst4 hx4 hxf4 hd4 hj4 hbw4
              have hlow := hT3.low
              have hlowb := hT3.lowb
              have hlowbw := hT3.lowbw
              have HX4 := Lib.hid hx4
              have HXF4 := Lib.hid hxf4
              have HD4 := Lib.hid hd4
              have HJ4 := Lib.hid hj4
              have HBW4 := Lib.hid hbw4
              have HLK3 := Lib.hid hlk3
              have HSR3 := Lib.hid hsr3
              have HDV := Lib.hid hdv
              have HLOW := Lib.hid hlow
              have HCMP := Lib.hid hcmp
              clear hcmp hW4 hx4 hxf4 hd4 hj4 hbw4 hlk3 hsr3 hdv hlow ho4 hT3 hxf3 hbfm hd3 hb3 KDR hless hL3 hn3 hxbm3 d0 d1 e2
              unfold docV at hst4 ⊢
              go_wp2_with (refine wpList_store_run rfl 34 (.tmp 128) (.tmp 127) rfl (some ⟨bm, 65, none⟩) rfl (.agg #[.int .i64 (r : Int), .slice A3 n3 cp3]) rfl hst4 ?_)
              clear hst4
              simp only [Act.put]
              have lI : ∀ V, (JdAt V bm (wC t q.testBit) r A3 n3 cp3 ∧ V.heap[bf]? = some (.cells (frC hv hk hs hi hc (.slice ha hz.length hcp)) 42 (0, 0))) → (Instr.loadAt 32 (.pointer (some ⟨bm, 66, none⟩))).run Tryz.prog V = .ok (.slice A3 n3 cp3) V := fun V hV => hV.1.loadL (wC_size _ _)
              have lF : ∀ V, (JdAt V bm (wC t q.testBit) r A3 n3 cp3 ∧ V.heap[bf]? = some (.cells (frC hv hk hs hi hc (.slice ha hz.length hcp)) 42 (0, 0))) → (Instr.loadAt 22 (.pointer (some ⟨bf, 2, none⟩))).run Tryz.prog V = .ok (.int .u32 hs) V := fun V hV => by
                obtain ⟨d0, d1, d2, d3, d4, d5⟩ := fr_block hV.2
                simp [Instr.loadAt, go_sem, d2]
              refine wp_region_order4 (0 :: 1 :: 2 :: 3 :: 5 :: 6 :: 7 :: 8 :: 9 :: 10 :: 4 :: 11 :: []) (fun V => JdAt V bm (wC t q.testBit) r A3 n3 cp3 ∧ V.heap[bf]? = some (.cells (frC hv hk hs hi hc (.slice ha hz.length hcp)) 42 (0, 0))) (C := fun W => Below W4.heap.size W4 W) (by kernel_rfl) (by kernel_rfl) (Below.refl _ _).drew (fun V hV => ⟨HX4.out.below hV, row_keep HXF4.out hV⟩) ?_
              repeat (refine wpO4_pure rfl rfl ?_; go_big_quiet_step (fail); refine wpQuiet_nil ?_)
              refine wpO4_load (ad := ⟨bf, 2, none⟩) (.int .u32 hs) rfl rfl rfl (by rfl) lF ?_
              simp only [Act.put, List.setIfInBounds_toArray, List.set_cons_succ, List.set_cons_zero]
              repeat (refine wpO4_pure rfl rfl ?_; go_big_quiet_step (fail); refine wpQuiet_nil ?_)
              refine wpO4_load (ad := ⟨bm, 66, none⟩) (.slice A3 n3 cp3) rfl rfl rfl (by rfl) lI ?_
              simp only [Act.put, List.setIfInBounds_toArray, List.set_cons_succ, List.set_cons_zero]
              repeat (refine wpO4_pure rfl rfl ?_; go_big_quiet_step (fail); refine wpQuiet_nil ?_)
              refine wpO4_call (fun v => v = .bool dv) (fun _ W => (∃ S' T', Jw w S' bj bw b r bm t q T' A3 n3 cp3 L3 W) ∧ W.heap[bf]? = some (.cells (frC hv hk hs hi hc (.slice ha hz.length hcp)) 42 (0, 0))) (f := 15) (args := #[.pointer (some ⟨bj, 0, none⟩), .int .u32 hs]) rfl rfl rfl (fun _ W hW => ?_) (fun x => by first | rfl | (simp [go_sem]; done)) (fun V hV => ?_) ?_
              · obtain ⟨⟨_, _, h⟩, h2⟩ := hW
                exact ⟨h.box, h2⟩
              · refine (jdrop_law (HJ4.out.below hV) HLOW.out hlowbw hlowb (HBW4.out.trans (hV.mono HBW4.out.size)) hzb (HD4.out.below hV) HSR3.out (HX4.out.below hV) HLK3.out).mono ?_
                rintro e w' ⟨he, hT, hk⟩
                exact ⟨_, he, by rw [HDV.out], hT, hk _ _ _ (row_keep HXF4.out hV) (by decide) (by decide)⟩
              rintro v rfl
              simp only [Act.put, List.setIfInBounds_toArray, List.set_cons_succ, List.set_cons_zero]
              repeat (refine wpO4_pure rfl rfl ?_; go_big_quiet_step (fail); refine wpQuiet_nil ?_)
              rintro V ⟨⟨S6, T6, hT5⟩, _⟩
              have HZ := Lib.hid hT5
              clear hT5 lI lF HX4 HXF4 HD4 HJ4 HBW4 HLK3 HSR3 HDV HLOW HT2 HXF HW2 HBF
              rw [HCMP.out]
              simp only [beq_self_eq_true, Bool.not_true]
              clear HCMP
              obtain ⟨Cz, KAz, HLZ⟩ := HZ.out.tail
              go_wp2_with (refine wpList_load_rung (by rfl) 36 (.tmp 9) rfl (some ⟨bm, 0, none⟩) rfl (.agg Cz) HLZ.out ?_)
              refine KAz.mono ?_
              rintro e Vz ⟨rfl, hz2⟩
              have HZ2 := Lib.hid hz2
              clear hz2 HZ KAz HLZ
              go_wp2
              go_roundw
              case rel => exact ⟨j + 1, _, _, _, _, _, _, _, _, _, _, _, by omega, by omega, rfl, by go_num, HZ2⟩
              case measure => simp [intOf]; omega
            · by_cases hk3 : kk = 3
              · have hk0' : (kk == 0) = false := by simpa using hk0
                have hk1' : (kk == 1) = false := by simpa using hk1
                have hk2' : (kk == 2) = false := by simpa using hk2
                have hk3' : (kk == 3) = true := by simpa using hk3
                clear hk0 hk1 hk2 hk3
                have hzb : 0 ≤ hs ∧ hs ≤ 4294967295 := ⟨hfat.out.s0, hfat.out.s1⟩
                have KCP := jcopy_any HT2.out.joi
                go_wp2_with fail
                rw [HW2.out, HBF.out]
                refine KCP.mono ?_
                rintro e W3 ⟨S2, bj2, bw2, b2, T2, rfl, hc3, hlk3, hlow2, hlbw2, hlbj2, hb3⟩
                have hT3 := HT2.out.later hb3
                have LJ3 := hT3.box.load (wC_size _ _)
                have KA := jalike_any hc3 hT3.doc (hT3.like.trans hlk3) hT3.nodup.2.2.2.2.1
                have hxf3 := row_keep HXF.out hb3
                have HT3 := Lib.hid hT3
                have HC3 := Lib.hid hc3
                have HXF3 := Lib.hid hxf3
                have HLK3 := Lib.hid hlk3
                have HLOW2 := Lib.hid hlow2
                have hsz23 := hb3.size
                clear hT3 hc3 hxf3 hlk3 hlow2 KCP hb3
                unfold jC at KA
                generalize jCw (wC t q.testBit) r A2 n2 cp2 = Cj at KA LJ3
                go_wp2_with (refine wpList_load_rung (by rfl) 36 (.tmp 9) rfl (some ⟨bm, 0, none⟩) rfl (.agg Cj) LJ3 ?_)
                refine KA.mono ?_
                rintro e W4 ⟨rfl, hb4⟩
                clear LJ3 KA
                have hT4 := HT3.out.later hb4
                have hxf4 := row_keep HXF3.out hb4
                have hsz34 := hb4.size
                have KP := jtake_any hT4.joi ⟨hv, hk, hs, hi, hc, ha, hcp, hz⟩ ((hfat.out.below hT4.below).mono hT4.below.size)
                obtain ⟨R, hR⟩ : ∃ R, jtake r t q T ⟨hv, hk, hs, hi, hc, ha, hcp, hz⟩ = R := ⟨_, rfl⟩
                obtain ⟨e0, e1, e2, e3, e4, e5⟩ := fr_block hxf4
                unfold frV at KP
                simp only [frC] at KP
                have HR := Lib.hid hR
                have HT4 := Lib.hid hT4
                have HC4 := Lib.hid (HC3.out.below hb4)
                have HXF4 := Lib.hid hxf4
                clear hT4 hxf4 hb4 hR
                go_wp2_with fail
                refine (KP.mono fun _ _ h => h.of HR.out).mono ?_
                rintro e W5 ⟨A5, c5, rfl, _, _, hto5, S5, hj5, hS5⟩
                clear KP e0 e1 e2 e3 e4 e5
                have hsz45 := hto5.size
                have hslt := HT2.out.joi.lt
                have hclt := HC3.out.lt
                have hbwlt := HT2.out.joi.win.size
                have hbj2lt := HC3.out.size
                have hbw2lt := HC3.out.win.size
                have hbw5 := HT4.out.below.trans (hto5.below HT4.out.low HT4.out.below.size)
                have hc5 := HC4.out.toff hto5 (fun p h1 h2 => by have := HLOW2.out p h1; have := hslt p h2; omega) (fun h => by have := hslt _ h; omega) (fun h => by have := hslt _ h; omega)
                have hdoc5 := HT4.out.joi.docT hto5 HT4.out.doc HT4.out.src hbw5
                have hbox5 : JdAt W5 bm (wC t q.testBit) r A2 n2 cp2 := HT4.out.joi.keepT hto5 HT4.out.box (by decide) (by decide)
                have hxf5 := HT4.out.joi.keepT hto5 HXF4.out (by decide) (by decide)
                have KD := jdone_any hj5 hzb
                obtain ⟨e0, e1, e2, e3, e4, e5⟩ := fr_block hxf5
                have HJ5 := Lib.hid hj5
                have HC5 := Lib.hid hc5
                have HDOC5 := Lib.hid hdoc5
                have HBOX5 := Lib.hid hbox5
                have HBW5 := Lib.hid hbw5
                have HS5 := Lib.hid hS5
                have HSLT := Lib.hid hslt
                have HCLT := Lib.hid hclt
                clear hj5 hc5 hdoc5 hbox5 hxf5 hbw5 hS5 hto5 hslt hclt
                unfold outV
                simp only [outC]
                generalize R.o.zs.length = zl
                go_wp2_with fail
                refine KD.mono ?_
                rintro e W6 ⟨rfl, hto6, _⟩
                have hlowT : ∀ p, (S5 p ∨ p = bw) → w.heap.size ≤ p := fun p hp => by
                  rcases hp with hp | hp
                  · rcases HS5.out p hp with h1 | h1
                    · exact HT2.out.low p h1
                    · have := HT4.out.below.size
                      omega
                  · rw [hp]; exact HT2.out.lowbw
                have hbw6 := HBW5.out.trans (hto6.below hlowT HBW5.out.size)
                have hfar : ∀ p, W2.heap.size ≤ p → p < W3.heap.size → ¬ (S5 p ∨ p = bw) := fun p h1 h2 h3 => by
                  rcases h3 with h3 | h3
                  · rcases HS5.out p h3 with h4 | h4
                    · have := HSLT.out p h4
                      omega
                    · omega
                  · omega
                have hc6 := HC5.out.toff hto6 (fun p h1 => hfar p (HLOW2.out p h1) (HCLT.out p h1)) (hfar _ hlbj2 hbj2lt) (hfar _ hlbw2 hbw2lt)
                have hZ : Jw w S2 bj2 bw2 b2 r bm t q T2 A2 n2 cp2 L W6 := ⟨hc6, HJ5.out.keepD hto6 HBOX5.out (by decide) (by decide) (by decide), HJ5.out.docD hto6 HDOC5.out HT2.out.src hbw6, HT2.out.like.trans HLK3.out, HT2.out.src, fun p hp => by
                  have h1 := HLOW2.out p hp
                  have := HT2.out.below.size
                  omega, by have := HT2.out.below.size; omega, HT2.out.lowb, hbw6⟩
                have HZ := Lib.hid hZ
                clear hZ hc6 hfar hbw6 hlowT hto6 KD e0 e1 e2 e3 e4 e5 HJ5 HC5 HDOC5 HBOX5 HBW5 HS5 HSLT HCLT HT4 HC4 HXF4 HR HT3 HC3 HXF3 HLK3 HLOW2 HT2 HXF HW2 HBF hsz23 hsz34 hsz45 hbwlt hbj2lt hbw2lt hlbw2 hlbj2
                obtain ⟨Cz, KAz, HLZ⟩ := HZ.out.tail
                go_wp2_with (refine wpList_load_rung (by rfl) 36 (.tmp 9) rfl (some ⟨bm, 0, none⟩) rfl (.agg Cz) HLZ.out ?_)
                refine KAz.mono ?_
                rintro e Vz ⟨rfl, hz2⟩
                have HZ2 := Lib.hid hz2
                clear hz2 HZ KAz HLZ
                go_wp2
                go_roundw
                case rel => exact ⟨j + 1, _, _, _, _, _, _, _, _, _, _, _, by omega, by omega, rfl, by go_num, HZ2⟩
                case measure => simp [intOf]; omega
              · have hk0' : (kk == 0) = false := by simpa using hk0
                have hk1' : (kk == 1) = false := by simpa using hk1
                have hk2' : (kk == 2) = false := by simpa using hk2
                have hk3' : (kk == 3) = false := by simpa using hk3
                clear hk0 hk1 hk2 hk3
                have HZ : Hid (Jw w S bj bw b r bm t q T A2 n2 cp2 L (W1.alloc (.cells #[.int .i64 hv, .int .i64 hk, .int .u32 hs, .int .i64 hi, .int .i64 hc, .slice ha hz.length hcp] 42))) := Lib.hid (by rw [HW2.out]; exact HT2.out)
                clear HT2 HXF HW2 HBF
                obtain ⟨Cz, KAz, HLZ⟩ := HZ.out.tail
                go_wp2_with (refine wpList_load_rung (by rfl) 36 (.tmp 9) rfl (some ⟨bm, 0, none⟩) rfl (.agg Cz) HLZ.out ?_)
                refine KAz.mono ?_
                rintro e Vz ⟨rfl, hz2⟩
                have HZ2 := Lib.hid hz2
                clear hz2 HZ KAz HLZ
                go_wp2
                go_roundw
                case rel => exact ⟨j + 1, _, _, _, _, _, _, _, _, _, _, _, by omega, by omega, rfl, by go_num, HZ2⟩
                case measure => simp [intOf]; omega
      · have hj1' : (j : Int) < (N : Int) := by omega
        have hj2' : ¬ (j : Int) < 60 := by omega
        clear hj1 hj2
        go_wp2_with fail
        refine (HKN.out wr).mono ?_
        rintro e wz ⟨rfl, hbz⟩
        have HBZ := Lib.hid (HT.out.below.trans (hbz.mono HT.out.below.size))
        clear hbz
        go_wp2
        go_ret
        exact ⟨rfl, HBZ.out⟩
    · have hj1' : ¬ (j : Int) < (N : Int) := by omega
      clear hj1
      go_wp2_with fail
      refine (HKN.out wr).mono ?_
      rintro e wz ⟨rfl, hbz⟩
      have HBZ := Lib.hid (HT.out.below.trans (hbz.mono HT.out.below.size))
      clear hbz
      go_wp2
      go_ret
      exact ⟨rfl, HBZ.out⟩
end Go.Proofs.YtfdbcfkjablnkaaGreat

namespace Go.Proofs.YtfdbcfkjablnkaaGreat.joinPlays
open Go.ChangeShapes Go.WideShapes Go.ChangeAt Go.RowKit
open Go.ChangeMaps (open_string shut_string)
set_option linter.unusedVariables false

theorem own : ownKnob Tryz.prog.godebug = none := by kernel_rfl
theorem laidOut : laidOutB Tryz.prog = true := by kernel_rfl

set_option maxRecDepth 100000 in
theorem lifted (os : Os) (started : os.Started) (H : Type) (enc : TypeId × Value → H) :
    ReturnsInHanded {} Tryz.checked os 3 .any (Rows.joinPlaysSpec.pre6 enc Tryz.prog Tryz.f3 Rows.joinPlaysRow.domain false) (Rows.joinPlaysSpec.post enc Tryz.prog Tryz.f3 false true false false) := by
  refine returnsInHanded_of_change (C := Tryz.checked) own started (by kernel_rfl) Tryz.func3
    (ChangeSpec.witness6 (enc := enc) (C := Tryz.checked) false ⟨#[], #[.int .u32 0, .int .i64 0, .slice none 0 0], []⟩ 8 (by kernel_rfl) (by kernel_rfl) (by kernel_rfl) (by kernel_rfl)) ?_
  intro W base args ds gs before hval0 hW hcnd _
  have hval : ∀ (j : Nat) t v, Tryz.f3.params[j]? = some t → args[j]? = some v → Value.okWide Tryz.prog W .any base t v := hval0
  have hW' := hW
  obtain ⟨p, q, hA0, hV, rfl, hfz, hnd⟩ := hW
  have hA : DataW.TrodAll enc Tryz.prog W 0 (fun _ => true) true Tryz.f3.params.toList args.toList ds p := hA0
  rw [Tryz.params3] at hA hval
  obtain ⟨v0, vs0, d0, ds0, p0, q0, hargs, rfl, rfl, h0, r0⟩ := trodAll_cons hA
  obtain ⟨v1, vs1, d1, ds1, p1, q1, rfl, rfl, rfl, h1, r1⟩ := trodAll_cons r0
  obtain ⟨v2, vs2, d2, ds2, p2, q2, rfl, rfl, rfl, h2, r2⟩ := trodAll_cons r1
  obtain ⟨rfl, rfl, rfl⟩ := trodAll_nil r2
  obtain rfl : args = #[v0, v1, v2] := by cases args; simp_all
  obtain ⟨rfl, rfl⟩ := trodVars_none hV
  obtain ⟨a0, rfl, rfl, rfl, w0⟩ := open_int Tryz.underlying22 (hval 0 22 v0 rfl rfl) h0
  obtain ⟨a1, rfl, rfl, rfl, w1⟩ := open_int Tryz.underlying3 (hval 1 3 v1 rfl rfl) h1
  obtain ⟨a2, len2, cap2, rfl⟩ := okWide_slice Tryz.underlying23 (hval 2 23 v2 rfl rfl)
  have k2 := h2
  have lt2 : ∀ x ∈ p2, x.block < W.heap.size := by obtain ⟨m, hm⟩ := k2; exact DataW.trod_lt m _ _ _ hm
  obtain ⟨e2, hd2, hm2, w2⟩ : ∃ ds, ds.length = len2 ∧ len2 ≤ 9223372036854775807 ∧ AcsAt W a2 ds := by
    obtain ⟨fuel, hf⟩ := h2
    exact acs_of hf
  clear hA0 hval0
  refine (jplays_go a0 (by have := bounds_u32 w0; omega) a1 a2 len2 cap2 e2 W hd2 w2).mono fun e W' ⟨he, bel⟩ => ?_
  subst he
  exact ⟨_, rfl, _, _, _, [], _, [], hW', trodAll_mk1 (shut_bool Tryz.underlying4 _), (trodAll_cons_mk (shut_int Tryz.underlying22 w0) (trodAll_cons_mk (shut_int Tryz.underlying3 w1) (trodAll_cons_mk (Below.trod laidOut (by kernel_rfl) (of_decide_eq_true (by kernel_rfl)) k2 bel lt2) trodAll_mk0))), rfl, bel.frame _, fun h => by cases h⟩

theorem over : Rows.joinPlaysRow.holds Tryz.pinned (OpenSpec.ofChange Rows.joinPlaysSpec) :=
  OpenClaim.holds_of_wide 3 Tryz.f3 rfl rfl rfl rfl rfl rfl rfl ⟨rfl, rfl, rfl, rfl, rfl⟩ rfl rfl rfl rfl rfl (by kernel_rfl) Tryz.func3 (by kernel_rfl)
    (of_decide_eq_true (by kernel_rfl)) (by unfold Func.isWrapper; first | (rw [if_pos (by decide +kernel)]; kernel_rfl) | (rw [if_neg (by decide +kernel)]; exact ⟨rfl, rfl⟩))
    (fun os started H enc _ => lifted os started H enc)

theorem proved : Rows.JoinPlaysSaid := over
#print axioms proved
end Go.Proofs.YtfdbcfkjablnkaaGreat.joinPlays
