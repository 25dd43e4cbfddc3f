/-
  A part of the texts of one proof, put together: SloQ, SloG, SloA, TabH, TabX, HdO, FrA.
-/
import Derived.Test.YtloncplpjdekoaaRows
import Derived.WalkKit
import Derived.ProofKit
import Derived.OpenShut
import Derived.Deep.Fields
import Derived.Deep.Slices
import Derived.ChangeSame
import Derived.Test.YtloncplpjdekoaaMB4
namespace Go.Proofs.Ytloncplpjdekoaa
open Go.RowKit
set_option maxRecDepth 100000

theorem rnew_any13 (v k s i c : Int) (w : World) : Calls Try.prog 31 #[hdV v k s i c] w fun e w' => e = .returned (frV v k s 0 c (.slice none 0 0)) ∧ Below w.heap.size w w' := by
  unfold hdV frV frC
  go_enter Try.func31, Try.ntmps31
  go_wp2
  generalize hW1 : w.alloc (Obj.cells #[Value.int .i64 v, Value.int .i64 k, Value.int .u32 s, Value.int .i64 0, Value.int .i64 c] 44) = W1
  have hb1 : Below w.heap.size w W1 := by rw [← hW1]; exact (Below.refl _ w).alloc (Nat.le_refl _) _
  have hs1 : w.heap.size + 1 = W1.heap.size := by rw [← hW1]; simp
  generalize hW2 : W1.alloc (Obj.cells #[Value.int .i64 v, Value.int .i64 k, Value.int .u32 s, Value.int .i64 0, Value.int .i64 c, Value.slice none 0 0] 83) = W2
  have hb2 : Below w.heap.size w W2 := by rw [← hW2]; exact hb1.alloc hb1.size _
  have hh : W2.heap[W1.heap.size]? = some (.cells (frC v k s 0 c (.slice none 0 0)) 83 (0, 0)) := by rw [← hW2]; exact World.alloc_heap_new _ _
  rw [← hs1] at hh
  obtain ⟨d0, d1, d2, d3, d4, d5⟩ := fr_block hh
  refine bodyPost_ret (by simp [results, Try.results31, go_sem, d0, d1, d2, d3, d4, d5]; try rfl) rfl ?_
  exact ⟨rfl, hb2⟩
theorem made_below {e : TypeId} {k : IntKind} {w w1 w2 : World} {L : List Int} {v : Value} (h : MadeK e k w w1 L v) (hb : Below w1.heap.size w1 w2) : MadeK e k w w2 L v := ⟨own_below6 h.1 hb, h.2.trans (hb.mono h.2.size)⟩
theorem tot_app (C D : Sl.Ct) : Sl.tot (C ++ D) = Sl.tot C + Sl.tot D := by simp [Sl.tot]
theorem tot_take (fs : List Fr) (j : Nat) : Sl.tot ((fs.take j).map Fr.ct) ≤ Sl.tot (fs.map Fr.ct) := by
  have e : fs.map Fr.ct = (fs.take j).map Fr.ct ++ (fs.drop j).map Fr.ct := by rw [← List.map_append, List.take_append_drop]
  rw [e, tot_app]
  omega
set_option maxHeartbeats 4000000 in
theorem rsize_any {w : World} (v k s i : Int) {c : Int} {A : Option Addr} {n cp : Nat} {fs : List Fr} (h : RefAt w c A n cp fs) :
    Calls Try.prog 54 #[frV v k s i c (.slice A n cp)] w fun e w' => e = .returned (.int .i64 (Sl.tot (fs.map Fr.ct) : Int)) ∧ Below w.heap.size w w' := by
  have hnl := h.few_len
  have hnc := h.room
  have hlen := h.len
  have hmost := h.most
  obtain ⟨w1, hw1⟩ : ∃ w1, w.alloc (.cells (frC v k s i c (.slice A n cp)) 83) = w1 := ⟨_, rfl⟩
  have hb1 : Below w.heap.size w w1 := by rw [← hw1]; exact (Below.refl _ w).alloc (Nat.le_refl _) _
  have hbx : w1.heap[w.heap.size]? = some (.cells (frC v k s i c (.slice A n cp)) 83 (0, 0)) := by rw [← hw1]; exact World.alloc_heap_new _ _
  obtain ⟨_, _, _, _, _, d5⟩ := fr_block hbx
  have HAT := Lib.hid (h.at'.below hb1)
  have HW1 : Hid (w.alloc (.cells #[.int .i64 v, .int .i64 k, .int .u32 s, .int .i64 i, .int .i64 c, .slice A n cp] 83) = w1) := Lib.hid hw1
  have HB1 := Lib.hid hb1
  have HLEN := Lib.hid hlen
  have HMO := Lib.hid hmost
  clear h hw1 hb1 hbx hlen hmost
  unfold frV frC
  go_enter Try.func54, Try.ntmps54
  go_wp2_with fail
  rw [HW1.out]
  go_loopw [3, 4] (fun u x wr => ∃ j : Nat, j ≤ n ∧ x = .int .i64 (j : Int) ∧ u = .int .i64 (Sl.tot ((fs.take j).map Fr.ct) : Int) ∧ wr = w1) (fun _ x _ => n - (intOf x).toNat)
  case atStart => exact ⟨0, by omega, rfl, rfl, rfl⟩
  case round =>
    obtain ⟨j, hj, rfl, rfl, rfl⟩ := hrel
    by_cases hjn : j < n
    · have hjn' : (j : Int) < (n : Int) := by omega
      obtain ⟨f, hf⟩ : ∃ f, fs[j]? = some f := ⟨_, List.getElem?_eq_getElem (by rw [HLEN.out]; exact hjn)⟩
      obtain ⟨g, off, rfl, hg, a0, a1, a2, a3, a4, a5⟩ := HAT.out.six hf
      have hT := tot_take fs j
      have hT1 := tot_take fs (j + 1)
      have hmo := HMO.out
      have e1 : Sl.tot ((fs.take (j + 1)).map Fr.ct) = Sl.tot ((fs.take j).map Fr.ct) + f.zs.length := by
        rw [List.take_add_one, hf]
        show Sl.tot (List.map Fr.ct (fs.take j ++ [f])) = _
        rw [List.map_append]
        exact Sl.tot_push _ _
      have HE1 := Lib.hid e1
      have hle : Sl.tot ((fs.take j).map Fr.ct) + f.zs.length ≤ 192 := by omega
      clear a0 a1 a2 a3 a4 hf e1 hT1
      generalize Sl.tot ((fs.take j).map Fr.ct) = T at *
      go_wp2
      go_roundw
      case rel => exact ⟨j + 1, by omega, by go_num, by rw [HE1.out]; go_num, trivial⟩
      case measure => simp [intOf]; omega
    · have hjn' : j = n := by omega
      subst hjn'
      have HT : Hid (Sl.tot ((fs.take j).map Fr.ct) = Sl.tot (fs.map Fr.ct)) := by
        show _ = _
        rw [List.take_of_length_le (by rw [HLEN.out]; omega)]
      go_wp2
      go_ret
      exact ⟨by rw [← HT.out]; rfl, HB1.out⟩
theorem rfull_any {w : World} (v k s i : Int) {c : Int} {A : Option Addr} {n cp : Nat} (hc : 1 ≤ c) :
    Calls Try.prog 33 #[frV v k s i c (.slice A n cp)] w fun e w' => e = .returned (.bool ((n : Int) == c)) ∧ Below w.heap.size w w' := by
  have hc' : 0 < c := by omega
  unfold frV frC
  go_enter Try.func33, Try.ntmps33
  go_wp2
  go_ret
  exact ⟨rfl, (Below.refl _ w).alloc (Nat.le_refl _) _⟩
set_option maxHeartbeats 4000000 in
theorem rbytes_any {w : World} (v k s i : Int) {A : Option Addr} {n cp q : Nat} {fs : List Fr} (h : RefAt w (q : Int) A n cp fs) :
    Calls Try.prog 34 #[frV v k s i (q : Int) (.slice A n cp)] w fun e w' => ∃ u, e = .returned u ∧ MadeK 5 .u8 w w' (Sl.cat (fs.map Fr.ct) q) u := by
  obtain ⟨i0, hi, hz0, hz1, hz2⟩ := info_parts byteInfo
  have hq2 : q ≤ 255 := by have := h.small; omega
  have hnc := h.room
  have hlen := h.len
  have hmost := h.most
  obtain ⟨w1, hw1⟩ : ∃ w1, w.alloc (.cells (frC v k s i (q : Int) (.slice A n cp)) 83) = w1 := ⟨_, rfl⟩
  have hb1 : Below w.heap.size w w1 := by rw [← hw1]; exact (Below.refl _ w).alloc (Nat.le_refl _) _
  have hs1 : w.heap.size < w1.heap.size := by rw [← hw1]; simp
  have hbx : w1.heap[w.heap.size]? = some (.cells (frC v k s i (q : Int) (.slice A n cp)) 83 (0, 0)) := by rw [← hw1]; exact World.alloc_heap_new _ _
  have HX : Hid (∀ W, Below w1.heap.size w1 W → W.cell? ⟨w.heap.size, 0, none⟩ = some (.int .i64 v) ∧ W.cell? ⟨w.heap.size, 1, none⟩ = some (.int .i64 k) ∧ W.cell? ⟨w.heap.size, 2, none⟩ = some (.int .u32 s) ∧ W.cell? ⟨w.heap.size, 3, none⟩ = some (.int .i64 i) ∧ W.cell? ⟨w.heap.size, 4, none⟩ = some (.int .i64 (q : Int)) ∧ W.cell? ⟨w.heap.size, 5, none⟩ = some (.slice A n cp)) :=
    Lib.hid fun W hW => fr_block ((hW.block _ hs1).trans hbx)
  have HRA := Lib.hid (h.below hb1)
  have HW1 : Hid (w.alloc (.cells #[.int .i64 v, .int .i64 k, .int .u32 s, .int .i64 i, .int .i64 (q : Int), .slice A n cp] 83) = w1) := Lib.hid hw1
  have HB1 := Lib.hid hb1
  have HLEN := Lib.hid hlen
  clear h hw1 hb1 hbx hlen
  unfold frV frC
  go_enter Try.func34, Try.ntmps34
  go_wp2_with fail
  rw [HW1.out]
  go_loopw [3, 4] (fun u x wr => ∃ j : Nat, j ≤ q ∧ x = .int .i64 (j : Int) ∧ Hid (MadeK 5 .u8 w1 wr (Sl.cat (fs.map Fr.ct) j) u)) (fun _ x _ => q - (intOf x).toNat)
  case atStart => exact ⟨0, by omega, rfl, MadeK.nil _ _ (Below.refl _ _)⟩
  case round =>
    obtain ⟨j, hj, rfl, HM⟩ := hrel
    obtain ⟨d0, d1, d2, d3, d4, d5⟩ := HX.out wr HM.out.2
    by_cases hjq : j < q
    · have hjq' : (j : Int) < (q : Int) := by omega
      have hra := HRA.out.below HM.out.2
      have K := rhas_any v k s i hra j
      have HRA2 := Lib.hid hra
      unfold frV frC at K
      unfold HasR at K
      clear hra
      go_wp2_with fail
      refine K.mono ?_
      rintro e w2 ⟨hb2, ⟨hno, rfl⟩ | ⟨hyes, p, f, hf, hfi, rfl⟩⟩
      · have HM2 : Hid (MadeK 5 .u8 w1 w2 (Sl.cat (fs.map Fr.ct) (j + 1)) u3) := by
          rw [Sl.cat_succ, Sl.at_none hno, List.append_nil]
          exact made_below HM.out hb2
        clear K hb2 hno d0 d1 d2 d3 d4 d5
        go_wp2
        go_roundw
        case rel => exact ⟨j + 1, by omega, by go_num, HM2⟩
        case measure => simp [intOf]; omega
      · have hra2 := HRA2.out.below hb2
        obtain ⟨g, off, rfl, hg, _, _, _, _, _, a5⟩ := hra2.at'.six hf
        have hpn : p < n := by rw [← HLEN.out]; exact (List.getElem?_eq_some_iff.1 hf).1
        have hpn' : (p : Int) < (n : Int) := by omega
        have hfm := List.mem_of_getElem? hf
        have hnum := (hra2.at'.1 f hfm).nums
        have hat : Sl.at' (fs.map Fr.ct) j = f.zs := by
          have := hra2.mem hfm
          rw [hfi] at this
          simpa using this
        have hM2 := made_below HM.out hb2
        have hsz := hM2.2.size
        obtain ⟨_, _, _, _, _, d5⟩ := HX.out w2 hM2.2
        have hql := Sl.at_len (fs.map Fr.ct) j
        rw [hat] at hql
        have hcl := Sl.cat_len (fs.map Fr.ct) j
        have hcb : (Sl.cat (fs.map Fr.ct) j).length ≤ 48960 := by
          have : j * Sl.tot (fs.map Fr.ct) ≤ 255 * 192 := Nat.mul_le_mul (by omega) hmost
          omega
        have HX1 : Hid ((Sl.cat (fs.map Fr.ct) j).length + f.zs.length ≤ maxLen) := by show _ ≤ _; unfold maxLen; omega
        have HX2 : Hid (((Sl.cat (fs.map Fr.ct) j).length + f.zs.length) * 1 ≤ 140737488355328) := by show _ ≤ _; omega
        have HNM := Lib.hid hnum
        have HM3 := Lib.hid hM2
        have HAT := Lib.hid hat
        clear K hb2 hyes hra2 hf hfi hfm hnum hat hM2 hql hcl hcb
        go_wp2_with (at_builtin; refine wpList_append_any rfl (.tmp 18) (.tmp 24) 34 rfl w1.heap.size 5 i0 (.int .u8 0) 1 Try.underlying34 hi hz0 hz1 hz2 rfl .u8 (Sl.cat (fs.map Fr.ct) j) f.zs _ rfl HM3.out.1 _ _ _ _ rfl rfl HNM.out HX1.out HX2.out hsz ?_)
        intro v2 w3 hown hgr
        have HM4 : Hid (MadeK 5 .u8 w1 w3 (Sl.cat (fs.map Fr.ct) (j + 1)) v2) := by
          rw [Sl.cat_succ, HAT.out]
          exact HM3.out.more hown hgr
        clear hown hgr
        go_wp2
        go_roundw
        case rel => exact ⟨j + 1, by omega, by go_num, HM4⟩
        case measure => simp [intOf]; omega
    · have hjq' : j = q := by omega
      subst hjq'
      have HFIN := Lib.hid (HM.out.since HB1.out)
      go_wp2
      go_ret
      exact ⟨_, rfl, HFIN.out⟩
end Go.Proofs.Ytloncplpjdekoaa

namespace Go.Proofs.Ytloncplpjdekoaa
open Go.RowKit Go.Shelf
set_option maxRecDepth 100000
attribute [local go_sem] Oper.semAt_some

theorem NumsS.putObj {k : IntKind} {V : World} {S : Nat → Prop} {l : Nat} {a : Option Addr} {zs : List Int} {o : Obj} (h : NumsS k V S a zs) (ho : V.heap[l]? = some o) (hc : o.isCells = false) (o' : Obj) : NumsS k (V.putObj l o') S a zs := fun hn => by
  obtain ⟨b, off, e, hb, hcl⟩ := h hn
  refine ⟨b, off, e, hb, fun j c hj => ?_⟩
  have h1 := hcl j c hj
  obtain ⟨o2, h2, h3⟩ := cells_of_cell h1
  refine (World.cell?_of_block (World.putObj_heap_other (fun e => ?_))).trans h1
  simp only at h2 e
  subst e
  rw [ho] at h2
  injection h2 with h2
  subst h2
  rw [hc] at h3; cases h3
/-- what Missing answers: a function over a slice of new memory -/
def MissR (w : World) (L : List Int) (e : Ending) (w' : World) : Prop :=
  ∃ Bv A cp, e = .returned (.func (.func 79) #[] #[.pointer (some ⟨Bv, 0, none⟩)]) ∧ Below w.heap.size w w' ∧ w.heap.size ≤ Bv ∧ Boxed w' Bv 135 (.slice A L.length cp) ∧ L.length ≤ cp ∧ NumsS .i64 w' (fun g => w.heap.size ≤ g ∧ g < Bv) A L
structure MsS (w : World) (b0 : Nat) (v : Option Addr) (LM : List Int) (j : Nat) (V : World) : Prop where
  out : ∃ u, Boxed V b0 135 u ∧ V.ownsRow w.heap.size 3 1 u (LM.take j).length ((LM.take j).map (Value.int .i64))
  box : Boxed V (b0 + 1) 89 (.pointer v)
  below : Below w.heap.size w V
section
variable {w V : World} {b0 j : Nat} {v : Option Addr} {LM : List Int}
theorem MsS.put (h : MsS w b0 v LM j V) (hb : w.heap.size = b0) {l : Nat} {o : Obj} (hl : b0 + 2 ≤ l) (ho : V.heap[l]? = some o) (hc : o.isCells = false) (o' : Obj) : MsS w b0 v LM j (V.putObj l o') := by
  obtain ⟨v, h1, h2⟩ := h.out
  exact ⟨⟨v, (World.putObj_heap_other (by omega)).trans h1, ownsRow_putObj h2 _ ho hc⟩, (World.putObj_heap_other (by omega)).trans h.box, h.below.trans (below_put V o' (by omega))⟩
end
set_option maxHeartbeats 4000000 in
theorem smissing_go (v : Option Addr) (LM : List Int) (hl : LM.length ≤ 255) (w : World)
    (hI : ∀ (l Bs : Nat) (J : Nat → World → Prop) (Jx : World → Prop), (∀ j W, J j W → W.cell? ⟨Bs, 0, none⟩ = some (.pointer v) ∧ Below w.heap.size w W) →
      (∀ (j : Nat) (x : Int) (W : World), J j W → LM[j]? = some x → YieldAt Fence.wide 1 Try.prog l #[.int .i64 x] W fun e W' => (e = .returned (.bool true) ∧ J (j + 1) W') ∨ (e = .returned (.bool false) ∧ Jx W')) →
      ∀ W, J 0 W → CallsIn Fence.wide 2 Try.prog 78 #[.func (.yield l) #[] #[], .pointer (some ⟨Bs, 0, none⟩)] W fun e W' => (∃ v, e = .returned v) ∧ (J LM.length W' ∨ Jx W')) :
    Calls Try.prog 64 #[.pointer v] w (MissR w LM) := by
  obtain ⟨j0, hi, hj0, hj1, hj2⟩ := info_parts intInfo
  have HI := Lib.hid hI
  clear hI
  generalize hG : MissR w LM = G
  have HG := Lib.hid hG
  clear hG
  refine (callsIn_wide (n := 3)).1 ?_
  refine callsIn_of_wp_marks Try.func64 rfl trivial ?_ rfl
  simp only [Try.ntmps64, List.size_toArray, List.length_cons, List.length_nil, Nat.reduceAdd, Nat.reduceSub, Array.replicate_succ, Array.replicate_zero, List.push_toArray, List.append_toArray, List.nil_append, List.cons_append]
  obtain ⟨w1, hw1⟩ : ∃ w1, w.alloc (Obj.cells #[Value.slice none 0 0] 135) = w1 := ⟨_, rfl⟩
  have hs1 : w1.heap.size = w.heap.size + 1 := by rw [← hw1]; simp
  have hb1 : Below w.heap.size w w1 := by rw [← hw1]; exact (Below.refl _ w).alloc (Nat.le_refl _) _
  have bL1 : Boxed w1 w.heap.size 135 (.slice none 0 0) := by rw [← hw1]; exact Boxed.new w _ _
  have K := sempty_any v w1
  obtain ⟨b0, hb0⟩ : ∃ b0, w.heap.size = b0 := ⟨_, rfl⟩
  have HB0 := Lib.hid hb0
  gi_wp2_with fail
  clear hw1
  refine ⟨trivial, ?_⟩
  refine (callsIn_wide.2 K).mono ?_
  rintro e w2 ⟨rfl, hw2⟩
  clear K
  have hs2 : w2.heap.size = w1.heap.size + 1 := by rw [hw2]; simp
  have bC2 : Boxed w2 w1.heap.size 89 (.pointer v) := by rw [hw2]; exact Boxed.new w1 _ _
  have hb12 : Below w1.heap.size w1 w2 := by rw [hw2]; exact (Below.refl _ w1).alloc (Nat.le_refl _) _
  clear hw2
  have hb2 : Below w.heap.size w w2 := hb1.trans (hb12.mono (by omega))
  have bL2 : Boxed w2 w.heap.size 135 (.slice none 0 0) := (hb12.block _ (by omega)).trans bL1
  rw [hb0] at hs1 bL2
  rw [hs1] at bC2 hs2 ⊢
  clear hb1 hb12 bL1 hs1
  have hM0 : MsS w b0 v LM 0 w2 := ⟨⟨_, bL2, by rw [List.take_zero]; exact World.ownsRow_nil _ _ _ _⟩, bC2, hb2⟩
  clear bL2 bC2 hb2
  gi_wp2_with fail
  refine range_stops rfl (by omega) (gf := 78) (lb := #[.pointer (some ⟨b0 + 1, 0, none⟩)]) rfl trivial (enters_of Try.func78 (by kernel_rfl) rfl)
    (fun x : Int => #[Value.int .i64 x]) (fun _ => rfl)
    (fun j x V => MsS w b0 v LM j V ∧ LM[j]? = some x)
    (fun j V => MsS w b0 v LM j V)
    (fun _ _ => False) (fun _ _ => True) LM.length
    (fun j x V l o o' h hl ho hc' => ⟨h.1.put HB0.out (by omega) ho hc' o', h.2⟩)
    (fun j V l o o' h hl ho hc' => h.put HB0.out (by omega) ho hc' o')
    (fun _ _ _ _ _ h _ _ _ => h)
    (fun _ _ _ _ _ => trivial) (fun _ _ _ _ _ _ _ => trivial)
    (fun o => ?_) ?a1 ?assign ?body ?iter ?done ?stop
  · obtain ⟨v, h1, h2⟩ := hM0.out
    exact ⟨⟨v, (h1.alloc _).alloc _, (h2.alloc _).alloc _⟩, (hM0.box.alloc _).alloc _, (hM0.below.alloc hM0.below.size _).alloc (by have := hM0.below.size; simp; omega) _⟩
  case assign =>
    intro l x V K hK
    gi_wp2
    exact hK
  case body =>
    rintro l j x V hl ⟨hM, hx⟩ hj
    obtain ⟨u, hO, hR⟩ := hM.out
    have hside := hM.box
    have hbe := hM.below
    have kO := hO.cell
    have hszV := hO.lt
    have hbs := hbe.size
    have hlt : (LM.take j).length ≤ 255 := by rw [List.length_take]; omega
    have hnx : LM.take (j + 1) = LM.take j ++ [x] := by rw [List.take_add_one, hx]; rfl
    obtain ⟨L0, hL0⟩ : ∃ L0, LM.take j = L0 := ⟨_, rfl⟩
    rw [hL0] at hR hlt hnx
    have HNX := Lib.hid hnx
    clear hL0
    have HN1 := Lib.hid (Nums.new .i64 V 3 [x] #[.int .i64 x] rfl)
    have HO := Lib.hid hO
    have HR := Lib.hid hR
    have HS := Lib.hid hside
    have HB := Lib.hid hbe
    clear hM hM0 hO hR hside hbe hnx hb0 hx
    gi_wp2_with (gi_at_builtin; refine wpListIn_append_any rfl (.tmp 8) (.tmp 10) 135 rfl w.heap.size 3 j0 (.int .i64 0) 8 Try.underlying135 hi hj0 hj1 hj2 rfl .i64 _ _ [x] u rfl (HR.out.alloc _) (some ⟨V.heap.size, 0, none⟩) 1 1 _ rfl rfl HN1.out ?c1 ?c2 ?c3 ?_)
    case c1 => unfold maxLen; omega
    case c2 => omega
    case c3 => rw [World.size_alloc]; omega
    intro v1 w4 hown1 hg1
    have hg2 := grown_of_alloc hg1
    obtain ⟨g1, cap1, rfl⟩ := ownsRow_succ hown1
    have hnr : some b0 ≠ u.ownBlock := HO.out.not_row (by decide) HR.out
    have bO4 : Boxed w4 b0 135 u := HO.out.kept hg2 hnr
    have kO4 := bO4.cell
    have fO4 := bO4.frozen
    have hnr4 : some b0 ≠ (Value.slice (some ⟨g1, 0, none⟩) (L0.length + 1) cap1).ownBlock := bO4.not_row (show (135 : Nat) ≠ 3 by decide) hown1
    have hside4 : Boxed w4 (b0 + 1) 89 (.pointer v) := HS.out.kept hg2 (HS.out.not_row (by decide) HR.out)
    have hbe4 : Below w.heap.size w w4 := HB.out.grown hg2 hbs (fun g hg => (HR.out.lt g hg).1)
    have hko : KeepsOthers V w4 := KeepsOthers.of_grownBy hg2 fun j o ej hj => by
      rcases HR.out.2 with ⟨rfl, _⟩ | ⟨g, cap, cur, rfl, _, hgb, _⟩
      · simp [Value.ownBlock] at ej
      · obtain rfl : g = j := by simpa [Value.ownBlock] using ej
        rw [hgb] at hj; cases hj; rfl
    have HF : Hid (KeepsFrom w2.heap.size V (w4.setCell ⟨b0, 0, none⟩ (.slice (some ⟨g1, 0, none⟩) (L0.length + 1) cap1)) ∧ MsS w b0 v LM (j + 1) (w4.setCell ⟨b0, 0, none⟩ (.slice (some ⟨g1, 0, none⟩) (L0.length + 1) cap1))) := by
      refine ⟨(hko.trans (KeepsOthers.setCell _ _ _)).from _, ⟨_, bO4.set _, ?_⟩, hside4.other (by omega) _, hbe4.setCell (p := ⟨b0, 0, none⟩) (Nat.le_of_eq HB0.out) _⟩
      rw [HNX.out, List.length_append, List.map_append]
      exact hown1.kept (grownBy_setCell' w4 b0 _) (.inr hnr4.symm)
    clear hown1 hg1 hg2 hside4 hbe4 hko hnr hnr4 bO4 HN1 HO HR HS HB
    gi_wp2
    exact ⟨HF.out.1, HF.out.2, trivial⟩
  case iter =>
    intro Bk X l V hBk hBlt hX hlw hD hB hY
    refine (HI.out l (b0 + 1) (fun k V => MsS w b0 v LM k V ∧ Bk V) X ?_ ?_ V ⟨hD, hB⟩).mono ?_
    · rintro k W ⟨h1, _⟩
      exact ⟨h1.box.cell, h1.below⟩
    · rintro k x W ⟨h1, h2⟩ hx
      refine (hY _ _ W ⟨h1, hx⟩ h2 (List.getElem?_eq_some_iff.1 hx).1).mono ?_
      rintro e V2 (⟨rfl, hd, _, _⟩ | ⟨rfl, hx, _⟩)
      · exact .inl ⟨rfl, hd⟩
      · exact .inr ⟨rfl, hx⟩
    · exact fun _ _ h => h
  case done =>
    rintro D V hD hM hK
    obtain ⟨u, hO, hR⟩ := hM.out
    rw [List.take_length] at hR
    have hbe := hM.below
    have kO := hO.cell
    have hbv := hbe.size
    have hwD : w.heap.size ≤ D := by omega
    have hDlt := (Array.getElem?_eq_some_iff.1 hK).1
    obtain ⟨A, c, rfl, hc, hnum⟩ := MadeK.slice ⟨hR, hbe⟩
    have hnS := MadeK.numsS ⟨hR, hbe⟩ rfl
    have KV := values_any A LM.length c V
    have HBE := Lib.hid hbe
    have HK := Lib.hid hK
    have HNS := Lib.hid hnS
    have HC := Lib.hid hc
    clear hM hM0 hb0 hbe hK hO hR hnum hnS hc
    obtain ⟨q, hq⟩ : ∃ q, LM.length = q := ⟨_, rfl⟩
    rw [hq] at KV kO HC hl
    have HQ := Lib.hid hq
    clear hq
    gi_wp2_with fail
    refine ⟨trivial, ?_⟩
    refine (callsIn_wide.2 KV).mono ?_
    rintro e V1 ⟨rfl, hV1⟩
    have hb1 : Below V.heap.size V V1 := by rw [hV1]; exact (Below.refl _ V).alloc (Nat.le_refl _) _
    have hbx : Boxed V1 V.heap.size 135 (.slice A q c) := by rw [hV1]; exact Boxed.new V _ _
    have hK1 := (hb1.block D hDlt).trans HK.out
    have HFIN : Hid (G (.returned (.func (.func 79) #[] #[.pointer (some ⟨V.heap.size, 0, none⟩)])) (V1.putObj D (.deferred none))) := by
      rw [← HG.out]
      refine ⟨V.heap.size, A, c, rfl, (HBE.out.trans (hb1.mono hbv)).trans (below_put V1 _ hwD), hbv, by rw [HQ.out]; exact (World.putObj_heap_other (by omega)).trans hbx, by rw [HQ.out]; exact HC.out, ?_⟩
      exact (HNS.out.keeps (KeepS.of_below hb1 fun k hk => hk.2)).putObj hK1 rfl _
    clear hV1 hb1 hbx KV kO
    gi_wp2
    refine ⟨by simp, .inl ⟨_, _, rfl, run_takeDeferred hK1, ?_⟩⟩
    refine ⟨_, results_tmp rfl _ _ _, ?_⟩
    exact HFIN.out
  case stop =>
    rintro D cd W' _ h _
    exact h.elim
theorem smissing_nil (w : World) : Calls Try.prog 64 #[.pointer none] w (MissR w []) :=
  smissing_go none [] (by simp) w fun l Bs J Jx hJ _ W h0 => (sempty_nil_in 2 l Bs W (hJ 0 W h0).1).mono fun e W' ⟨hv, hw⟩ => ⟨hv, .inl (by subst hw; exact h0)⟩
/-- the empty places as ints -/
def misZ (C : Sl.Ct) (n : Nat) : List Int := (Sl.mis C n).map fun (i : Nat) => (i : Int)
theorem misZ_len (C : Sl.Ct) (n : Nat) : (misZ C n).length = (Sl.mis C n).length := by simp [misZ]
theorem smissing_any {w : World} {b m : Nat} {v k s : Int} {n : Nat} {E : List Pl} (h : SlotAt w b m v k s (n : Int) E) :
    Calls Try.prog 64 #[.pointer (some ⟨b, 0, none⟩)] w (MissR w (misZ (E.map Pl.ct) n)) := by
  have n2 : n ≤ 255 := by
    obtain ⟨n', hn', _, n2, _, _⟩ := h.count
    omega
  have hfew := Sl.mis_few (E.map Pl.ct) n
  refine smissing_go (some ⟨b, 0, none⟩) _ (by rw [misZ_len]; omega) w fun l Bs J Jx hJ hY W h0 => ?_
  rw [misZ_len]
  refine sempty_in 2 (by omega) 1 l Bs b m v k s (n : Int) E n rfl n2 (fun j W => J (Sl.mis (E.map Pl.ct) j).length W) Jx (fun j W hj => ?_) (fun j W hj hjn hb => ?_) (fun j W hj hjn hb => ?_) W h0
  · obtain ⟨h1, h2⟩ := hJ _ W hj
    exact ⟨h1, h.below h2⟩
  · simp only [Sl.mis_stay hb]
    exact hj
  · simp only [Sl.mis_step hb, List.length_append, List.length_cons, List.length_nil]
    refine hY _ _ W hj ?_
    unfold misZ
    rw [List.getElem?_map, Sl.mis_at hb n hjn]
    rfl
end Go.Proofs.Ytloncplpjdekoaa

namespace Go.Proofs.Ytloncplpjdekoaa
open Go.RowKit Go.Shelf
set_option maxRecDepth 100000
attribute [local go_sem] Oper.semAt_some

namespace Sl
theorem mis_mono (C : Ct) : ∀ {p q : Nat}, p ≤ q → (mis C p).length ≤ (mis C q).length
  | p, 0, h => by obtain rfl : p = 0 := by omega
                  exact Nat.le_refl _
  | p, q + 1, h => by
    by_cases hp : p = q + 1
    · subst hp; exact Nat.le_refl _
    · have := mis_mono C (p := p) (q := q) (by omega)
      rw [mis_succ, List.length_append]
      omega
/-- the next empty place behind p -/
theorem mis_next {C : Ct} {n p j q : Nat} (hj : (mis C n)[j]? = some q) (hp : (mis C p).length = j) : q < n ∧ has C q = false ∧ p ≤ q ∧ (mis C (q + 1)).length = j + 1 ∧ ∀ i, p ≤ i → i < q → has C i = true := by
  have hm := List.mem_of_getElem? hj
  unfold mis at hm
  rw [List.mem_filter, List.mem_range] at hm
  obtain ⟨hq, hh⟩ := hm
  have hh' : has C q = false := by simpa using hh
  have h1 := mis_at hh' n hq
  have hnd : (mis C n).Nodup := (List.filter_sublist).nodup List.nodup_range
  have b1 := (List.getElem?_eq_some_iff.1 h1).1
  have hlen : (mis C q).length = j := (List.getElem?_inj b1 hnd).1 (h1.trans hj.symm)
  have hs : (mis C (q + 1)).length = j + 1 := by rw [mis_step hh', List.length_append, hlen]; rfl
  refine ⟨hq, hh', ?_, hs, fun i hi hiq => ?_⟩
  · rcases Nat.lt_or_ge q p with h | h
    · have := mis_mono C (p := q + 1) (q := p) h
      omega
    · exact h
  · cases hc : has C i with
    | true => rfl
    | false =>
      have e1 : (mis C (i + 1)).length = (mis C i).length + 1 := by rw [mis_step hc, List.length_append]; rfl
      have e2 := mis_mono C hi
      have e3 := mis_mono C (p := i + 1) (q := q) hiq
      omega
/-- behind the last empty place none is empty -/
theorem mis_rest {C : Ct} {n p : Nat} (hp : (mis C p).length = (mis C n).length) {i : Nat} (h1 : p ≤ i) (h2 : i < n) : has C i = true := by
  cases hc : has C i with
  | true => rfl
  | false =>
    have e1 : (mis C (i + 1)).length = (mis C i).length + 1 := by rw [mis_step hc, List.length_append]; rfl
    have e2 := mis_mono C h1
    have e3 := mis_mono C (p := i + 1) (q := n) h2
    omega
end Sl
section
variable {P : Program} {l : List Oper} {fs : List Tmp} {FS : Tmp → Value → World → Prop} {I : World → Prop} {E : Act → Prop} {o : Oper} {rest : List Oper} {a : Act}
/-- an operation that its guard passes over -/
theorem wpF_skip (hn : noB l.toArray fs o = true) (hw : Region.wanted o (yielded l.toArray a.tmps) = false) (h : wpF P l.toArray I fs FS E rest (a.put o.dst undef)) : wpF P l.toArray I fs FS E (o :: rest) a := by
  obtain ⟨h1, h2⟩ := noB_spec hn
  exact ⟨undef, .inl ⟨h1, h2, .inr ⟨hw, rfl⟩⟩, h⟩
end
/-- the law's two variables that the loops' bodies turn: how far it is, in box bi; whether all is right, in box bi + 1 -/
structure LkS (w4 : World) (bi : Nat) (i : Nat) (V : World) : Prop where
  at' : Boxed V bi 3 (.int .i64 (i : Int))
  ok : Boxed V (bi + 1) 4 (.bool true)
  off : Off (fun k => k = bi ∨ k = bi + 1) w4 V
section
variable {w4 V V' : World} {bi i : Nat}
theorem LkS.below (h : LkS w4 bi i V) (hb : bi + 1 < w4.heap.size) (hB : Below w4.heap.size V V') : LkS w4 bi i V' :=
  ⟨(hB.block bi (by omega)).trans h.at', (hB.block (bi + 1) hb).trans h.ok, off_below h.off hB⟩
theorem LkS.next (h : LkS w4 bi i V) : LkS w4 bi (i + 1) (V.setCell ⟨bi, 0, none⟩ (.int .i64 ((i : Int) + 1))) :=
  ⟨by have := Boxed.set (.int .i64 ((i : Int) + 1)) h.at'; rw [Int.natCast_succ]; exact this, h.ok.other (by omega) _, h.off.setCell (p := ⟨bi, 0, none⟩) (.inl rfl) _⟩
theorem LkS.right (h : LkS w4 bi i V) : LkS w4 bi i (V.setCell ⟨bi + 1, 0, none⟩ (.bool true)) :=
  ⟨h.at'.other (by omega) _, h.ok.set _, h.off.setCell (p := ⟨bi + 1, 0, none⟩) (.inr rfl) _⟩
end
/-- the number in box b -/
def inBoxS (b : Nat) (W : World) : Nat := (intOf ((W.cell? ⟨b, 0, none⟩).getD undef)).toNat
theorem LkS.num {w4 V : World} {bi i : Nat} (h : LkS w4 bi i V) : inBoxS bi V = i := by
  unfold inBoxS
  rw [h.at'.cell]
  simp [intOf]
theorem keeps_below {V V1 : World} (hb : Below V.heap.size V V1) : KeepsOthers V V1 := ⟨hb.size, fun k _ ho _ => (hb.block k (Array.getElem?_eq_some_iff.1 ho).1).trans ho⟩
set_option maxHeartbeats 8000000 in
theorem salike_full {w : World} {b m : Nat} {v k s : Int} {q : Nat} {E : List Pl} (h : SlotAt w b m v k s (q : Int) E) {A : Option Addr} {n cp : Nat} {fs : List Fr} (hr : RefAt w (q : Int) A n cp fs) (hp : (E.map Pl.ct).Perm (fs.map Fr.ct)) (hfull : n = q) :
    Calls Try.prog 45 #[.pointer (some ⟨b, 0, none⟩), frV v k s 0 (q : Int) (.slice A n cp)] w fun e w' => e = .returned (.bool true) ∧ Below w.heap.size w w' := by
  obtain ⟨w1, hw1⟩ : ∃ w1, w.alloc (.cells (frC v k s 0 (q : Int) (.slice A n cp)) 83) = w1 := ⟨_, rfl⟩
  have hb1 : Below w.heap.size w w1 := by rw [← hw1]; exact (Below.refl _ w).alloc (Nat.le_refl _) _
  have hs1 : w1.heap.size = w.heap.size + 1 := by rw [← hw1]; simp
  have hx1 : w1.heap[w.heap.size]? = some (.cells (frC v k s 0 (q : Int) (.slice A n cp)) 83 (0, 0)) := by rw [← hw1]; exact World.alloc_heap_new _ _
  have HW1 : Hid (w.alloc (.cells #[.int .i64 v, .int .i64 k, .int .u32 s, .int .i64 0, .int .i64 (q : Int), .slice A n cp] 83) = w1) := Lib.hid hw1
  have HX : Hid (∀ W, Below w1.heap.size w1 W → SlotAt W b m v k s (q : Int) E ∧ RefAt W (q : Int) A n cp fs ∧ W.heap[w.heap.size]? = some (.cells (frC v k s 0 (q : Int) (.slice A n cp)) 83 (0, 0))) :=
    Lib.hid fun W hW => ⟨(h.below hb1).below hW, (hr.below hb1).below hW, (hW.block _ (by omega)).trans hx1⟩
  obtain ⟨q', hq', q1, q2, hEq, _⟩ := h.count
  obtain rfl : q' = q := by omega
  have hlE : E.length = n := by have := hp.length_eq; simp at this; rw [this, hr.len]
  have hcat := Sl.cat_perm hp h.keys E.length
  have htot := Sl.tot_perm hp
  have hmis := Sl.mis_perm hp q'
  have hHas := Lib.hid (Sl.has_perm hp)
  have KB := sbytes_any (HX.out w1 (Below.refl _ _)).1
  have HB1 := Lib.hid hb1
  have HS1 := Lib.hid hs1
  have HLE := Lib.hid hlE
  have HCAT := Lib.hid hcat
  have HTOT := Lib.hid htot
  have HMIS := Lib.hid hmis
  have hn0 : n ≤ 255 := hr.few_len
  have HFU := Lib.hid hfull
  clear hfull
  clear h hr hp hw1 hb1 hs1 hx1 hq' hlE hcat htot hmis hEq
  unfold frV frC at *
  unfold BytesR at KB
  rw [HCAT.out, HLE.out] at KB
  refine (callsIn_wide (n := 3)).1 ?_
  refine callsIn_of_wp_marks Try.func45 rfl trivial ?_ rfl
  simp only [Try.ntmps45, List.size_toArray, List.length_cons, List.length_nil, Nat.reduceAdd, Nat.reduceSub, Array.replicate_succ, Array.replicate_zero, List.push_toArray, List.append_toArray, List.nil_append, List.cons_append]
  gi_wp2_with fail
  refine ⟨trivial, ?_⟩
  rw [HW1.out]
  refine (callsIn_wide.2 KB).mono ?_
  rintro e w2 ⟨hb2, hor⟩
  have hFull : Calls Try.prog 33 #[.agg #[.int .i64 v, .int .i64 k, .int .u32 s, .int .i64 0, .int .i64 (q' : Int), .slice A n cp]] w2 fun e w' => e = .returned (.bool ((n : Int) == (q' : Int))) ∧ Below w2.heap.size w2 w' := rfull_any v k s 0 (by omega)
  obtain ⟨_, _, hx2⟩ := HX.out w2 hb2
  obtain ⟨d0, d1, d2, d3, d4, d5⟩ := fr_block hx2
  obtain ⟨heq, A2, c2, rfl, hc2, hnum2⟩ := (hor.resolve_left fun h => by
    have := h.1
    have := HFU.out
    omega)
  have e1 : ((n : Int) == (q' : Int)) = true := by rw [heq]; simp
  have HN2 := Lib.hid hnum2
  have HCL : Hid ((Sl.cat (fs.map Fr.ct) n).length ≤ 48960) := Lib.hid (by
    have h1 := Sl.cat_len (fs.map Fr.ct) n
    have h2 : n * Sl.tot (fs.map Fr.ct) ≤ 255 * 192 := Nat.mul_le_mul hn0 (HX.out w1 (Below.refl _ _)).2.1.most
    omega)
  have HC : Hid (Sl.cat (fs.map Fr.ct) q' = Sl.cat (fs.map Fr.ct) n) := Lib.hid (by have := HFU.out; congr 1; omega)
  generalize Sl.cat (fs.map Fr.ct) n = CAT at *
  clear hnum2 heq
  rw [e1] at hFull
  have HB2 := Lib.hid hb2
  have HEQ : Hid (((n : Int) == (q' : Int)) = true) := Lib.hid e1
  clear KB hb2 e1 hx2 hor
  gi_wp2_with fail
  refine ⟨trivial, ?_⟩
  refine (callsIn_wide.2 hFull).mono ?_
  rintro e w3 ⟨rfl, hb3⟩
  clear hFull d0 d1 d2 d3 d4 d5
  have hb13 := HB2.out.trans (hb3.mono HB2.out.size)
  have HI3 : Hid (∀ V, Below w3.heap.size w3 V → Below w1.heap.size w1 V) := Lib.hid fun V hV => hb13.trans (hV.mono hb13.size)
  have LH : ∀ V, Below w3.heap.size w3 V → (Instr.loadAt 44 (.pointer (some ⟨w.heap.size, 0, none⟩))).run Try.prog V = .ok (Value.agg #[.int .i64 v, .int .i64 k, .int .u32 s, .int .i64 0, .int .i64 (q' : Int)]) V := fun V hV => by
    obtain ⟨_, _, hx⟩ := HX.out V (HI3.out V hV)
    obtain ⟨d0, d1, d2, d3, d4, d5⟩ := fr_block hx
    simp [Instr.loadAt, go_sem, d0, d1, d2, d3, d4]
  have LL : ∀ V, Below w3.heap.size w3 V → (Instr.loadAt 81 (.pointer (some ⟨w.heap.size, 5, none⟩))).run Try.prog V = .ok (.slice A n cp) V := fun V hV => by
    obtain ⟨_, _, hx⟩ := HX.out V (HI3.out V hV)
    obtain ⟨d0, d1, d2, d3, d4, d5⟩ := fr_block hx
    simp [Instr.loadAt, go_sem, d5]
  have LS : ∀ V, Below w3.heap.size w3 V → (Instr.loadAt 83 (.pointer (some ⟨w.heap.size, 0, none⟩))).run Try.prog V = .ok (Value.agg #[.int .i64 v, .int .i64 k, .int .u32 s, .int .i64 0, .int .i64 (q' : Int), .slice A n cp]) V := fun V hV => by
    obtain ⟨_, _, hx⟩ := HX.out V (HI3.out V hV)
    obtain ⟨d0, d1, d2, d3, d4, d5⟩ := fr_block hx
    simp [Instr.loadAt, go_sem, d0, d1, d2, d3, d4, d5]
  have KH : Hid (∀ V, Below w3.heap.size w3 V → Calls Try.prog 61 #[.pointer (some ⟨b, 0, none⟩)] V fun e w' => e = .returned (Value.agg #[.int .i64 v, .int .i64 k, .int .u32 s, .int .i64 0, .int .i64 (q' : Int)]) ∧ Below V.heap.size V w') := Lib.hid fun V hV => shead_any (HX.out V (HI3.out V hV)).1
  have KV : Hid (∀ V, Below w3.heap.size w3 V → Calls Try.prog 62 #[.pointer (some ⟨b, 0, none⟩)] V fun e w' => e = .returned (.int .i64 (n : Int)) ∧ Below V.heap.size V w') := Lib.hid fun V hV => (shave_any (HX.out V (HI3.out V hV)).1).mono fun e w' ⟨he, hw⟩ => ⟨by rw [he, HLE.out], by rw [hw]; exact Below.refl _ _⟩
  obtain ⟨T, hT⟩ : ∃ T, Sl.tot (fs.map Fr.ct) = T := ⟨_, rfl⟩
  have KZ : Hid (∀ V, Below w3.heap.size w3 V → Calls Try.prog 46 #[.pointer (some ⟨b, 0, none⟩)] V fun e w' => e = .returned (.int .i64 (T : Int)) ∧ Below V.heap.size V w') := Lib.hid fun V hV => by
    have := ssize_any (HX.out V (HI3.out V hV)).1
    rwa [HTOT.out, hT] at this
  have KY : Hid (∀ V, Below w3.heap.size w3 V → Calls Try.prog 54 #[Value.agg #[.int .i64 v, .int .i64 k, .int .u32 s, .int .i64 0, .int .i64 (q' : Int), .slice A n cp]] V fun e w' => e = .returned (.int .i64 (T : Int)) ∧ Below V.heap.size V w') := Lib.hid fun V hV => by
    have := rsize_any v k s 0 (HX.out V (HI3.out V hV)).2.1
    rwa [hT] at this
  have KF : Hid (∀ V, Below w3.heap.size w3 V → Calls Try.prog 63 #[.pointer (some ⟨b, 0, none⟩)] V fun e w' => e = .returned (.bool true) ∧ Below V.heap.size V w') := Lib.hid fun V hV => (sfull_any (HX.out V (HI3.out V hV)).1).mono fun e w' ⟨he, d, hw⟩ => ⟨by rw [he, HLE.out, HEQ.out], by rw [hw]; exact below_drewN (Below.refl _ _) d⟩
  have KR : Hid (∀ V, Below w3.heap.size w3 V → Calls Try.prog 34 #[Value.agg #[.int .i64 v, .int .i64 k, .int .u32 s, .int .i64 0, .int .i64 (q' : Int), .slice A n cp]] V fun e w'' => ∃ u, e = .returned u ∧ (∃ A3 c3, u = .slice A3 CAT.length c3 ∧ Nums .u8 w'' w''.heap.size A3 CAT) ∧ Below V.heap.size V w'') := Lib.hid fun V hV => (rbytes_any v k s 0 (HX.out V (HI3.out V hV)).2.1).mono fun e w'' ⟨u, he, hm⟩ => by
    rw [HC.out] at hm
    obtain ⟨A3, c3, hu, _, hnn⟩ := hm.slice
    exact ⟨u, he, ⟨A3, c3, hu, hnn⟩, hm.2⟩
  have KS : Hid (∀ x V, Below w3.heap.size w3 V → (∃ A3 c3, x = .slice A3 CAT.length c3 ∧ Nums .u8 V V.heap.size A3 CAT) → Calls Try.prog 23 #[.slice A2 CAT.length c2, x] V fun e w'' => e = .returned (.bool true) ∧ Below V.heap.size V w'') := Lib.hid fun x V hV ⟨A3, c3, hx, hnn⟩ => by
    subst hx
    have := same_any V.heap.size A2 A3 CAT.length CAT.length c2 c3 CAT CAT V rfl rfl (by have := HCL.out; omega) ((HN2.out.below (hb3.trans (hV.mono hb3.size))).mono (hb3.trans (hV.mono hb3.size)).size) hnn
    rw [decide_eq_true rfl] at this
    exact this.mono fun e w' ⟨he, d, hw⟩ => ⟨he, by rw [hw]; exact below_drewN (Below.refl _ _) d⟩
  clear hT hb13
  gi_wp2_with fail
  refine wpIn_wide.2 ?_
  refine wp_region_F 69 [55] (fun _ x V => ∃ A3 c3, x = .slice A3 CAT.length c3 ∧ Nums .u8 V V.heap.size A3 CAT) (fun V => Below w3.heap.size w3 V) (by kernel_rfl) (by kernel_rfl) (by rfl) (by simp) (fun W W' h hb => h.trans (hb.mono h.size)) (fun _ x W W' ⟨A3, c3, h1, h2⟩ hb => ⟨A3, c3, h1, (h2.below hb).mono hb.size⟩) (Below.refl _ _).drew ?_
  repeat (refine wpF_pure rfl rfl ?_; go_big_quiet_step (fail); refine wpQuiet_nil ?_)
  refine wpF_call (f := 61) (args := #[.pointer (some ⟨b, 0, none⟩)]) (Value.agg #[.int .i64 v, .int .i64 k, .int .u32 s, .int .i64 0, .int .i64 (q' : Int)]) rfl rfl (fun x => by first | rfl | (simp [go_sem]; done)) KH.out ?_
  simp only [Act.put, List.setIfInBounds_toArray, List.set_cons_succ, List.set_cons_zero]
  repeat (refine wpF_pure rfl rfl ?_; go_big_quiet_step (fail); refine wpQuiet_nil ?_)
  refine wpF_load _ rfl (by rfl) (by rfl) (by rfl) LH ?_
  simp only [Act.put, List.setIfInBounds_toArray, List.set_cons_succ, List.set_cons_zero]
  repeat (refine wpF_pure rfl rfl ?_; go_big_quiet_step (fail); refine wpQuiet_nil ?_)
  refine wpF_call (f := 62) (args := #[.pointer (some ⟨b, 0, none⟩)]) (.int .i64 (n : Int)) rfl rfl (fun x => by first | rfl | (simp [go_sem]; done)) KV.out ?_
  simp only [Act.put, List.setIfInBounds_toArray, List.set_cons_succ, List.set_cons_zero]
  repeat (refine wpF_pure rfl rfl ?_; go_big_quiet_step (fail); refine wpQuiet_nil ?_)
  refine wpF_load _ rfl (by rfl) (by rfl) (by rfl) LL ?_
  simp only [Act.put, List.setIfInBounds_toArray, List.set_cons_succ, List.set_cons_zero]
  repeat (refine wpF_pure rfl rfl ?_; go_big_quiet_step (fail); refine wpQuiet_nil ?_)
  refine wpF_call (f := 46) (args := #[.pointer (some ⟨b, 0, none⟩)]) (.int .i64 (T : Int)) rfl rfl (fun x => by first | rfl | (simp [go_sem]; done)) KZ.out ?_
  simp only [Act.put, List.setIfInBounds_toArray, List.set_cons_succ, List.set_cons_zero]
  refine wpF_load _ rfl (by rfl) (by rfl) (by rfl) LS ?_
  simp only [Act.put, List.setIfInBounds_toArray, List.set_cons_succ, List.set_cons_zero]
  refine wpF_call (f := 54) (args := #[Value.agg #[.int .i64 v, .int .i64 k, .int .u32 s, .int .i64 0, .int .i64 (q' : Int), .slice A n cp]]) (.int .i64 (T : Int)) rfl rfl (fun x => by first | rfl | (simp [go_sem]; done)) KY.out ?_
  simp only [Act.put, List.setIfInBounds_toArray, List.set_cons_succ, List.set_cons_zero]
  repeat (refine wpF_pure rfl rfl ?_; go_big_quiet_step (fail); refine wpQuiet_nil ?_)
  refine wpF_call (f := 63) (args := #[.pointer (some ⟨b, 0, none⟩)]) (.bool true) rfl rfl (fun x => by first | rfl | (simp [go_sem]; done)) KF.out ?_
  simp only [Act.put, List.setIfInBounds_toArray, List.set_cons_succ, List.set_cons_zero]
  repeat (refine wpF_pure rfl rfl ?_; go_big_quiet_step (fail); refine wpQuiet_nil ?_)
  refine wpF_load _ rfl (by rfl) (by rfl) (by rfl) LS ?_
  simp only [Act.put, List.setIfInBounds_toArray, List.set_cons_succ, List.set_cons_zero]
  refine wpF_callsrc 55 (f := 34) (args := #[Value.agg #[.int .i64 v, .int .i64 k, .int .u32 s, .int .i64 0, .int .i64 (q' : Int), .slice A n cp]]) (by simp) rfl rfl rfl (fun x => by first | rfl | (simp [go_sem]; done)) KR.out ?_
  simp only [Act.put, List.setIfInBounds_toArray, List.set_cons_succ, List.set_cons_zero]
  refine wpF_use 55 36 (f := 23) (fun x => #[.slice A2 CAT.length c2, x]) (.bool true) (by simp) rfl (by kernel_rfl) (by kernel_rfl) (by kernel_rfl) (fun _ => rfl) (fun v x => by first | rfl | (simp [go_sem]; done)) KS.out ?_
  simp only [Act.put, List.setIfInBounds_toArray, List.set_cons_succ, List.set_cons_zero]
  repeat (refine wpF_pure rfl rfl ?_; go_big_quiet_step (fail); refine wpQuiet_nil ?_)
  intro xs4 w4 hb4' _
  simp only [fill, Act.put, List.setIfInBounds_toArray, List.set_cons_succ, List.set_cons_zero]
  generalize xs4 55 = x55
  have hb4 := HI3.out w4 hb4'
  have HB4 := Lib.hid hb4
  obtain ⟨w5, hw5⟩ : ∃ w5, (w4.alloc (.cells #[.int .i64 0] 3)).alloc (.cells #[.bool true] 4) = w5 := ⟨_, rfl⟩
  have hb45 : Below w4.heap.size w4 w5 := by rw [← hw5]; exact ((Below.refl _ w4).alloc (Nat.le_refl _) _).alloc (by simp) _
  have hs5 : w5.heap.size = w4.heap.size + 2 := by rw [← hw5]; simp
  have bI5 : Boxed w5 w4.heap.size 3 (.int .i64 0) := by rw [← hw5]; exact (Boxed.new w4 _ _).alloc _
  have bO5 : Boxed w5 (w4.heap.size + 1) 4 (.bool true) := by
    rw [← hw5]
    have := Boxed.new (w4.alloc (.cells #[.int .i64 0] 3)) 4 (.bool true)
    rwa [World.size_alloc] at this
  have hb5 : Below w1.heap.size w1 w5 := hb4.trans (hb45.mono hb4.size)
  have KM := smissing_any (HX.out w5 hb5).1
  have hmz : misZ (E.map Pl.ct) q' = misZ (fs.map Fr.ct) q' := by unfold misZ; rw [HMIS.out]
  rw [hmz] at KM
  have HW5 := Lib.hid hw5
  have hs4 : w1.heap.size ≤ w4.heap.size := hb4.size
  clear LH LL LS KH KV KZ KY KF hb4' hb4 hw5 hmz
  gi_wp2_with fail
  refine ⟨trivial, ?_⟩
  rw [HW5.out]
  refine (callsIn_wide.2 KM).mono ?_
  rintro e w6 ⟨Bv, AL, cpL, rfl, hb56, hBv, hbxL, hcpL, hnumL⟩
  obtain ⟨bi, hbi⟩ : ∃ bi, w4.heap.size = bi := ⟨_, rfl⟩
  rw [hbi] at hs5 bI5 bO5
  have hs6 : w5.heap.size ≤ w6.heap.size := hb56.size
  have hLk6 : LkS w6 bi 0 w6 := ⟨(hb56.block _ (by omega)).trans bI5, (hb56.block _ (by omega)).trans bO5, Off.refl _ _⟩
  have hb16 : Below w1.heap.size w1 w6 := hb5.trans (hb56.mono hb5.size)
  obtain ⟨_, hra6, hx6⟩ := HX.out w6 hb16
  have HHV : Hid (∀ V, Off (fun k => k = bi ∨ k = bi + 1) w6 V → (V.cell? ⟨w.heap.size, 0, none⟩ = some (.int .i64 v) ∧ V.cell? ⟨w.heap.size, 1, none⟩ = some (.int .i64 k) ∧ V.cell? ⟨w.heap.size, 2, none⟩ = some (.int .u32 s) ∧ V.cell? ⟨w.heap.size, 3, none⟩ = some (.int .i64 0) ∧ V.cell? ⟨w.heap.size, 4, none⟩ = some (.int .i64 (q' : Int)) ∧ V.cell? ⟨w.heap.size, 5, none⟩ = some (.slice A n cp)) ∧ RefAt V (q' : Int) A n cp fs) := Lib.hid fun V hV => by
    have hB : Below w1.heap.size w1 V := hb16.trans (hV.below (fun k hk => by omega) hb16.size)
    obtain ⟨_, h2, h3⟩ := HX.out V hB
    exact ⟨fr_block h3, h2⟩
  have HB6 := Lib.hid hb16
  have HL6 := Lib.hid hLk6
  have HBX := Lib.hid hbxL
  have HNL := Lib.hid hnumL
  obtain ⟨C, hC⟩ : ∃ C, fs.map Fr.ct = C := ⟨_, rfl⟩
  have HCC := Lib.hid hC
  have hmz : misZ (fs.map Fr.ct) q' = (Sl.mis C q').map fun (i : Nat) => (i : Int) := by rw [hC]; rfl
  have hLl : (Sl.mis C q').length ≤ 255 := by have := Sl.mis_few C q'; omega
  have hBvl := hbxL.lt
  have hnil := values_not_nil Bv w6
  have hbiw : bi + 1 < w6.heap.size := by omega
  have HS4 : Hid (w1.heap.size ≤ bi) := by show _ ≤ _; omega
  have HSBV : Hid (bi + 1 < Bv) := by show _ < _; omega
  have HS5 : Hid (bi + 1 < w5.heap.size) := by show _ < _; omega
  clear hb56 hs6 hLk6 hb16 hra6 hx6 hbxL hnumL hb45 hb5 hs5 bI5 bO5 hs4 HW5 KM
  gi_wp2_with fail
  refine range_stops rfl (by omega) (gf := 79) (lb := #[.pointer (some ⟨Bv, 0, none⟩)]) rfl trivial (enters_of Try.func79 (by kernel_rfl) rfl)
    (fun x : Int => #[Value.int .i64 x]) (fun _ => rfl)
    (fun j x V => (∃ p, p ≤ q' ∧ (Sl.mis C p).length = j ∧ LkS w6 bi p V) ∧ ((Sl.mis C q').map fun (i : Nat) => (i : Int))[j]? = some x)
    (fun j V => ∃ p, p ≤ q' ∧ (Sl.mis C p).length = j ∧ LkS w6 bi p V)
    (fun _ _ => False) (fun _ _ => True) (Sl.mis C q').length
    (fun j x V l o o' h hl ho hc' => by
      obtain ⟨⟨i, h1, h2, h3⟩, h4⟩ := h
      exact ⟨⟨i, h1, h2, h3.below hbiw (below_put V o' hl)⟩, h4⟩)
    (fun j V l o o' h hl ho hc' => by
      obtain ⟨i, h1, h2, h3⟩ := h
      exact ⟨i, h1, h2, h3.below hbiw (below_put V o' hl)⟩)
    (fun _ _ _ _ _ h _ _ _ => h)
    (fun _ _ _ _ _ => trivial) (fun _ _ _ _ _ _ _ => trivial)
    (fun o => ⟨0, by omega, rfl, HL6.out.below hbiw (((Below.refl w6.heap.size w6).alloc (Nat.le_refl _) _).alloc (by simp) _)⟩) ?a1 ?assign ?body ?iter ?done ?stop
  case assign =>
    intro l x V K hK
    gi_wp2
    exact hK
  case body =>
    rintro l j x V hl ⟨⟨p, hpq, hpj, hLk⟩, hx⟩ hj
    rw [List.getElem?_map] at hx
    obtain ⟨qq, hqq, rfl⟩ := Option.map_eq_some_iff.1 hx
    obtain ⟨hqn, hqh, hpqq, hnext, hbetw⟩ := Sl.mis_next hqq hpj
    have HNX0 := Lib.hid hnext
    have HBT := Lib.hid hbetw
    have HQH := Lib.hid hqh
    have HLK := Lib.hid hLk
    have hqn' : (qq : Int) < (q' : Int) := by omega
    clear hx hqq hqh hnext hbetw hLk hpj hj hnil
    gi_wp2_with fail
    gi_loopw [] (fun wr => ∃ d : Nat, p ≤ d ∧ d ≤ qq ∧ LkS w6 bi d wr ∧ KeepsOthers V wr) (fun wr => 256 - inBoxS bi wr)
    case atStart => exact ⟨p, Nat.le_refl _, hpqq, HLK.out, KeepsOthers.refl _⟩
    case round =>
      obtain ⟨d, hpd, hdq, hLd, hko⟩ := hrel
      have kI := hLd.at'.cell
      obtain ⟨⟨c0, c1, c2, c3, c4, c5⟩, hraV⟩ := HHV.out wr hLd.off
      have hdn : (d : Int) < (q' : Int) := by omega
      have KHs := rhas_any v k s 0 hraV d
      unfold HasR at KHs
      rw [HCC.out] at KHs
      unfold frV frC at KHs
      have HLD := Lib.hid hLd
      have HKO := Lib.hid hko
      have hsz := hLd.off.size
      clear hLd hko hraV
      rename World => wr
      gi_wp2_with fail
      refine ⟨trivial, ?_⟩
      refine (callsIn_wide.2 KHs).mono ?_
      rintro e W1 ⟨hbW1, hor⟩
      have hL1 : LkS w6 bi d W1 := HLD.out.below hbiw (hbW1.mono hsz)
      have hko1 := HKO.out.trans (keeps_below hbW1)
      have kI := hL1.at'.cell
      have fI := hL1.at'.frozen
      have kO := hL1.ok.cell
      have fO := hL1.ok.frozen
      obtain ⟨⟨c0, c1, c2, c3, c4, c5⟩, _⟩ := HHV.out W1 hL1.off
      rcases hor with ⟨hno, rfl⟩ | ⟨hyes, jj, f', _, _, rfl⟩
      · have hdq2 : d = qq := by
          rcases Nat.lt_or_ge d qq with h4 | h4
          · rw [HBT.out d hpd h4] at hno; cases hno
          · omega
        subst hdq2
        have hfin : LkS w6 bi (d + 1) ((W1.setCell ⟨bi + 1, 0, none⟩ (.bool true)).setCell ⟨bi, 0, none⟩ (.int .i64 ((d : Int) + 1))) := hL1.right.next
        have kI2 := hL1.right.at'.cell
        have fI2 := hL1.right.at'.frozen
        have HFIN := Lib.hid hfin
        have HKO1 := Lib.hid hko1
        clear KHs hbW1 hno hL1 hko1 hfin
        gi_wp2
        exact ⟨((HKO1.out.trans (KeepsOthers.setCell _ _ _)).trans (KeepsOthers.setCell _ _ _)).from _, ⟨d + 1, by omega, HNX0.out, HFIN.out⟩, trivial⟩
      · have h4 : d < qq := by
          rcases Nat.lt_or_ge d qq with h4 | h4
          · exact h4
          · obtain rfl : d = qq := by omega
            rw [HQH.out] at hyes; cases hyes
        have hnx := hL1.next
        have hinb := HLD.out.num
        have hnum := hnx.num
        have HNX := Lib.hid (And.intro hnx (And.intro hnum hinb))
        have HKO1 := Lib.hid hko1
        clear KHs hbW1 hyes hL1 hko1 hnx hinb hnum
        gi_wp2
        go_roundw
        case rel => exact ⟨d + 1, by omega, by omega, HNX.out.1, HKO1.out.trans (KeepsOthers.setCell _ _ _)⟩
        case measure => rw [HNX.out.2.1, HNX.out.2.2]; omega
  case iter =>
    intro Bk X l V hBk hBlt hX hlw hD hB hY
    have hbxV : Boxed V Bv 135 (.slice AL (misZ (fs.map Fr.ct) q').length cpL) := by
      obtain ⟨p, _, _, h1⟩ := hD
      have := HSBV.out
      exact (h1.off.block Bv hBvl (by omega)).trans HBX.out
    rw [hmz] at HBX HNL hbxV
    refine (values_in 2 (by omega) 1 l Bv AL _ cpL ((Sl.mis C q').map fun (i : Nat) => (i : Int)) rfl (by rw [List.length_map]; omega) (fun k V => (∃ p, p ≤ q' ∧ (Sl.mis C p).length = k ∧ LkS w6 bi p V) ∧ Bk V) X ?_ ?_ V hbxV.cell ⟨hD, hB⟩).mono ?_
    · rintro k W ⟨⟨p, _, _, h1⟩, _⟩
      refine ⟨Bv, (HNL.out.keeps (w' := W) ⟨h1.off.size, fun g hg => h1.off.block g (by omega) (by have := HS5.out; have := hg.1; omega)⟩).nums fun g hg => hg.2⟩
    · rintro k x W ⟨h1, h2⟩ hx
      refine (hY _ _ W ⟨h1, hx⟩ h2 (by have := (List.getElem?_eq_some_iff.1 hx).1; rwa [List.length_map] at this)).mono ?_
      rintro e V2 (⟨rfl, hd, _, _⟩ | ⟨rfl, hx, _⟩)
      · exact .inl ⟨rfl, hd⟩
      · exact .inr ⟨rfl, hx⟩
    · rw [List.length_map]
      exact fun _ _ h => h
  case done =>
    rintro D V hD ⟨p, hpq, hpj, hLk⟩ hK
    have hrest : ∀ d, p ≤ d → d < q' → Sl.has C d = true := fun d h1 h2 => Sl.mis_rest hpj h1 h2
    have HRS := Lib.hid hrest
    have HLK := Lib.hid hLk
    have HKD := Lib.hid hK
    clear hrest hpj hLk hK hnil
    gi_wp2_with fail
    gi_loopw [] (fun wr => ∃ d : Nat, p ≤ d ∧ d ≤ q' ∧ LkS w6 bi d wr ∧ wr.heap[D]? = some (.deferred (some []))) (fun wr => 256 - inBoxS bi wr)
    case atStart => exact ⟨p, Nat.le_refl _, hpq, HLK.out, HKD.out⟩
    case round =>
      obtain ⟨d, hpd, hdq, hLd, hKd⟩ := hrel
      have kI := hLd.at'.cell
      have fI := hLd.at'.frozen
      have kO := hLd.ok.cell
      have fO := hLd.ok.frozen
      obtain ⟨⟨c0, c1, c2, c3, c4, c5⟩, hraV⟩ := HHV.out wr hLd.off
      rcases Nat.lt_or_ge d q' with h4 | h4
      · have hdn : (d : Int) < (q' : Int) := by omega
        have KHs := rhas_any v k s 0 hraV d
        unfold HasR at KHs
        rw [HCC.out] at KHs
        unfold frV frC at KHs
        have HLD := Lib.hid hLd
        have hsz := hLd.off.size
        have hDlt := (Array.getElem?_eq_some_iff.1 hKd).1
        have HKd := Lib.hid hKd
        clear hLd hraV hKd
        rename World => wr
        gi_wp2_with fail
        refine ⟨trivial, ?_⟩
        refine (callsIn_wide.2 KHs).mono ?_
        rintro e W1 ⟨hbW1, hor⟩
        have hL1 : LkS w6 bi d W1 := HLD.out.below hbiw (hbW1.mono hsz)
        have hK1 := (hbW1.block D hDlt).trans HKd.out
        rcases hor with ⟨hno, _⟩ | ⟨hyes, jj, f', _, _, rfl⟩
        · rw [HRS.out d hpd h4] at hno; cases hno
        have kI := hL1.at'.cell
        have fI := hL1.at'.frozen
        have kO := hL1.ok.cell
        have fO := hL1.ok.frozen
        have kI2 := hL1.right.at'.cell
        have fI2 := hL1.right.at'.frozen
        have hnx := hL1.right.next
        have hnum := hnx.num
        have hinb := HLD.out.num
        have hKn : ((W1.setCell ⟨bi + 1, 0, none⟩ (.bool true)).setCell ⟨bi, 0, none⟩ (.int .i64 ((d : Int) + 1))).heap[D]? = some (.deferred (some [])) := (Below.heap_setCell _ ⟨bi, 0, none⟩ _ D (by simp; omega)).trans ((Below.heap_setCell W1 ⟨bi + 1, 0, none⟩ _ D (by simp; omega)).trans hK1)
        have HNX := Lib.hid (And.intro hnx (And.intro hnum (And.intro hinb hKn)))
        clear KHs hbW1 hyes hL1 hK1 hnx hnum hinb hKn
        gi_wp2
        go_roundw
        case rel => exact ⟨d + 1, by omega, by omega, HNX.out.1, HNX.out.2.2.2⟩
        case measure => rw [HNX.out.2.1, HNX.out.2.2.1]; omega
      · obtain rfl : d = q' := by omega
        have hbV := HB1.out.trans ((HB6.out.trans (hLd.off.below (fun k hk => by have := HS4.out; omega) HB6.out.size)).mono HB1.out.size)
        have HBV := Lib.hid hbV
        have hDw : w.heap.size ≤ D := by have := HB1.out.size; have := HB6.out.size; omega
        clear hLd hraV hbV
        gi_wp2
        refine ⟨by simp, .inl ⟨_, _, rfl, run_takeDeferred hKd, ?_⟩⟩
        refine ⟨_, results_tmp rfl _ _ _, rfl, ?_⟩
        exact HBV.out.trans (below_put (B := w.heap.size) _ (.deferred none) hDw)
  case stop =>
    rintro D cd V _ h _
    exact h.elim
set_option maxHeartbeats 8000000 in
theorem salike_part {w : World} {b m : Nat} {v k s : Int} {q : Nat} {E : List Pl} (h : SlotAt w b m v k s (q : Int) E) {A : Option Addr} {n cp : Nat} {fs : List Fr} (hr : RefAt w (q : Int) A n cp fs) (hp : (E.map Pl.ct).Perm (fs.map Fr.ct)) (hfull : n ≠ q) :
    Calls Try.prog 45 #[.pointer (some ⟨b, 0, none⟩), frV v k s 0 (q : Int) (.slice A n cp)] w fun e w' => e = .returned (.bool true) ∧ Below w.heap.size w w' := by
  obtain ⟨w1, hw1⟩ : ∃ w1, w.alloc (.cells (frC v k s 0 (q : Int) (.slice A n cp)) 83) = w1 := ⟨_, rfl⟩
  have hb1 : Below w.heap.size w w1 := by rw [← hw1]; exact (Below.refl _ w).alloc (Nat.le_refl _) _
  have hs1 : w1.heap.size = w.heap.size + 1 := by rw [← hw1]; simp
  have hx1 : w1.heap[w.heap.size]? = some (.cells (frC v k s 0 (q : Int) (.slice A n cp)) 83 (0, 0)) := by rw [← hw1]; exact World.alloc_heap_new _ _
  have HW1 : Hid (w.alloc (.cells #[.int .i64 v, .int .i64 k, .int .u32 s, .int .i64 0, .int .i64 (q : Int), .slice A n cp] 83) = w1) := Lib.hid hw1
  have HX : Hid (∀ W, Below w1.heap.size w1 W → SlotAt W b m v k s (q : Int) E ∧ RefAt W (q : Int) A n cp fs ∧ W.heap[w.heap.size]? = some (.cells (frC v k s 0 (q : Int) (.slice A n cp)) 83 (0, 0))) :=
    Lib.hid fun W hW => ⟨(h.below hb1).below hW, (hr.below hb1).below hW, (hW.block _ (by omega)).trans hx1⟩
  obtain ⟨q', hq', q1, q2, hEq, _⟩ := h.count
  obtain rfl : q' = q := by omega
  have hlE : E.length = n := by have := hp.length_eq; simp at this; rw [this, hr.len]
  have hcat := Sl.cat_perm hp h.keys E.length
  have htot := Sl.tot_perm hp
  have hmis := Sl.mis_perm hp q'
  have hHas := Lib.hid (Sl.has_perm hp)
  have KB := sbytes_any (HX.out w1 (Below.refl _ _)).1
  have HB1 := Lib.hid hb1
  have HS1 := Lib.hid hs1
  have HLE := Lib.hid hlE
  have HCAT := Lib.hid hcat
  have HTOT := Lib.hid htot
  have HMIS := Lib.hid hmis
  have hn0 : n ≤ 255 := hr.few_len
  have HFU := Lib.hid hfull
  clear hfull
  clear h hr hp hw1 hb1 hs1 hx1 hq' hlE hcat htot hmis hEq
  unfold frV frC at *
  unfold BytesR at KB
  rw [HCAT.out, HLE.out] at KB
  refine (callsIn_wide (n := 3)).1 ?_
  refine callsIn_of_wp_marks Try.func45 rfl trivial ?_ rfl
  simp only [Try.ntmps45, List.size_toArray, List.length_cons, List.length_nil, Nat.reduceAdd, Nat.reduceSub, Array.replicate_succ, Array.replicate_zero, List.push_toArray, List.append_toArray, List.nil_append, List.cons_append]
  gi_wp2_with fail
  refine ⟨trivial, ?_⟩
  rw [HW1.out]
  refine (callsIn_wide.2 KB).mono ?_
  rintro e w2 ⟨hb2, hor⟩
  have hFull : Calls Try.prog 33 #[.agg #[.int .i64 v, .int .i64 k, .int .u32 s, .int .i64 0, .int .i64 (q' : Int), .slice A n cp]] w2 fun e w' => e = .returned (.bool ((n : Int) == (q' : Int))) ∧ Below w2.heap.size w2 w' := rfull_any v k s 0 (by omega)
  obtain ⟨_, _, hx2⟩ := HX.out w2 hb2
  obtain ⟨d0, d1, d2, d3, d4, d5⟩ := fr_block hx2
  obtain ⟨hne, rfl⟩ := (hor.resolve_right fun h => by
    have := h.1
    have := HFU.out
    omega)
  have e1 : ((n : Int) == (q' : Int)) = false := by have := HFU.out; simp; omega
  clear hne
  rw [e1] at hFull
  have HB2 := Lib.hid hb2
  have HEQ : Hid (((n : Int) == (q' : Int)) = false) := Lib.hid e1
  clear KB hb2 e1 hx2 hor
  gi_wp2_with fail
  refine ⟨trivial, ?_⟩
  refine (callsIn_wide.2 hFull).mono ?_
  rintro e w3 ⟨rfl, hb3⟩
  clear hFull d0 d1 d2 d3 d4 d5
  have hb13 := HB2.out.trans (hb3.mono HB2.out.size)
  have HI3 : Hid (∀ V, Below w3.heap.size w3 V → Below w1.heap.size w1 V) := Lib.hid fun V hV => hb13.trans (hV.mono hb13.size)
  have LH : ∀ V, Below w3.heap.size w3 V → (Instr.loadAt 44 (.pointer (some ⟨w.heap.size, 0, none⟩))).run Try.prog V = .ok (Value.agg #[.int .i64 v, .int .i64 k, .int .u32 s, .int .i64 0, .int .i64 (q' : Int)]) V := fun V hV => by
    obtain ⟨_, _, hx⟩ := HX.out V (HI3.out V hV)
    obtain ⟨d0, d1, d2, d3, d4, d5⟩ := fr_block hx
    simp [Instr.loadAt, go_sem, d0, d1, d2, d3, d4]
  have LL : ∀ V, Below w3.heap.size w3 V → (Instr.loadAt 81 (.pointer (some ⟨w.heap.size, 5, none⟩))).run Try.prog V = .ok (.slice A n cp) V := fun V hV => by
    obtain ⟨_, _, hx⟩ := HX.out V (HI3.out V hV)
    obtain ⟨d0, d1, d2, d3, d4, d5⟩ := fr_block hx
    simp [Instr.loadAt, go_sem, d5]
  have LS : ∀ V, Below w3.heap.size w3 V → (Instr.loadAt 83 (.pointer (some ⟨w.heap.size, 0, none⟩))).run Try.prog V = .ok (Value.agg #[.int .i64 v, .int .i64 k, .int .u32 s, .int .i64 0, .int .i64 (q' : Int), .slice A n cp]) V := fun V hV => by
    obtain ⟨_, _, hx⟩ := HX.out V (HI3.out V hV)
    obtain ⟨d0, d1, d2, d3, d4, d5⟩ := fr_block hx
    simp [Instr.loadAt, go_sem, d0, d1, d2, d3, d4, d5]
  have KH : Hid (∀ V, Below w3.heap.size w3 V → Calls Try.prog 61 #[.pointer (some ⟨b, 0, none⟩)] V fun e w' => e = .returned (Value.agg #[.int .i64 v, .int .i64 k, .int .u32 s, .int .i64 0, .int .i64 (q' : Int)]) ∧ Below V.heap.size V w') := Lib.hid fun V hV => shead_any (HX.out V (HI3.out V hV)).1
  have KV : Hid (∀ V, Below w3.heap.size w3 V → Calls Try.prog 62 #[.pointer (some ⟨b, 0, none⟩)] V fun e w' => e = .returned (.int .i64 (n : Int)) ∧ Below V.heap.size V w') := Lib.hid fun V hV => (shave_any (HX.out V (HI3.out V hV)).1).mono fun e w' ⟨he, hw⟩ => ⟨by rw [he, HLE.out], by rw [hw]; exact Below.refl _ _⟩
  obtain ⟨T, hT⟩ : ∃ T, Sl.tot (fs.map Fr.ct) = T := ⟨_, rfl⟩
  have KZ : Hid (∀ V, Below w3.heap.size w3 V → Calls Try.prog 46 #[.pointer (some ⟨b, 0, none⟩)] V fun e w' => e = .returned (.int .i64 (T : Int)) ∧ Below V.heap.size V w') := Lib.hid fun V hV => by
    have := ssize_any (HX.out V (HI3.out V hV)).1
    rwa [HTOT.out, hT] at this
  have KY : Hid (∀ V, Below w3.heap.size w3 V → Calls Try.prog 54 #[Value.agg #[.int .i64 v, .int .i64 k, .int .u32 s, .int .i64 0, .int .i64 (q' : Int), .slice A n cp]] V fun e w' => e = .returned (.int .i64 (T : Int)) ∧ Below V.heap.size V w') := Lib.hid fun V hV => by
    have := rsize_any v k s 0 (HX.out V (HI3.out V hV)).2.1
    rwa [hT] at this
  have KF : Hid (∀ V, Below w3.heap.size w3 V → Calls Try.prog 63 #[.pointer (some ⟨b, 0, none⟩)] V fun e w' => e = .returned (.bool false) ∧ Below V.heap.size V w') := Lib.hid fun V hV => (sfull_any (HX.out V (HI3.out V hV)).1).mono fun e w' ⟨he, d, hw⟩ => ⟨by rw [he, HLE.out, HEQ.out], by rw [hw]; exact below_drewN (Below.refl _ _) d⟩
  clear hT hb13
  gi_wp2_with fail
  refine wpIn_wide.2 ?_
  refine wp_region_F 69 [] (fun _ _ _ => True) (fun V => Below w3.heap.size w3 V) (by kernel_rfl) (by kernel_rfl) (by rfl) (by simp) (fun W W' h hb => h.trans (hb.mono h.size)) (fun _ _ _ _ _ _ => trivial) (Below.refl _ _).drew ?_
  repeat (refine wpF_pure rfl rfl ?_; go_big_quiet_step (fail); refine wpQuiet_nil ?_)
  refine wpF_call (f := 61) (args := #[.pointer (some ⟨b, 0, none⟩)]) (Value.agg #[.int .i64 v, .int .i64 k, .int .u32 s, .int .i64 0, .int .i64 (q' : Int)]) rfl rfl (fun x => by first | rfl | (simp [go_sem]; done)) KH.out ?_
  simp only [Act.put, List.setIfInBounds_toArray, List.set_cons_succ, List.set_cons_zero]
  repeat (refine wpF_pure rfl rfl ?_; go_big_quiet_step (fail); refine wpQuiet_nil ?_)
  refine wpF_load _ rfl (by rfl) (by rfl) (by rfl) LH ?_
  simp only [Act.put, List.setIfInBounds_toArray, List.set_cons_succ, List.set_cons_zero]
  repeat (refine wpF_pure rfl rfl ?_; go_big_quiet_step (fail); refine wpQuiet_nil ?_)
  refine wpF_call (f := 62) (args := #[.pointer (some ⟨b, 0, none⟩)]) (.int .i64 (n : Int)) rfl rfl (fun x => by first | rfl | (simp [go_sem]; done)) KV.out ?_
  simp only [Act.put, List.setIfInBounds_toArray, List.set_cons_succ, List.set_cons_zero]
  repeat (refine wpF_pure rfl rfl ?_; go_big_quiet_step (fail); refine wpQuiet_nil ?_)
  refine wpF_load _ rfl (by rfl) (by rfl) (by rfl) LL ?_
  simp only [Act.put, List.setIfInBounds_toArray, List.set_cons_succ, List.set_cons_zero]
  repeat (refine wpF_pure rfl rfl ?_; go_big_quiet_step (fail); refine wpQuiet_nil ?_)
  refine wpF_call (f := 46) (args := #[.pointer (some ⟨b, 0, none⟩)]) (.int .i64 (T : Int)) rfl rfl (fun x => by first | rfl | (simp [go_sem]; done)) KZ.out ?_
  simp only [Act.put, List.setIfInBounds_toArray, List.set_cons_succ, List.set_cons_zero]
  refine wpF_load _ rfl (by rfl) (by rfl) (by rfl) LS ?_
  simp only [Act.put, List.setIfInBounds_toArray, List.set_cons_succ, List.set_cons_zero]
  refine wpF_call (f := 54) (args := #[Value.agg #[.int .i64 v, .int .i64 k, .int .u32 s, .int .i64 0, .int .i64 (q' : Int), .slice A n cp]]) (.int .i64 (T : Int)) rfl rfl (fun x => by first | rfl | (simp [go_sem]; done)) KY.out ?_
  simp only [Act.put, List.setIfInBounds_toArray, List.set_cons_succ, List.set_cons_zero]
  repeat (refine wpF_pure rfl rfl ?_; go_big_quiet_step (fail); refine wpQuiet_nil ?_)
  refine wpF_call (f := 63) (args := #[.pointer (some ⟨b, 0, none⟩)]) (.bool false) rfl rfl (fun x => by first | rfl | (simp [go_sem]; done)) KF.out ?_
  simp only [Act.put, List.setIfInBounds_toArray, List.set_cons_succ, List.set_cons_zero]
  repeat (refine wpF_pure rfl rfl ?_; go_big_quiet_step (fail); refine wpQuiet_nil ?_)
  refine wpF_skip rfl rfl ?_
  simp only [Act.put, List.setIfInBounds_toArray, List.set_cons_succ, List.set_cons_zero]
  refine wpF_skip rfl rfl ?_
  simp only [Act.put, List.setIfInBounds_toArray, List.set_cons_succ, List.set_cons_zero]
  refine wpF_skip rfl rfl ?_
  simp only [Act.put, List.setIfInBounds_toArray, List.set_cons_succ, List.set_cons_zero]
  repeat (refine wpF_pure rfl rfl ?_; go_big_quiet_step (fail); refine wpQuiet_nil ?_)
  intro xs4 w4 hb4' _
  simp only [fill]
  have hb4 := HI3.out w4 hb4'
  have HB4 := Lib.hid hb4
  obtain ⟨w5, hw5⟩ : ∃ w5, (w4.alloc (.cells #[.int .i64 0] 3)).alloc (.cells #[.bool true] 4) = w5 := ⟨_, rfl⟩
  have hb45 : Below w4.heap.size w4 w5 := by rw [← hw5]; exact ((Below.refl _ w4).alloc (Nat.le_refl _) _).alloc (by simp) _
  have hs5 : w5.heap.size = w4.heap.size + 2 := by rw [← hw5]; simp
  have bI5 : Boxed w5 w4.heap.size 3 (.int .i64 0) := by rw [← hw5]; exact (Boxed.new w4 _ _).alloc _
  have bO5 : Boxed w5 (w4.heap.size + 1) 4 (.bool true) := by
    rw [← hw5]
    have := Boxed.new (w4.alloc (.cells #[.int .i64 0] 3)) 4 (.bool true)
    rwa [World.size_alloc] at this
  have hb5 : Below w1.heap.size w1 w5 := hb4.trans (hb45.mono hb4.size)
  have KM := smissing_any (HX.out w5 hb5).1
  have hmz : misZ (E.map Pl.ct) q' = misZ (fs.map Fr.ct) q' := by unfold misZ; rw [HMIS.out]
  rw [hmz] at KM
  have HW5 := Lib.hid hw5
  have hs4 : w1.heap.size ≤ w4.heap.size := hb4.size
  clear LH LL LS KH KV KZ KY KF hb4' hb4 hw5 hmz
  gi_wp2_with fail
  refine ⟨trivial, ?_⟩
  rw [HW5.out]
  refine (callsIn_wide.2 KM).mono ?_
  rintro e w6 ⟨Bv, AL, cpL, rfl, hb56, hBv, hbxL, hcpL, hnumL⟩
  obtain ⟨bi, hbi⟩ : ∃ bi, w4.heap.size = bi := ⟨_, rfl⟩
  rw [hbi] at hs5 bI5 bO5
  have hs6 : w5.heap.size ≤ w6.heap.size := hb56.size
  have hLk6 : LkS w6 bi 0 w6 := ⟨(hb56.block _ (by omega)).trans bI5, (hb56.block _ (by omega)).trans bO5, Off.refl _ _⟩
  have hb16 : Below w1.heap.size w1 w6 := hb5.trans (hb56.mono hb5.size)
  obtain ⟨_, hra6, hx6⟩ := HX.out w6 hb16
  have HHV : Hid (∀ V, Off (fun k => k = bi ∨ k = bi + 1) w6 V → (V.cell? ⟨w.heap.size, 0, none⟩ = some (.int .i64 v) ∧ V.cell? ⟨w.heap.size, 1, none⟩ = some (.int .i64 k) ∧ V.cell? ⟨w.heap.size, 2, none⟩ = some (.int .u32 s) ∧ V.cell? ⟨w.heap.size, 3, none⟩ = some (.int .i64 0) ∧ V.cell? ⟨w.heap.size, 4, none⟩ = some (.int .i64 (q' : Int)) ∧ V.cell? ⟨w.heap.size, 5, none⟩ = some (.slice A n cp)) ∧ RefAt V (q' : Int) A n cp fs) := Lib.hid fun V hV => by
    have hB : Below w1.heap.size w1 V := hb16.trans (hV.below (fun k hk => by omega) hb16.size)
    obtain ⟨_, h2, h3⟩ := HX.out V hB
    exact ⟨fr_block h3, h2⟩
  have HB6 := Lib.hid hb16
  have HL6 := Lib.hid hLk6
  have HBX := Lib.hid hbxL
  have HNL := Lib.hid hnumL
  obtain ⟨C, hC⟩ : ∃ C, fs.map Fr.ct = C := ⟨_, rfl⟩
  have HCC := Lib.hid hC
  have hmz : misZ (fs.map Fr.ct) q' = (Sl.mis C q').map fun (i : Nat) => (i : Int) := by rw [hC]; rfl
  have hLl : (Sl.mis C q').length ≤ 255 := by have := Sl.mis_few C q'; omega
  have hBvl := hbxL.lt
  have hnil := values_not_nil Bv w6
  have hbiw : bi + 1 < w6.heap.size := by omega
  have HS4 : Hid (w1.heap.size ≤ bi) := by show _ ≤ _; omega
  have HSBV : Hid (bi + 1 < Bv) := by show _ < _; omega
  have HS5 : Hid (bi + 1 < w5.heap.size) := by show _ < _; omega
  clear hb56 hs6 hLk6 hb16 hra6 hx6 hbxL hnumL hb45 hb5 hs5 bI5 bO5 hs4 HW5 KM
  gi_wp2_with fail
  refine range_stops rfl (by omega) (gf := 79) (lb := #[.pointer (some ⟨Bv, 0, none⟩)]) rfl trivial (enters_of Try.func79 (by kernel_rfl) rfl)
    (fun x : Int => #[Value.int .i64 x]) (fun _ => rfl)
    (fun j x V => (∃ p, p ≤ q' ∧ (Sl.mis C p).length = j ∧ LkS w6 bi p V) ∧ ((Sl.mis C q').map fun (i : Nat) => (i : Int))[j]? = some x)
    (fun j V => ∃ p, p ≤ q' ∧ (Sl.mis C p).length = j ∧ LkS w6 bi p V)
    (fun _ _ => False) (fun _ _ => True) (Sl.mis C q').length
    (fun j x V l o o' h hl ho hc' => by
      obtain ⟨⟨i, h1, h2, h3⟩, h4⟩ := h
      exact ⟨⟨i, h1, h2, h3.below hbiw (below_put V o' hl)⟩, h4⟩)
    (fun j V l o o' h hl ho hc' => by
      obtain ⟨i, h1, h2, h3⟩ := h
      exact ⟨i, h1, h2, h3.below hbiw (below_put V o' hl)⟩)
    (fun _ _ _ _ _ h _ _ _ => h)
    (fun _ _ _ _ _ => trivial) (fun _ _ _ _ _ _ _ => trivial)
    (fun o => ⟨0, by omega, rfl, HL6.out.below hbiw (((Below.refl w6.heap.size w6).alloc (Nat.le_refl _) _).alloc (by simp) _)⟩) ?a1 ?assign ?body ?iter ?done ?stop
  case assign =>
    intro l x V K hK
    gi_wp2
    exact hK
  case body =>
    rintro l j x V hl ⟨⟨p, hpq, hpj, hLk⟩, hx⟩ hj
    rw [List.getElem?_map] at hx
    obtain ⟨qq, hqq, rfl⟩ := Option.map_eq_some_iff.1 hx
    obtain ⟨hqn, hqh, hpqq, hnext, hbetw⟩ := Sl.mis_next hqq hpj
    have HNX0 := Lib.hid hnext
    have HBT := Lib.hid hbetw
    have HQH := Lib.hid hqh
    have HLK := Lib.hid hLk
    have hqn' : (qq : Int) < (q' : Int) := by omega
    clear hx hqq hqh hnext hbetw hLk hpj hj hnil
    gi_wp2_with fail
    gi_loopw [] (fun wr => ∃ d : Nat, p ≤ d ∧ d ≤ qq ∧ LkS w6 bi d wr ∧ KeepsOthers V wr) (fun wr => 256 - inBoxS bi wr)
    case atStart => exact ⟨p, Nat.le_refl _, hpqq, HLK.out, KeepsOthers.refl _⟩
    case round =>
      obtain ⟨d, hpd, hdq, hLd, hko⟩ := hrel
      have kI := hLd.at'.cell
      obtain ⟨⟨c0, c1, c2, c3, c4, c5⟩, hraV⟩ := HHV.out wr hLd.off
      have hdn : (d : Int) < (q' : Int) := by omega
      have KHs := rhas_any v k s 0 hraV d
      unfold HasR at KHs
      rw [HCC.out] at KHs
      unfold frV frC at KHs
      have HLD := Lib.hid hLd
      have HKO := Lib.hid hko
      have hsz := hLd.off.size
      clear hLd hko hraV
      rename World => wr
      gi_wp2_with fail
      refine ⟨trivial, ?_⟩
      refine (callsIn_wide.2 KHs).mono ?_
      rintro e W1 ⟨hbW1, hor⟩
      have hL1 : LkS w6 bi d W1 := HLD.out.below hbiw (hbW1.mono hsz)
      have hko1 := HKO.out.trans (keeps_below hbW1)
      have kI := hL1.at'.cell
      have fI := hL1.at'.frozen
      have kO := hL1.ok.cell
      have fO := hL1.ok.frozen
      obtain ⟨⟨c0, c1, c2, c3, c4, c5⟩, _⟩ := HHV.out W1 hL1.off
      rcases hor with ⟨hno, rfl⟩ | ⟨hyes, jj, f', _, _, rfl⟩
      · have hdq2 : d = qq := by
          rcases Nat.lt_or_ge d qq with h4 | h4
          · rw [HBT.out d hpd h4] at hno; cases hno
          · omega
        subst hdq2
        have hfin : LkS w6 bi (d + 1) ((W1.setCell ⟨bi + 1, 0, none⟩ (.bool true)).setCell ⟨bi, 0, none⟩ (.int .i64 ((d : Int) + 1))) := hL1.right.next
        have kI2 := hL1.right.at'.cell
        have fI2 := hL1.right.at'.frozen
        have HFIN := Lib.hid hfin
        have HKO1 := Lib.hid hko1
        clear KHs hbW1 hno hL1 hko1 hfin
        gi_wp2
        exact ⟨((HKO1.out.trans (KeepsOthers.setCell _ _ _)).trans (KeepsOthers.setCell _ _ _)).from _, ⟨d + 1, by omega, HNX0.out, HFIN.out⟩, trivial⟩
      · have h4 : d < qq := by
          rcases Nat.lt_or_ge d qq with h4 | h4
          · exact h4
          · obtain rfl : d = qq := by omega
            rw [HQH.out] at hyes; cases hyes
        have hnx := hL1.next
        have hinb := HLD.out.num
        have hnum := hnx.num
        have HNX := Lib.hid (And.intro hnx (And.intro hnum hinb))
        have HKO1 := Lib.hid hko1
        clear KHs hbW1 hyes hL1 hko1 hnx hinb hnum
        gi_wp2
        go_roundw
        case rel => exact ⟨d + 1, by omega, by omega, HNX.out.1, HKO1.out.trans (KeepsOthers.setCell _ _ _)⟩
        case measure => rw [HNX.out.2.1, HNX.out.2.2]; omega
  case iter =>
    intro Bk X l V hBk hBlt hX hlw hD hB hY
    have hbxV : Boxed V Bv 135 (.slice AL (misZ (fs.map Fr.ct) q').length cpL) := by
      obtain ⟨p, _, _, h1⟩ := hD
      have := HSBV.out
      exact (h1.off.block Bv hBvl (by omega)).trans HBX.out
    rw [hmz] at HBX HNL hbxV
    refine (values_in 2 (by omega) 1 l Bv AL _ cpL ((Sl.mis C q').map fun (i : Nat) => (i : Int)) rfl (by rw [List.length_map]; omega) (fun k V => (∃ p, p ≤ q' ∧ (Sl.mis C p).length = k ∧ LkS w6 bi p V) ∧ Bk V) X ?_ ?_ V hbxV.cell ⟨hD, hB⟩).mono ?_
    · rintro k W ⟨⟨p, _, _, h1⟩, _⟩
      refine ⟨Bv, (HNL.out.keeps (w' := W) ⟨h1.off.size, fun g hg => h1.off.block g (by omega) (by have := HS5.out; have := hg.1; omega)⟩).nums fun g hg => hg.2⟩
    · rintro k x W ⟨h1, h2⟩ hx
      refine (hY _ _ W ⟨h1, hx⟩ h2 (by have := (List.getElem?_eq_some_iff.1 hx).1; rwa [List.length_map] at this)).mono ?_
      rintro e V2 (⟨rfl, hd, _, _⟩ | ⟨rfl, hx, _⟩)
      · exact .inl ⟨rfl, hd⟩
      · exact .inr ⟨rfl, hx⟩
    · rw [List.length_map]
      exact fun _ _ h => h
  case done =>
    rintro D V hD ⟨p, hpq, hpj, hLk⟩ hK
    have hrest : ∀ d, p ≤ d → d < q' → Sl.has C d = true := fun d h1 h2 => Sl.mis_rest hpj h1 h2
    have HRS := Lib.hid hrest
    have HLK := Lib.hid hLk
    have HKD := Lib.hid hK
    clear hrest hpj hLk hK hnil
    gi_wp2_with fail
    gi_loopw [] (fun wr => ∃ d : Nat, p ≤ d ∧ d ≤ q' ∧ LkS w6 bi d wr ∧ wr.heap[D]? = some (.deferred (some []))) (fun wr => 256 - inBoxS bi wr)
    case atStart => exact ⟨p, Nat.le_refl _, hpq, HLK.out, HKD.out⟩
    case round =>
      obtain ⟨d, hpd, hdq, hLd, hKd⟩ := hrel
      have kI := hLd.at'.cell
      have fI := hLd.at'.frozen
      have kO := hLd.ok.cell
      have fO := hLd.ok.frozen
      obtain ⟨⟨c0, c1, c2, c3, c4, c5⟩, hraV⟩ := HHV.out wr hLd.off
      rcases Nat.lt_or_ge d q' with h4 | h4
      · have hdn : (d : Int) < (q' : Int) := by omega
        have KHs := rhas_any v k s 0 hraV d
        unfold HasR at KHs
        rw [HCC.out] at KHs
        unfold frV frC at KHs
        have HLD := Lib.hid hLd
        have hsz := hLd.off.size
        have hDlt := (Array.getElem?_eq_some_iff.1 hKd).1
        have HKd := Lib.hid hKd
        clear hLd hraV hKd
        rename World => wr
        gi_wp2_with fail
        refine ⟨trivial, ?_⟩
        refine (callsIn_wide.2 KHs).mono ?_
        rintro e W1 ⟨hbW1, hor⟩
        have hL1 : LkS w6 bi d W1 := HLD.out.below hbiw (hbW1.mono hsz)
        have hK1 := (hbW1.block D hDlt).trans HKd.out
        rcases hor with ⟨hno, _⟩ | ⟨hyes, jj, f', _, _, rfl⟩
        · rw [HRS.out d hpd h4] at hno; cases hno
        have kI := hL1.at'.cell
        have fI := hL1.at'.frozen
        have kO := hL1.ok.cell
        have fO := hL1.ok.frozen
        have kI2 := hL1.right.at'.cell
        have fI2 := hL1.right.at'.frozen
        have hnx := hL1.right.next
        have hnum := hnx.num
        have hinb := HLD.out.num
        have hKn : ((W1.setCell ⟨bi + 1, 0, none⟩ (.bool true)).setCell ⟨bi, 0, none⟩ (.int .i64 ((d : Int) + 1))).heap[D]? = some (.deferred (some [])) := (Below.heap_setCell _ ⟨bi, 0, none⟩ _ D (by simp; omega)).trans ((Below.heap_setCell W1 ⟨bi + 1, 0, none⟩ _ D (by simp; omega)).trans hK1)
        have HNX := Lib.hid (And.intro hnx (And.intro hnum (And.intro hinb hKn)))
        clear KHs hbW1 hyes hL1 hK1 hnx hnum hinb hKn
        gi_wp2
        go_roundw
        case rel => exact ⟨d + 1, by omega, by omega, HNX.out.1, HNX.out.2.2.2⟩
        case measure => rw [HNX.out.2.1, HNX.out.2.2.1]; omega
      · obtain rfl : d = q' := by omega
        have hbV := HB1.out.trans ((HB6.out.trans (hLd.off.below (fun k hk => by have := HS4.out; omega) HB6.out.size)).mono HB1.out.size)
        have HBV := Lib.hid hbV
        have hDw : w.heap.size ≤ D := by have := HB1.out.size; have := HB6.out.size; omega
        clear hLd hraV hbV
        gi_wp2
        refine ⟨by simp, .inl ⟨_, _, rfl, run_takeDeferred hKd, ?_⟩⟩
        refine ⟨_, results_tmp rfl _ _ _, rfl, ?_⟩
        exact HBV.out.trans (below_put (B := w.heap.size) _ (.deferred none) hDw)
  case stop =>
    rintro D cd V _ h _
    exact h.elim
end Go.Proofs.Ytloncplpjdekoaa

namespace Go.Proofs.Ytloncplpjdekoaa
open Go.RowKit Go.Shelf
set_option maxRecDepth 100000
attribute [local go_sem] Oper.semAt_some

/-- how many bytes slots have -/
def tots (X : List Sx) : Nat := (X.map fun x => Sl.tot (x.E.map Pl.ct)).sum
theorem tots_held (X : List Sx) : tots X = Tb.held (X.map Sx.ms) := by
  unfold tots Tb.held
  rw [List.map_map]
  rfl
theorem tots_next {X : List Sx} {j : Nat} {x : Sx} (hx : X[j]? = some x) : tots (X.take (j + 1)) = tots (X.take j) + Sl.tot (x.E.map Pl.ct) := by
  unfold tots
  rw [List.take_add_one, hx, List.map_append, List.sum_append]
  simp
theorem tots_le {w : World} : ∀ {X : List Sx}, (∀ x ∈ X, x.At w) → tots X ≤ 192 * X.length
  | [], _ => by simp [tots]
  | x :: r, h => by
    have h1 := tots_le (X := r) fun y hy => h y (List.mem_cons_of_mem _ hy)
    have h2 := SlotAt.most (h x (List.mem_cons_self ..))
    unfold tots at *
    simp only [List.map_cons, List.sum_cons, List.length_cons]
    omega
structure HeS (w : World) (v : Option Addr) (X : List Sx) (j : Nat) (V : World) : Prop where
  num : Boxed V w.heap.size 3 (.int .i64 (tots (X.take j) : Int))
  box : Boxed V (w.heap.size + 1) 23 (.pointer v)
  below : Below w.heap.size w V
theorem HeS.put {w V : World} {v : Option Addr} {X : List Sx} {j : Nat} (h : HeS w v X j V) {l : Nat} {o : Obj} (hl : w.heap.size + 2 ≤ l) (_ho : V.heap[l]? = some o) (_hc : o.isCells = false) (o' : Obj) : HeS w v X j (V.putObj l o') :=
  ⟨(World.putObj_heap_other (by omega)).trans h.num, (World.putObj_heap_other (by omega)).trans h.box, h.below.trans (below_put V o' (by omega))⟩
set_option maxHeartbeats 4000000 in
theorem theld_go (v : Option Addr) (X : List Sx) (hl : X.length ≤ 16) (w : World) (hsl : ∀ x ∈ X, x.At w)
    (hI : ∀ (l Bs : Nat) (J : Nat → World → Prop) (Jx : World → Prop), (∀ j W, J j W → W.cell? ⟨Bs, 0, none⟩ = some (.pointer v) ∧ Below w.heap.size w W) →
      (∀ (j : Nat) (x : Sx) (W : World), J j W → X[j]? = some x → YieldAt Fence.wide 1 Try.prog l #[.int .u32 x.s, .pointer (some ⟨x.b, 0, none⟩)] W fun e W' => (e = .returned (.bool true) ∧ J (j + 1) W') ∨ (e = .returned (.bool false) ∧ Jx W')) →
      ∀ W, J 0 W → CallsIn Fence.wide 2 Try.prog 60 #[.func (.yield l) #[] #[], .pointer (some ⟨Bs, 0, none⟩)] W fun e W' => (∃ v, e = .returned v) ∧ (J X.length W' ∨ Jx W')) :
    Calls Try.prog 19 #[.pointer v] w fun e w' => e = .returned (.int .i64 (tots X : Int)) ∧ Below w.heap.size w w' := by
  have HI := Lib.hid hI
  clear hI
  have htl := tots_le hsl
  refine (callsIn_wide (n := 3)).1 ?_
  refine callsIn_of_wp_marks Try.func19 rfl trivial ?_ rfl
  simp only [Try.ntmps19, List.size_toArray, List.length_cons, List.length_nil, Nat.reduceAdd, Nat.reduceSub, Array.replicate_succ, Array.replicate_zero, List.push_toArray, List.append_toArray, List.nil_append, List.cons_append]
  obtain ⟨w1, hw1⟩ : ∃ w1, w.alloc (Obj.cells #[Value.int .i64 0] 3) = w1 := ⟨_, rfl⟩
  have hs1 : w1.heap.size = w.heap.size + 1 := by rw [← hw1]; simp
  have hb1 : Below w.heap.size w w1 := by rw [← hw1]; exact (Below.refl _ w).alloc (Nat.le_refl _) _
  have bL1 : Boxed w1 w.heap.size 3 (.int .i64 0) := by rw [← hw1]; exact Boxed.new w _ _
  have K := teach_any v w1
  have HW1 := Lib.hid hw1
  clear hw1
  gi_wp2_with fail
  refine ⟨trivial, ?_⟩
  rw [HW1.out]
  refine (callsIn_wide.2 K).mono ?_
  rintro e w2 ⟨rfl, hw2⟩
  clear K
  have hs2 : w2.heap.size = w.heap.size + 2 := by rw [hw2]; simp [hs1]
  have bC2 : Boxed w2 (w.heap.size + 1) 23 (.pointer v) := by rw [hw2, ← hs1]; exact Boxed.new w1 _ _
  have bL2 : Boxed w2 w.heap.size 3 (.int .i64 0) := by rw [hw2]; exact bL1.alloc _
  have hb2 : Below w.heap.size w w2 := by rw [hw2]; exact hb1.alloc (by omega) _
  clear hw2 HW1
  rw [hs1]
  have hH0 : HeS w v X 0 w2 := ⟨bL2, bC2, hb2⟩
  clear bL1 bL2 bC2 hb1 hb2 hs1
  gi_wp2_with fail
  refine range_stops rfl (by omega) (gf := 60) (lb := #[.pointer (some ⟨w.heap.size + 1, 0, none⟩)]) rfl trivial (enters_of Try.func60 (by kernel_rfl) rfl)
    (fun x : Sx => #[Value.int .u32 x.s, .pointer (some ⟨x.b, 0, none⟩)]) (fun _ => rfl)
    (fun j x V => HeS w v X j V ∧ X[j]? = some x)
    (fun j V => HeS w v X j V)
    (fun _ _ => False) (fun _ _ => True) X.length
    (fun j x V l o o' h hl ho hc' => ⟨h.1.put (by omega) ho hc' o', h.2⟩)
    (fun j V l o o' h hl ho hc' => h.put (by omega) ho hc' o')
    (fun _ _ _ _ _ h _ _ _ => h)
    (fun _ _ _ _ _ => trivial) (fun _ _ _ _ _ _ _ => trivial)
    (fun o => ⟨(hH0.num.alloc _).alloc _, (hH0.box.alloc _).alloc _, (hH0.below.alloc hH0.below.size _).alloc (by have := hH0.below.size; simp; omega) _⟩) ?a1 ?assign ?body ?iter ?done ?stop
  case assign =>
    intro l x V K hK
    gi_wp2
    exact hK
  case body =>
    rintro l j x V hl ⟨hM, hx⟩ hj
    have hxm : x ∈ X := List.mem_of_getElem? hx
    have hsx := (hsl x hxm).below hM.below
    have hnx := tots_next hx
    have hle : tots (X.take j) ≤ 192 * 16 := by
      have h1 := tots_le (X := X.take j) (w := w) fun y hy => hsl y (List.mem_of_mem_take hy)
      rw [List.length_take] at h1
      omega
    have hto := SlotAt.most hsx
    have hnum := hM.num
    generalize tots (X.take j) = a at *
    generalize hq : Sl.tot (x.E.map Pl.ct) = q at *
    have L1 : ∀ W, Below V.heap.size V W → (Instr.loadAt 3 (.pointer (some ⟨w.heap.size, 0, none⟩))).run Try.prog W = .ok (.int .i64 (a : Int)) W := fun W hW => by
      have := (show Boxed W w.heap.size 3 _ from (hW.block _ hnum.lt).trans hnum).cell
      simp [Instr.loadAt, go_sem, this]
    have KS : ∀ W, Below V.heap.size V W → Calls Try.prog 46 #[.pointer (some ⟨x.b, 0, none⟩)] W fun e w' => e = .returned (.int .i64 (q : Int)) ∧ Below W.heap.size W w' := fun W hW => by
      have := ssize_any (SlotAt.below hsx hW)
      rw [hq] at this
      exact this
    have HB := Lib.hid hM.below
    have HC := Lib.hid hM.box
    have HNM := Lib.hid hnum
    have HNX := Lib.hid hnx
    have hbs := hM.below.size
    clear hM hH0 hnum hnx hsx hx hxm HI
    gi_wp2_with fail
    refine wpIn_region_FS 15 4 5 [] (fun _ _ _ => True) (fun W => Below V.heap.size V W) (fun _ W W' => W' = W.setCell ⟨w.heap.size, 0, none⟩ (.int .i64 ((a : Int) + (q : Int)))) (by kernel_rfl) (fun ⟨_, _, h⟩ => h) (by kernel_rfl) (by rfl) (by kernel_rfl) (by rfl) (by simp) (fun W W' h hb => h.trans (hb.mono h.size)) (fun _ _ _ _ _ _ => trivial) (Below.refl _ _).drew (by rfl) ?_
    refine wpFS_step (wpF_load (.int .i64 (a : Int)) rfl (by rfl) (by rfl) (by rfl) L1 ?_)
    simp only [wpF, Act.put, List.setIfInBounds_toArray, List.set_cons_succ, List.set_cons_zero]
    repeat (refine wpFS_step (wpF_pure rfl rfl ?_); go_big_quiet_step (fail); refine wpQuiet_nil ?_; simp only [wpF])
    refine wpFS_step (wpF_call (f := 46) (args := #[.pointer (some ⟨x.b, 0, none⟩)]) (.int .i64 (q : Int)) rfl rfl (fun W => by first | rfl | (simp [go_sem]; done)) KS ?_)
    simp only [wpF, Act.put, List.setIfInBounds_toArray, List.set_cons_succ, List.set_cons_zero]
    repeat (refine wpFS_step (wpF_pure rfl rfl ?_); go_big_quiet_step (fail); refine wpQuiet_nil ?_; simp only [wpF])
    refine wpFS_store rfl rfl rfl ⟨w.heap.size, 0, none⟩ (fun _ => .int .i64 ((a : Int) + (q : Int))) (fun _ => rfl) (fun _ => rfl) (fun xs W hW _ => ?_) ?_
    · have hb := (show Boxed W w.heap.size 3 _ from (hW.block _ HNM.out.lt).trans HNM.out)
      have k1 := hb.cell
      have k2 := hb.frozen
      exact ⟨_, by simp [Instr.storeAt, go_sem, k1, k2], rfl⟩
    simp only [wpFS]
    rintro xs W W' hW _ rfl
    have hko := keeps_below hW
    have hbW := HNM.out
    have hnW : Boxed W w.heap.size 3 (.int .i64 (a : Int)) := (hW.block _ hbW.lt).trans hbW
    refine (show KeepsFrom w2.heap.size V (W.setCell ⟨w.heap.size, 0, none⟩ (.int .i64 ((a : Int) + (q : Int)))) ∧ HeS w v X (j + 1) (W.setCell ⟨w.heap.size, 0, none⟩ (.int .i64 ((a : Int) + (q : Int)))) ∧ True from ⟨(hko.trans (KeepsOthers.setCell _ _ _)).from _, ⟨?_, ?_, ?_⟩, trivial⟩)
    · rw [HNX.out, Int.natCast_add]
      exact hnW.set _
    · exact Boxed.other (show Boxed W (w.heap.size + 1) 23 (.pointer v) from (hW.block _ HC.out.lt).trans HC.out) (by omega) _
    · exact (HB.out.trans (hW.mono hbs)).setCell (p := ⟨w.heap.size, 0, none⟩) (Nat.le_refl _) _
  case iter =>
    intro Bk Xp l V hBk hBlt hX hlw hD hB hY
    refine (HI.out l (w.heap.size + 1) (fun k V => HeS w v X k V ∧ Bk V) Xp ?_ ?_ V ⟨hD, hB⟩).mono ?_
    · rintro k W ⟨h1, _⟩
      exact ⟨h1.box.cell, h1.below⟩
    · rintro k x W ⟨h1, h2⟩ hx
      refine (hY _ _ W ⟨h1, hx⟩ h2 (List.getElem?_eq_some_iff.1 hx).1).mono ?_
      rintro e V2 (⟨rfl, hd, _, _⟩ | ⟨rfl, hx, _⟩)
      · exact .inl ⟨rfl, hd⟩
      · exact .inr ⟨rfl, hx⟩
    · exact fun _ _ h => h
  case done =>
    rintro D V hD hM hK
    have kN := hM.num.cell
    rw [List.take_length] at kN
    have hwD : w.heap.size ≤ D := by omega
    have HFIN := Lib.hid (hM.below.trans (below_put (B := w.heap.size) V (.deferred none) hwD))
    clear hM hH0
    gi_wp2
    refine ⟨by simp, .inl ⟨_, _, rfl, run_takeDeferred hK, ?_⟩⟩
    refine ⟨_, results_tmp rfl _ _ _, ?_⟩
    exact ⟨rfl, HFIN.out⟩
  case stop =>
    rintro D cd W' _ h _
    exact h.elim
theorem theld_nil (w : World) : Calls Try.prog 19 #[.pointer none] w fun e w' => e = .returned (.int .i64 0) ∧ Below w.heap.size w w' :=
  theld_go none [] (by simp) w (fun x hx => by cases hx) fun l Bs J Jx hJ _ W h0 => (teach_nil_in 2 l Bs W (hJ 0 W h0).1).mono fun e W' ⟨hv, hw⟩ => ⟨hv, .inl (by subst hw; exact h0)⟩
theorem theld_any {w : World} {S : Nat → Prop} {b r m n cp : Nat} {A : Option Addr} {X : List Sx} (h : TblAt w S b r m A n cp X) :
    Calls Try.prog 19 #[.pointer (some ⟨b, 0, none⟩)] w fun e w' => e = .returned (.int .i64 (Tb.held (X.map Sx.ms) : Int)) ∧ Below w.heap.size w w' := by
  rw [← tots_held]
  have hlen := h.len
  refine theld_go (some ⟨b, 0, none⟩) X (by have := h.few; have := h.room; omega) w h.slots fun l Bs J Jx hJ hY W h0 => ?_
  rw [hlen]
  exact teach_in 2 (by omega) 1 l Bs b r m A n cp X J Jx (fun j W hj => ⟨(hJ j W hj).1, S, h.below (hJ j W hj).2⟩) hY W h0
end Go.Proofs.Ytloncplpjdekoaa

namespace Go.Proofs.Ytloncplpjdekoaa
open Go.RowKit Go.Shelf
set_option maxRecDepth 100000

theorem touts_any (A A' : Option Addr) (n cp cp' : Nat) (wh ev : Bool) (old : Int) (zs : List Int) (w : World) (hn : zs.length = n) (hl : n ≤ 1000000) (h1 : Nums .u8 w w.heap.size A zs) (h2 : Nums .u8 w w.heap.size A' zs) :
    Calls Try.prog 13 #[outV A n cp wh ev old, outV A' n cp' wh ev old] w fun e w' => e = .returned (.bool true) ∧ Below w.heap.size w w' := by
  obtain ⟨w0, hw0⟩ : ∃ w0, (w.alloc (.cells (outC A n cp wh ev old) 48)).alloc (.cells (outC A' n cp' wh ev old) 41) = w0 := ⟨_, rfl⟩
  have hb0 : Below w.heap.size w w0 := by rw [← hw0]; exact ((Below.refl _ w).alloc (Nat.le_refl _) _).alloc (by simp) _
  have KS := same_any w0.heap.size A A' n n cp cp' zs zs w0 hn hn (by omega) ((h1.below hb0).mono hb0.size) ((h2.below hb0).mono hb0.size)
  rw [decide_eq_true rfl] at KS
  have HKS := Lib.hid KS
  have HB := Lib.hid hb0
  clear KS hb0 h1 h2 hn
  subst hw0
  unfold outV
  simp only [outC] at HKS HB ⊢
  go_enter Try.func13, Try.ntmps13
  go_wp2_with fail
  refine HKS.out.mono ?_
  rintro e w1 ⟨rfl, nd, rfl⟩
  have HB1 := Lib.hid (below_drewN HB.out nd)
  clear HKS HB
  cases wh <;> cases ev
  all_goals (
    go_wp2
    go_ret
    exact ⟨rfl, HB1.out⟩)
theorem tseqsame_any (A A' : Option Addr) (n cp cp' : Nat) (zs : List Int) (w : World) (B : Nat) (hn : zs.length = n) (hl : n ≤ 1000000) (h1 : Nums .u32 w B A zs) (h2 : Nums .u32 w B A' zs) :
    Calls Try.prog 21 #[.slice A n cp, .slice A' n cp'] w fun e w' => e = .returned (.bool true) ∧ ∃ d, w' = w.drewN d := by
  go_enter Try.func21, Try.ntmps21
  go_wp2
  go_loopw [5] (fun i wr => ∃ (j d : Nat), j ≤ n ∧ i = .int .i64 (j : Int) ∧ wr = w.drewN d) (fun i _ => n - (intOf i).toNat)
  case atStart => exact ⟨0, 0, by omega, rfl, rfl⟩
  case round =>
    obtain ⟨j, d, hj, rfl, rfl⟩ := hrel
    by_cases hjn : j < n
    · obtain ⟨z, hz⟩ : ∃ z, zs[j]? = some z := ⟨_, List.getElem?_eq_getElem (by rw [hn]; exact hjn)⟩
      obtain ⟨g, o, rfl, _, hc⟩ := h1.open hz
      obtain ⟨g', o', rfl, _, hc'⟩ := h2.open hz
      have hlt : (j : Int) < (n : Int) := by omega
      clear h1 h2 hz
      go_wp2_with fail
      go_quiet ((fail))
      go_wp2
      go_roundw
      case rel => exact ⟨j + 1, d + nq, by omega, by go_num, by simp⟩
      case measure => simp [intOf]; omega
    · have hjn' : j = n := by omega
      subst hjn'
      go_wp2
      go_ret
      exact ⟨rfl, _, rfl⟩
end Go.Proofs.Ytloncplpjdekoaa

namespace Go.Proofs.Ytloncplpjdekoaa
open Go.ChangeShapes Go.WideShapes Go.RowKit
set_option maxRecDepth 100000

section
variable {H : Type} {enc : TypeId × Value → H} {w : World} {base : Nat} {spare : Nat → Bool} {held : Bool}
theorem open_head {r : Reach} {b0 : Nat} {x : Value} {d : DataW H} {p : List MemPlace} (hv : Value.okWide Try.prog w r b0 33 x) (h : DataW.Trod enc Try.prog w base spare held 33 x d p) :
    ∃ v k s i c : Int, x = hdV v k s i c ∧ (Lit.int .i64 v).wf = true ∧ (Lit.int .i64 k).wf = true ∧ (Lit.int .u32 s).wf = true ∧ (Lit.int .i64 i).wf = true ∧ (Lit.int .i64 c).wf = true := by
  obtain ⟨⟨cs⟩, rfl, hsz⟩ := okWide_struct Try.underlying33 hv
  have h5 : Try.prog.cellsOf 33 = 5 := by kernel_rfl
  rw [h5] at hsz
  obtain ⟨fuel, hf⟩ := h
  obtain ⟨xs, n, _, _, _, hlen, hg⟩ := DataW.trod_struct Try.underlying33 hf
  have one : ∀ (t : TypeId) (q : Nat) (kd : IntKind), Try.prog.underlying t = some (.int kd) → q < xs.length → DataW.trod enc Try.prog w base spare held n t ((cs.drop q).take 1) = xs[q]? → ∃ z, cs[q]? = some (.int kd z) ∧ (Lit.int kd z).wf = true := fun t q kd ht hq e => by
    rw [List.getElem?_eq_getElem hq] at e
    obtain ⟨z, e1, _, hz⟩ := DataW.trod_int ht e
    refine ⟨z, ?_, hz⟩
    have := congrArg (·[0]?) e1
    simpa [List.getElem?_take, List.getElem?_drop] using this
  have hl : xs.length = 5 := hlen
  have g0 := hg 0 _ rfl
  have g1 := hg 1 _ rfl
  have g2 := hg 2 _ rfl
  have g3 := hg 3 _ rfl
  have g4 := hg 4 _ rfl
  simp only [Value.cells] at g0 g1 g2 g3 g4
  obtain ⟨v, a0, r0⟩ := one 3 0 .i64 Try.underlying3 (by omega) g0
  obtain ⟨k, a1, r1⟩ := one 3 1 .i64 Try.underlying3 (by omega) g1
  obtain ⟨s, a2, r2⟩ := one 31 2 .u32 Try.underlying31 (by omega) g2
  obtain ⟨i, a3, r3⟩ := one 3 3 .i64 Try.underlying3 (by omega) g3
  obtain ⟨c, a4, r4⟩ := one 3 4 .i64 Try.underlying3 (by omega) g4
  refine ⟨v, k, s, i, c, ?_, r0, r1, r2, r3, r4⟩
  match cs, hsz, a0, a1, a2, a3, a4 with
  | [y0, y1, y2, y3, y4], _, a0, a1, a2, a3, a4 =>
    simp at a0 a1 a2 a3 a4
    subst a0 a1 a2 a3 a4
    rfl
end
end Go.Proofs.Ytloncplpjdekoaa

namespace Go.Proofs.Ytloncplpjdekoaa
open Go.RowKit Go.ChangeShapes Go.WideShapes Go.Deep
set_option maxRecDepth 100000

def i64Ok (z : Int) : Prop := -9223372036854775808 ≤ z ∧ z ≤ 9223372036854775807
/-- its numbers are numbers of its kinds -/
structure Fr.Wf (f : Fr) : Prop where
  v : i64Ok f.v
  k : i64Ok f.k
  i : i64Ok f.i
  c : i64Ok f.c
section
variable {H : Type} {enc : TypeId × Value → H} {w : World}
theorem row_of {T E : TypeId} {k : IntKind} {fuel : Nat} {v : Value} {x : DataW H × List MemPlace} (ht : Try.prog.underlying T = some (.slice E)) (he : Try.prog.underlying E = some (.int k)) (hc : Try.prog.cellsOf E = 1)
    (h : DataW.trod enc Try.prog w 0 (fun _ => true) true fuel T [v] = some x) : ∃ a n c es, v = .slice a n c ∧ es.length = n ∧ n ≤ c ∧ Nums k w w.heap.size a es ∧ ∀ z ∈ es, (Lit.int k z).wf = true := by
  rcases open_ints ht he hc h with ⟨hcs, _⟩ | ⟨a, l, c, zs, hcs, _, hl, hm, hz, _, hcell, hwz⟩
  · injection hcs with hcs
    exact ⟨none, 0, 0, [], hcs, rfl, Nat.le_refl _, Nums.nil, fun z hz => by cases hz⟩
  · injection hcs with hcs
    obtain ⟨es, h1, h2, h3, h4, h5⟩ := IsRow.elems (k := k) (w := w) (a := some a) (len := l) (cap := c) (zs := zs) (.inr ⟨_, rfl, hl, hm, by simpa using hz, hcell, hwz⟩)
    exact ⟨some a, l, c, es, hcs, h1, h2, h4, h5⟩
theorem row_short {T E : TypeId} {k : IntKind} {fuel : Nat} {v : Value} {x : DataW H × List MemPlace} (ht : Try.prog.underlying T = some (.slice E)) (he : Try.prog.underlying E = some (.int k)) (hc : Try.prog.cellsOf E = 1)
    (h : DataW.trod enc Try.prog w 0 (fun _ => true) true fuel T [v] = some x) : ∃ a n c, v = .slice a n c ∧ c ≤ maxLen := by
  rcases open_ints ht he hc h with ⟨hcs, _⟩ | ⟨a, l, c, zs, hcs, _, hl, hm, hz, _, hcell, hwz⟩
  · injection hcs with hcs
    exact ⟨none, 0, 0, hcs, Nat.zero_le _⟩
  · injection hcs with hcs
    exact ⟨some a, l, c, hcs, hm⟩
/-- a head's cells -/
theorem head_of {fuel : Nat} {cs : List Value} {x : DataW H × List MemPlace} (h : DataW.trod enc Try.prog w 0 (fun _ => true) true fuel 33 cs = some x) :
    ∃ v k s i c : Int, cs = [.int .i64 v, .int .i64 k, .int .u32 s, .int .i64 i, .int .i64 c] ∧ 0 ≤ s ∧ s ≤ 4294967295 ∧ i64Ok v ∧ i64Ok k ∧ i64Ok i ∧ i64Ok c := by
  obtain ⟨xs, n, _, _, hlen, hxl, hf⟩ := DataW.trod_struct Try.underlying33 h
  have h5 : Try.prog.cellsOf 33 = 5 := by kernel_rfl
  have k0 : Try.prog.cellsOf 3 = 1 := by kernel_rfl
  have k1 : Try.prog.cellsOf 31 = 1 := by kernel_rfl
  rw [h5] at hlen
  match cs, hlen with
  | [c0, c1, c2, c3, c4], _ =>
    have hx : ∀ i, i < 5 → ∃ y, xs[i]? = some y := fun i hi => ⟨_, List.getElem?_eq_getElem (by rw [hxl]; exact hi)⟩
    obtain ⟨y0, e0⟩ := hx 0 (by decide)
    obtain ⟨y1, e1⟩ := hx 1 (by decide)
    obtain ⟨y2, e2⟩ := hx 2 (by decide)
    obtain ⟨y3, e3⟩ := hx 3 (by decide)
    obtain ⟨y4, e4⟩ := hx 4 (by decide)
    have f0 : DataW.trod enc Try.prog w 0 (fun _ => true) true n 3 (([c0, c1, c2, c3, c4].drop 0).take (Try.prog.cellsOf 3)) = some y0 := (hf 0 _ rfl).trans e0
    rw [k0] at f0
    have f1 : DataW.trod enc Try.prog w 0 (fun _ => true) true n 3 (([c0, c1, c2, c3, c4].drop 1).take (Try.prog.cellsOf 3)) = some y1 := (hf 1 _ rfl).trans e1
    rw [k0] at f1
    have f2 : DataW.trod enc Try.prog w 0 (fun _ => true) true n 31 (([c0, c1, c2, c3, c4].drop 2).take (Try.prog.cellsOf 31)) = some y2 := (hf 2 _ rfl).trans e2
    rw [k1] at f2
    have f3 : DataW.trod enc Try.prog w 0 (fun _ => true) true n 3 (([c0, c1, c2, c3, c4].drop 3).take (Try.prog.cellsOf 3)) = some y3 := (hf 3 _ rfl).trans e3
    rw [k0] at f3
    have f4 : DataW.trod enc Try.prog w 0 (fun _ => true) true n 3 (([c0, c1, c2, c3, c4].drop 4).take (Try.prog.cellsOf 3)) = some y4 := (hf 4 _ rfl).trans e4
    rw [k0] at f4
    obtain ⟨v, g0, _, hv⟩ := DataW.trod_int Try.underlying3 f0
    obtain ⟨k, g1, _, hk⟩ := DataW.trod_int Try.underlying3 f1
    obtain ⟨s, g2, _, hs⟩ := DataW.trod_int Try.underlying31 f2
    obtain ⟨i, g3, _, hi⟩ := DataW.trod_int Try.underlying3 f3
    obtain ⟨c, g4, _, hc⟩ := DataW.trod_int Try.underlying3 f4
    injection g0 with g0
    injection g1 with g1
    injection g2 with g2
    injection g3 with g3
    injection g4 with g4
    subst g0 g1 g2 g3 g4
    have hr : 0 ≤ s ∧ s ≤ 4294967295 := by
      have h := hs
      simp [Lit.wf] at h
      exact h
    exact ⟨v, k, s, i, c, rfl, hr.1, hr.2, bounds_i64 hv, bounds_i64 hk, bounds_i64 hi, bounds_i64 hc⟩
/-- a frame's cells -/
theorem fr_of {fuel : Nat} {cs : List Value} {x : DataW H × List MemPlace} (h : DataW.trod enc Try.prog w 0 (fun _ => true) true fuel 36 cs = some x) :
    ∃ f : Fr, cs = f.cs.toList ∧ f.At w w.heap.size ∧ f.Wf := by
  obtain ⟨xs, n, _, _, hlen, hxl, hf⟩ := DataW.trod_struct Try.underlying36 h
  have h6 : Try.prog.cellsOf 36 = 6 := by kernel_rfl
  have k0 : Try.prog.cellsOf 33 = 5 := by kernel_rfl
  have k1 : Try.prog.cellsOf 34 = 1 := by kernel_rfl
  rw [h6] at hlen
  match cs, hlen with
  | [c0, c1, c2, c3, c4, c5], _ =>
    have hx : ∀ i, i < 2 → ∃ y, xs[i]? = some y := fun i hi => ⟨_, List.getElem?_eq_getElem (by rw [hxl]; exact hi)⟩
    obtain ⟨y0, e0⟩ := hx 0 (by decide)
    obtain ⟨y1, e1⟩ := hx 1 (by decide)
    have f0 : DataW.trod enc Try.prog w 0 (fun _ => true) true n 33 (([c0, c1, c2, c3, c4, c5].drop 0).take (Try.prog.cellsOf 33)) = some y0 := (hf 0 _ rfl).trans e0
    rw [k0] at f0
    have f1 : DataW.trod enc Try.prog w 0 (fun _ => true) true n 34 (([c0, c1, c2, c3, c4, c5].drop 5).take (Try.prog.cellsOf 34)) = some y1 := (hf 1 _ rfl).trans e1
    rw [k1] at f1
    obtain ⟨v, k, s, i, c, g0, hs0, hs1, hv, hk, hi, hc⟩ := head_of f0
    obtain ⟨a, m, cp, zs, rfl, l1, l2, l3, l4⟩ := row_of Try.underlying34 Try.underlying5 (by kernel_rfl) f1
    obtain ⟨a2, m2, cp2, q1, q2⟩ := row_short Try.underlying34 Try.underlying5 (by kernel_rfl) f1
    injection q1 with q1 q3 q4
    subst q1 q3 q4
    simp only [List.drop_zero, List.take_succ_cons, List.take_zero, List.cons.injEq, and_true] at g0
    obtain ⟨rfl, rfl, rfl, rfl, rfl⟩ := g0
    subst l1
    exact ⟨⟨v, k, s, i, c, a, cp, zs⟩, rfl, ⟨hs0, hs1, l2, by unfold maxLen at q2; simp only; omega, bytes_of l4, l3⟩, ⟨hv, hk, hi, hc⟩⟩
theorem open_frame {r : Reach} {b0 : Nat} {x : Value} {d : DataW H} {p : List MemPlace} (hv : Value.okWide Try.prog w r b0 36 x) (h : DataW.Trod enc Try.prog w 0 (fun _ => true) true 36 x d p) :
    ∃ f : Fr, x = .agg f.cs ∧ f.At w w.heap.size ∧ f.Wf := by
  obtain ⟨⟨cs⟩, rfl, hsz⟩ := okWide_struct Try.underlying36 hv
  obtain ⟨fuel, hf⟩ := h
  obtain ⟨f, e, h1, h2⟩ := fr_of hf
  simp only [Value.cells] at e
  refine ⟨f, ?_, h1, h2⟩
  rw [e]
theorem frs_of {fuel : Nat} {A : Option Addr} {len cap : Nat} {x : DataW H × List MemPlace} (h : DataW.trod enc Try.prog w 0 (fun _ => true) true fuel 57 [.slice A len cap] = some x) :
    ∃ fs : List Fr, fs.length = len ∧ len ≤ 9223372036854775807 ∧ len ≤ cap ∧ FrsAt w w.heap.size A fs ∧ ∀ f ∈ fs, f.Wf := by
  rcases open_slice Try.underlying57 h with ⟨hcs, _⟩ | ⟨a, l, c, m, n, D, Pl, hcs, _, hl, hm, hmm, _, hi⟩
  · injection hcs with hcs
    injection hcs with h1 h2 h3
    subst h1 h2 h3
    exact ⟨[], rfl, by decide, Nat.le_refl _, ⟨fun f hf => by simp at hf, fun j f hj => by simp at hj⟩, fun f hf => by simp at hf⟩
  · injection hcs with hcs
    injection hcs with h1 h2 h3
    subst h1 h2 h3
    have h6 : Try.prog.cellsOf 36 = 6 := by kernel_rfl
    have hmc : m = cap := by simpa using hmm
    have key : ∀ i, ∃ f : Fr, i < len → f.At w w.heap.size ∧ f.Wf ∧ ∃ b o, some a = some (⟨b, o, none⟩ : Addr) ∧ b < w.heap.size ∧ ∀ (q : Nat) (u : Value), f.cs[q]? = some u → w.cell? ⟨b, o + i * 6 + q, none⟩ = some u := by
      intro i
      by_cases hil : i < len
      · obtain ⟨cs', hc', ht'⟩ := hi i (by omega)
        rw [h6] at hc'
        obtain ⟨f, rfl, hat, hwf⟩ := fr_of ht'
        obtain ⟨_, _, hcell⟩ := World.cells?_some hc'
        obtain ⟨cs0, hc0, ht0⟩ := hi 0 (by omega)
        rw [h6] at hc0
        obtain ⟨f0, rfl, _⟩ := fr_of ht0
        have hz := (World.cells?_some hc0).2.2 0 (by decide)
        have hadd : ∀ a : Addr, a.add 0 = a := fun a => by unfold Addr.add; rw [if_pos rfl]
        rw [Nat.zero_mul, hadd, hadd] at hz
        obtain ⟨b, o, sp⟩ := a
        have hsp : sp = none := World.cell?_spot hz
        subst hsp
        have hcj : ∀ (j : Nat) v, f.cs[j]? = some v → w.cell? ⟨b, o + i * 6 + j, none⟩ = some v := fun j v hv => by
          have hj : j < 6 := (Array.getElem?_eq_some_iff.1 hv).1
          have h0 := hcell j hj
          rw [Addr.add_lit, Addr.add_lit, Array.getElem?_toList, hv] at h0
          exact h0
        exact ⟨f, fun _ => ⟨hat, hwf, b, o, rfl, block_of_cell (hcj 0 _ rfl), hcj⟩⟩
      · exact ⟨⟨0, 0, 0, 0, 0, none, 0, []⟩, fun h => absurd h hil⟩
    obtain ⟨g, hg⟩ := Classical.axiomOfChoice key
    have hall : ∀ (i : Nat) f, ((List.range len).map g)[i]? = some f → i < len ∧ f = g i := fun i f hd => by
      rw [List.getElem?_map] at hd
      obtain ⟨j, hj, rfl⟩ := Option.map_eq_some_iff.1 hd
      have hil : i < len := by
        rcases Nat.lt_or_ge i len with h | h
        · exact h
        · rw [List.getElem?_eq_none (by simpa using h)] at hj; simp at hj
      rw [List.getElem?_range hil] at hj
      injection hj with hj
      exact ⟨hil, by rw [hj]⟩
    refine ⟨(List.range len).map g, by simp, by unfold maxLen at hm; omega, by omega, ⟨fun f hf => ?_, fun j f hj => ?_⟩, fun f hf => ?_⟩
    · obtain ⟨i, hi, rfl⟩ := List.mem_iff_getElem.1 hf
      obtain ⟨h1, h2⟩ := hall i _ (List.getElem?_eq_getElem hi)
      rw [h2]; exact (hg i h1).1
    · obtain ⟨h1, rfl⟩ := hall j f hj
      exact (hg j h1).2.2
    · obtain ⟨i, hi, rfl⟩ := List.mem_iff_getElem.1 hf
      obtain ⟨h1, h2⟩ := hall i _ (List.getElem?_eq_getElem hi)
      rw [h2]; exact (hg i h1).2.1
end
end Go.Proofs.Ytloncplpjdekoaa
