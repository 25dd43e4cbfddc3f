/-
  Contracts of layer 10: last of what taken's closure gives; Newest, Oldest.
-/
import Derived.Test.YtjcnkalgbhlafaaSerT
import Derived.Test.YtjcnkalgbhlafaaStopB
import Derived.Test.YtjcnkalgbhlafaaLd
import Derived.BigQuiet
namespace Go.Proofs.Ytjcnkalgbhlafaa
open Go.RowKit Go.Shelf
set_option maxRecDepth 100000
attribute [local go_sem] Oper.semAt_some

/-- either closure, in one -/
theorem taken_in (f : Bool) (n : Nat) (hn : 1 ≤ n) (m' l Bs Bf m c : Nat) (S : Nat → Prop) (w : World) (hS : ∀ k, S k → k < w.heap.size) (A : Option Addr) (zs : List Int) (hm : zs.length = m) (hl : m ≤ 1000000) (hz : Sr.U zs) (hc : m ≤ c) (J : Nat → World → Prop) (Jx : World → Prop)
    (hY : ∀ (j : Nat) (x : Int) (W : World), J j W → KeepS S w W → (Sr.tk f true 0 zs)[j]? = some x →
      YieldAt Fence.wide m' Try.prog l #[.int .u32 x] W fun e W' => (e = .returned (.bool true) ∧ J (j + 1) W' ∧ KeepS S W W') ∨ (e = .returned (.bool false) ∧ Jx W'))
    (W : World) (hSB : S Bs) (hSF : S Bf) (hBs : w.cell? ⟨Bs, 0, none⟩ = some (.slice A m c)) (hBf : w.cell? ⟨Bf, 0, none⟩ = some (stead f)) (hK : KeepS S w W) (hN : NumsS .u32 w S A zs) (h0 : J 0 W) :
    CallsIn Fence.wide n Try.prog 25 #[.func (.yield l) #[] #[], .pointer (some ⟨Bs, 0, none⟩), .pointer (some ⟨Bf, 0, none⟩)] W fun e W' => (∃ v, e = .returned v) ∧ ((J (Sr.tk f true 0 zs).length W' ∧ KeepS S w W') ∨ Jx W') := by
  cases f
  · exact takenO_in n hn m' l Bs Bf m c S w hS A zs hm hl hz hc J Jx hY W hSB hSF hBs hBf hK hN h0
  · exact takenN_in n hn m' l Bs Bf m c S w hS A zs hm hl hz hc J Jx hY W hSB hSF hBs hBf hK hN h0

/-- behind j numbers that were given: the boxes s and s + 1 hold the last one and whether there is one; all else is as it was -/
def Lst (w : World) (s : Nat) (j : Nat) (x : Int) (b : Bool) (V : World) : Prop :=
  Boxed V s 22 (.int .u32 x) ∧ Boxed V (s + 1) 4 (.bool b) ∧ Off (fun k => k = s ∨ k = s + 1) w V ∧ (0 < j → b = true) ∧ (j = 0 → b = false)
theorem Lst.below {w V V' : World} {s j : Nat} {x : Int} {b : Bool} (h : Lst w s j x b V) (hs : s + 1 < w.heap.size) (hB : Below w.heap.size V V') : Lst w s j x b V' :=
  ⟨(hB.block s (by omega)).trans h.1, (hB.block (s + 1) hs).trans h.2.1, off_below h.2.2.1 hB, h.2.2.2⟩
theorem Lst.put {w V : World} {s j : Nat} {y : Int} {b : Bool} (x : Int) (h : Lst w s j y b V) : Lst w s j x b (V.setCell ⟨s, 0, none⟩ (.int .u32 x)) :=
  ⟨Boxed.set _ h.1, (Below.heap_setCell V ⟨s, 0, none⟩ _ (s + 1) (by simp)).trans h.2.1, h.2.2.1.setCell (p := ⟨s, 0, none⟩) (.inl rfl) _, h.2.2.2⟩
theorem Lst.flag {w V : World} {s j : Nat} {x : Int} {b : Bool} (h : Lst w s j x b V) : Lst w s (j + 1) x true (V.setCell ⟨s + 1, 0, none⟩ (.bool true)) :=
  ⟨(Below.heap_setCell V ⟨s + 1, 0, none⟩ _ s (by simp)).trans h.1, Boxed.set _ h.2.1, h.2.2.1.setCell (p := ⟨s + 1, 0, none⟩) (.inr rfl) _, fun _ => rfl, fun h => absurd h (Nat.succ_ne_zero j)⟩

set_option maxHeartbeats 4000000 in
theorem slast_any (f : Bool) (Bs Bf m c : Nat) (A : Option Addr) (zs : List Int) (w : World) (hm : zs.length = m) (hl : m ≤ 1000000) (hz : Sr.U zs) (hc : m ≤ c)
    (hBsl : Bs < w.heap.size) (hBfl : Bf < w.heap.size) (hBs : w.cell? ⟨Bs, 0, none⟩ = some (.slice A m c)) (hBf : w.cell? ⟨Bf, 0, none⟩ = some (stead f)) (hN : Nums .u32 w w.heap.size A zs) :
    Calls Try.prog 21 #[.func (.func 25) #[] #[.pointer (some ⟨Bs, 0, none⟩), .pointer (some ⟨Bf, 0, none⟩)]] w fun e w' =>
      e = .returned (.tuple #[.int .u32 (Sr.bst f zs), .bool (decide (0 < m))]) ∧ Below w.heap.size w w' := by
  refine (callsIn_wide (n := 3)).1 ?_
  refine callsIn_of_wp_marks Try.func21 rfl trivial ?_ rfl
  simp only [Try.ntmps21, List.size_toArray, List.length_cons, List.length_nil, Nat.reduceAdd, Nat.reduceSub, Array.replicate_succ, Array.replicate_zero, List.push_toArray, List.append_toArray, List.nil_append, List.cons_append]
  obtain ⟨w2, hw2⟩ : ∃ w2, w2 = (w.alloc (Obj.cells #[Value.int IntKind.u32 0] 22)).alloc (Obj.cells #[Value.bool false] 4) := ⟨_, rfl⟩
  have hs2 : w2.heap.size = w.heap.size + 2 := by rw [hw2]; simp
  have bN : Boxed w2 w.heap.size 22 (.int .u32 0) := by rw [hw2]; exact (Boxed.new w _ _).alloc _
  have bS : Boxed w2 (w.heap.size + 1) 4 (.bool false) := by
    rw [hw2]
    have := Boxed.new (w.alloc (.cells #[Value.int IntKind.u32 0] 22)) 4 (.bool false)
    rwa [World.size_alloc] at this
  have hb2 : Below w.heap.size w w2 := by rw [hw2]; exact ((Below.refl _ w).alloc (Nat.le_refl _) _).alloc (by simp) _
  obtain ⟨S, hSd⟩ : ∃ S : Nat → Prop, S = fun k => k < w.heap.size := ⟨_, rfl⟩
  have hSlt : ∀ k, S k → k < w2.heap.size := fun k hk => by rw [hSd] at hk; omega
  have hSN : ¬ S w.heap.size := fun hk => by rw [hSd] at hk; omega
  have hSS : ¬ S (w.heap.size + 1) := fun hk => by rw [hSd] at hk; omega
  have hSs : S Bs := by rw [hSd]; exact hBsl
  have hSf : S Bf := by rw [hSd]; exact hBfl
  have hk2 : KeepS S w w2 := KeepS.of_below hb2 (fun k hk => by rw [hSd] at hk; exact hk)
  have hBs2 : w2.cell? ⟨Bs, 0, none⟩ = some (.slice A m c) := (hk2.cell (p := ⟨Bs, 0, none⟩) hSs).trans hBs
  have hBf2 : w2.cell? ⟨Bf, 0, none⟩ = some (stead f) := (hk2.cell (p := ⟨Bf, 0, none⟩) hSf).trans hBf
  have hN2 : NumsS .u32 w2 S A zs := (hN.below hb2).numsS (fun k hk => by rw [hSd]; exact hk)
  have hbl : w.heap.size + 1 < w2.heap.size := by omega
  have hKo : ∀ (V : World) (l' : Nat) (o' : Obj), w2.heap.size ≤ l' → KeepS S V (V.putObj l' o') := fun V l' o' hl' => ⟨by simp [World.putObj], fun k hk => World.putObj_heap_other (by have := hSlt k hk; omega)⟩
  clear hSd hN hBs hBf hk2
  have HW2 := Lib.hid hw2
  clear hw2
  have HP := Lib.hid (Sr.tk_pos f zs)
  have HB := Lib.hid (Sr.tk_bst f zs)
  obtain ⟨L, hL⟩ : ∃ L, Sr.tk f true 0 zs = L := ⟨_, rfl⟩
  rw [hL] at HP HB
  gi_wp2_with fail
  rw [← HW2.out]
  refine range_stopb rfl (by omega) (gf := 25) (lb := #[.pointer (some ⟨Bs, 0, none⟩), .pointer (some ⟨Bf, 0, none⟩)]) rfl trivial (enters_of Try.func25 (by kernel_rfl) rfl)
    (fun x : Int => #[Value.int .u32 x]) (fun _ => rfl)
    (fun j x V => Lst w2 w.heap.size j ((L.take j).getLastD 0) (decide (0 < j)) V ∧ L[j]? = some x)
    (fun j x _ V => Lst w2 w.heap.size j x (decide (0 < j)) V ∧ L[j]? = some x)
    (fun j V => Lst w2 w.heap.size j ((L.take j).getLastD 0) (decide (0 < j)) V) (fun _ _ => False) (KeepS S) L.length
    (fun j x q V l o o' h hl ho hc' => ⟨h.1.below hbl (below_put V o' hl), h.2⟩)
    (fun j V l o o' h hl ho hc' => h.below hbl (below_put V o' hl))
    (fun _ _ _ _ _ h _ _ _ => h)
    (fun _ _ _ h k => h.trans k) (fun V l o o' hl ho hc' => hKo V l o' hl)
    (fun o => Lst.below ⟨bN, bS, Off.refl _ _, fun h => absurd h (Nat.lt_irrefl 0), fun _ => rfl⟩ hbl (((Below.refl w2.heap.size w2).alloc (Nat.le_refl _) _).alloc (by simp) _)) ?round ?iter ?done ?stop
  case round =>
    rintro l j x V K ⟨hLst, hx⟩ hj hK
    have fN := hLst.1.frozen
    have kN := hLst.1.cell
    have hK' := Lib.hid hK
    clear hK
    gi_wp2_with fail
    refine hK'.out _ 0 _ ⟨hLst.put x, hx⟩ ((KeepsOthers.setCell V ⟨w.heap.size, 0, none⟩ (.int .u32 x)).from w2.heap.size) ((KeepS.refl S V).set hSN _) ?_
    clear hK' hLst kN fN
    rintro l V hl ⟨hLst, _⟩
    have fS := hLst.2.1.frozen
    have kS := hLst.2.1.cell
    have hfl := Lib.hid hLst.flag
    clear hLst
    gi_wp2
    refine ⟨(KeepsOthers.setCell V ⟨w.heap.size + 1, 0, none⟩ (.bool true)).from w2.heap.size, ?_, (KeepS.refl S V).set hSS _⟩
    rw [Sr.last_next hx, decide_eq_true (Nat.succ_pos j)]
    exact hfl.out
  case iter =>
    intro Bk X l V hBk hBlt hX hlw hD hB hY
    have hKV : KeepS S w2 V := ⟨hD.2.2.1.size, fun k hk => hD.2.2.1.block k (hSlt k hk) (fun e => by rcases e with e | e <;> subst e; exact hSN hk; exact hSS hk)⟩
    refine (taken_in f 2 (by omega) 1 l Bs Bf m c S w2 hSlt A zs hm hl hz hc (fun j V => Lst w2 w.heap.size j ((L.take j).getLastD 0) (decide (0 < j)) V ∧ Bk V) X ?_ V hSs hSf hBs2 hBf2 hKV hN2 ⟨hD, hB⟩).mono ?_
    · rintro j x V1 ⟨h1, h2⟩ hk hx
      rw [hL] at hx
      refine (hY j x V1 ⟨h1, hx⟩ h2 (by
        rcases Nat.lt_or_ge j L.length with h | h
        · exact h
        · rw [List.getElem?_eq_none h] at hx; cases hx)).mono ?_
      rintro e V2 (⟨rfl, hd, hkk, _⟩ | ⟨rfl, hx, _⟩)
      · exact .inl ⟨rfl, hd, hkk⟩
      · exact .inr ⟨rfl, hx⟩
    · rw [hL]
      rintro e V2 ⟨hv, ⟨h1, _⟩ | h⟩
      · exact ⟨hv, .inl h1⟩
      · exact ⟨hv, .inr h⟩
  case done =>
    rintro D V hD hLst hK
    rw [List.take_length, HB.out, HP.out, hm] at hLst
    have kN := hLst.1.cell
    have kS := hLst.2.1.cell
    have hbV : Below w.heap.size w V := hb2.trans (hLst.2.2.1.below (fun k hk => by rcases hk with h | h <;> omega) (by omega))
    have hfin := Lib.hid (fun q => (below_drewN hbV q).trans (below_put (B := w.heap.size) (V.drewN q) (.deferred none) (by omega : w.heap.size ≤ D)))
    have hKq : ∀ q, (V.drewN q).heap[D]? = some (.deferred (some [])) := fun _ => hK
    clear bN bS hb2 hLst hbV
    gi_wp2
    refine wpIn_wide.2 ?_
    go_quiet (fail)
    gi_wp2
    refine ⟨by simp, .inl ⟨_, _, rfl, run_takeDeferred (hKq nq), ?_⟩⟩
    exact ⟨_, results_tmp2 rfl _ _ _, rfl, hfin.out nq⟩
  case stop =>
    rintro D cd W' _ h _
    exact h.elim
theorem newest_any (m c : Nat) (A : Option Addr) (zs : List Int) (w : World) (hm : zs.length = m) (hl : m ≤ 1000000) (hz : Sr.U zs) (hc : m ≤ c) (hN : Nums .u32 w w.heap.size A zs) :
    Calls Try.prog 17 #[.slice A m c] w fun e w' => e = .returned (.tuple #[.int .u32 (Sr.bst true zs), .bool (decide (0 < m))]) ∧ Below w.heap.size w w' := by
  have K := taken_any A m c true w
  obtain ⟨w1, hw1⟩ : ∃ w1, w1 = (w.alloc (.cells #[.slice A m c] 29)).alloc (.cells #[stead true] 26) := ⟨_, rfl⟩
  rw [← hw1] at K
  have hs1 : w.heap.size + 1 < w1.heap.size := by rw [hw1]; simp
  have b0 : w1.cell? ⟨w.heap.size, 0, none⟩ = some (.slice A m c) := by rw [hw1]; exact ((Boxed.new w _ _).alloc _).cell
  have b1 : w1.cell? ⟨w.heap.size + 1, 0, none⟩ = some (stead true) := by
    rw [hw1]
    have := (Boxed.new (w.alloc (.cells #[.slice A m c] 29)) 26 (stead true)).cell
    rwa [World.size_alloc] at this
  have hb : Below w.heap.size w w1 := by rw [hw1]; exact ((Below.refl _ w).alloc (Nat.le_refl _) _).alloc (by simp) _
  have KL := Lib.hid (slast_any true w.heap.size (w.heap.size + 1) m c A zs w1 hm hl hz hc (by omega) hs1 b0 b1 ((hN.below hb).mono hb.size))
  clear hw1 b0 b1 hN
  go_enter Try.func17, Try.ntmps17
  go_wp2_with fail
  refine K.mono ?_
  rintro e w' ⟨rfl, rfl⟩
  go_wp2_with fail
  refine KL.out.mono ?_
  rintro e w' ⟨rfl, hb2⟩
  go_wp2
  go_ret2
  exact ⟨rfl, hb.trans (hb2.mono (by omega))⟩
theorem oldest_any (m c : Nat) (A : Option Addr) (zs : List Int) (w : World) (hm : zs.length = m) (hl : m ≤ 1000000) (hz : Sr.U zs) (hc : m ≤ c) (hN : Nums .u32 w w.heap.size A zs) :
    Calls Try.prog 18 #[.slice A m c] w fun e w' => e = .returned (.tuple #[.int .u32 (Sr.bst false zs), .bool (decide (0 < m))]) ∧ Below w.heap.size w w' := by
  have K := taken_any A m c false w
  obtain ⟨w1, hw1⟩ : ∃ w1, w1 = (w.alloc (.cells #[.slice A m c] 29)).alloc (.cells #[stead false] 26) := ⟨_, rfl⟩
  rw [← hw1] at K
  have hs1 : w.heap.size + 1 < w1.heap.size := by rw [hw1]; simp
  have b0 : w1.cell? ⟨w.heap.size, 0, none⟩ = some (.slice A m c) := by rw [hw1]; exact ((Boxed.new w _ _).alloc _).cell
  have b1 : w1.cell? ⟨w.heap.size + 1, 0, none⟩ = some (stead false) := by
    rw [hw1]
    have := (Boxed.new (w.alloc (.cells #[.slice A m c] 29)) 26 (stead false)).cell
    rwa [World.size_alloc] at this
  have hb : Below w.heap.size w w1 := by rw [hw1]; exact ((Below.refl _ w).alloc (Nat.le_refl _) _).alloc (by simp) _
  have KL := Lib.hid (slast_any false w.heap.size (w.heap.size + 1) m c A zs w1 hm hl hz hc (by omega) hs1 b0 b1 ((hN.below hb).mono hb.size))
  clear hw1 b0 b1 hN
  go_enter Try.func18, Try.ntmps18
  go_wp2_with fail
  refine K.mono ?_
  rintro e w' ⟨rfl, rfl⟩
  go_wp2_with fail
  refine KL.out.mono ?_
  rintro e w' ⟨rfl, hb2⟩
  go_wp2
  go_ret2
  exact ⟨rfl, hb.trans (hb2.mono (by omega))⟩
end Go.Proofs.Ytjcnkalgbhlafaa
