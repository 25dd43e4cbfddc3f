/-
  A part of the texts of one proof, put together: BdyDe, SamA, BdyKn, BdyLv, BdyI, BdyJ, BdyJt, BdyJu, BdyJv, BdyRd, Q18, BdyRd1.
-/
import Derived.Test.YtlbfibnfmijahaaGreatMTuTurnsProof6
namespace Go.Proofs.YtlbfibnfmijahaaGreat
open Go.RowKit Go.Shelf
set_option maxRecDepth 100000
attribute [local go_sem] Oper.semAt_some

/-- what Decode answers -/
def DecR (w : World) (r : Nat × Mg) (e : Ending) (w' : World) : Prop := ∃ x, e = .returned (.tuple #[x, .int .i64 (r.1 : Int)]) ∧ FMs r.2 x w' ∧ Below w.heap.size w w'
/-- .. whose lists are the call's own -/
def DecO (w : World) (r : Nat × Mg) (e : Ending) (w' : World) : Prop := ∃ P C, e = .returned (.tuple #[mV r.2 P C, .int .i64 (r.1 : Int)]) ∧ MOwn w.heap.size w' r.2 P C ∧ Below w.heap.size w w'
theorem MOwn.zero (base : Nat) (w : World) (k : Int) : MOwn base w (Mg.zero k) (.slice none 0 0) (.slice none 0 0) := ⟨World.ownsRow_nil _ _ _ _, World.ownsRow_nil _ _ _ _⟩
theorem mC_zero (k : Int) : mC (Mg.zero k) (.slice none 0 0) (.slice none 0 0) = #[.int .i64 k, .int .i64 0, .int .i64 0, .int .i64 0, .int .i64 0, .int .i64 0, .int .i64 0, .slice none 0 0, .slice none 0 0, .string ⟨#[]⟩, .string ⟨#[]⟩] := rfl
theorem MAt.zero (w : World) (B : Nat) (k : Int) : MAt w B (Mg.zero k) (.slice none 0 0) (.slice none 0 0) := ⟨⟨none, 0, rfl, Nat.le_refl _, Nums.nil⟩, ⟨none, 0, rfl, Nat.le_refl _, Nums.nil⟩⟩
set_option maxHeartbeats 4000000 in
/-- of a version or a kind that isn't -/
theorem bdecode_no (k v : Int) (A : Option Addr) (len cap : Nat) (l : List Int) (w : World) (hE : (v ≠ 1 ∧ v ≠ 2) ∨ FD k = []) : Calls Tryz.prog 38 #[.int .i64 k, .int .i64 v, .slice A len cap] w fun e w' => DecO w (bdec k v l) e w' := by
  obtain ⟨w2, hw2⟩ : ∃ w2, w.alloc (.cells #[.int .i64 0, .int .i64 0, .int .i64 0, .int .i64 0, .int .i64 0, .int .i64 0, .int .i64 0, .slice none 0 0, .slice none 0 0, .string ⟨#[]⟩, .string ⟨#[]⟩] 26) = w2 := ⟨_, rfl⟩
  have hb2 : Below w.heap.size w w2 := by rw [← hw2]; exact (Below.refl _ w).alloc (Nat.le_refl _) _
  have q0 : w2.heap[w.heap.size]? = some (.cells (mC (Mg.zero 0) (.slice none 0 0) (.slice none 0 0)) 26 (0, 0)) := by rw [← hw2]; exact World.alloc_heap_new _ _
  have HW2 := Lib.hid hw2
  have KK := Lib.hid (bknown_any v w2)
  have KW := Lib.hid (word_any k w2)
  have hst := mg_store w2 w.heap.size _ (mC (Mg.zero 0) (.slice none 0 0) (.slice none 0 0)) q0 rfl rfl (mg_one _ _ _ _ _ _ _)
  have hrow := setRow_heap w2 w.heap.size _ (mC (Mg.zero 0) (.slice none 0 0) (.slice none 0 0)) _ _ q0
  have hoff := (Off.setRow (S := fun q => q = w.heap.size) (Off.refl _ w2) rfl (mC (Mg.zero 0) (.slice none 0 0) (.slice none 0 0)))
  obtain ⟨W', hW'⟩ : ∃ W', w2.setRow w.heap.size (mC (Mg.zero 0) (.slice none 0 0) (.slice none 0 0)) = W' := ⟨_, rfl⟩
  rw [hW'] at hst hrow hoff
  have hbel : Below w.heap.size w W' := hb2.trans (hoff.below (B := w.heap.size) (fun q hq => by omega) hb2.size)
  rw [mC_zero] at hst
  have HST := Lib.hid hst
  have HRW := Lib.hid hrow
  have HBE := Lib.hid hbel
  clear hw2 q0 hst hrow hoff hW' hb2 hbel
  by_cases hv : v = 1 ∨ v = 2
  · have hk : FD k = [] := by
      rcases hE with h | h
      · omega
      · exact h
    have hr : bdec k v l = (9, Mg.zero 0) := by unfold bdec; rw [if_neg (by omega), if_pos hk]
    rw [hr]
    rw [decide_eq_true hv] at KK
    rw [(FD_nil k).1 hk] at KW
    go_enter Tryz.func38, Tryz.ntmps38
    go_wp2
    refine wp_scope_straight ?_
    go_wp2_with fail
    rw [HW2.out]
    refine KK.out.mono ?_
    rintro e w3 ⟨rfl, rfl⟩
    go_wp2_with fail
    refine KW.out.mono ?_
    rintro e w3 ⟨rfl, rfl⟩
    go_wp2_with (refine wpList_store_run rfl 26 (.tmp 6) (.tmp 22) rfl (some ⟨w.heap.size, 0, none⟩) rfl (.agg #[.int .i64 0, .int .i64 0, .int .i64 0, .int .i64 0, .int .i64 0, .int .i64 0, .int .i64 0, .slice none 0 0, .slice none 0 0, .string ⟨#[]⟩, .string ⟨#[]⟩]) rfl HST.out ?_)
    try simp only [Exit.noGoto]
    obtain ⟨y0, y1, y2, y3, y4, y5, y6, y7, y8, y9, y10⟩ := mg_block HRW.out
    refine bodyPost_ret (v := .tuple #[.agg (mC (Mg.zero 0) (.slice none 0 0) (.slice none 0 0)), .int .i64 9]) (by simp [results, Tryz.results38, go_sem, y0, y1, y2, y3, y4, y5, y6, y7, y8, y9, y10, mC]) rfl ?_
    exact ⟨_, _, rfl, MOwn.zero _ _ _, HBE.out⟩
  · have hr : bdec k v l = (10, Mg.zero 0) := by unfold bdec; rw [if_pos (by omega)]
    rw [hr]
    rw [decide_eq_false hv] at KK
    go_enter Tryz.func38, Tryz.ntmps38
    go_wp2
    refine wp_scope_straight ?_
    go_wp2_with fail
    rw [HW2.out]
    refine KK.out.mono ?_
    rintro e w3 ⟨rfl, rfl⟩
    go_wp2_with (refine wpList_store_run rfl 26 (.tmp 6) (.tmp 17) rfl (some ⟨w.heap.size, 0, none⟩) rfl (.agg #[.int .i64 0, .int .i64 0, .int .i64 0, .int .i64 0, .int .i64 0, .int .i64 0, .int .i64 0, .slice none 0 0, .slice none 0 0, .string ⟨#[]⟩, .string ⟨#[]⟩]) rfl HST.out ?_)
    try simp only [Exit.noGoto]
    obtain ⟨y0, y1, y2, y3, y4, y5, y6, y7, y8, y9, y10⟩ := mg_block HRW.out
    refine bodyPost_ret (v := .tuple #[.agg (mC (Mg.zero 0) (.slice none 0 0) (.slice none 0 0)), .int .i64 10]) (by simp [results, Tryz.results38, go_sem, y0, y1, y2, y3, y4, y5, y6, y7, y8, y9, y10, mC]) rfl ?_
    exact ⟨_, _, rfl, MOwn.zero _ _ _, HBE.out⟩
theorem FD_mo1 (k : Int) : ∀ f ∈ FD k, f.so = 1 → 0 ≤ f.mo := by
  have hall : ∀ L : List Fd, (L.all fun f => decide (f.so = 1 → 0 ≤ f.mo)) = true → ∀ f ∈ L, (f.so = 1 → 0 ≤ f.mo) := by
    intro L h f hf
    rw [List.all_eq_true] at h
    exact of_decide_eq_true (h f hf)
  rcases kind_ways k with rfl | rfl | rfl | rfl | rfl | ⟨h1, h2, h3, h4, h5⟩
  case' inr.inr.inr.inr.inr => rw [show FD k = [] by simp [FD, raw, h1, h2, h3, h4, h5, pls]]
  all_goals exact hall _ (by decide)
theorem setCell_same {w : World} {b : Nat} {v : Value} {t : TypeId} (h : w.heap[b]? = some (.cells #[v] t (0, 0))) : w.setCell ⟨b, 0, none⟩ v = w := by
  have hlt := (Array.getElem?_eq_some_iff.1 h).1
  have : (w.setCell ⟨b, 0, none⟩ v).heap = w.heap := by
    apply Array.ext_getElem?
    intro i
    by_cases hi : i = b
    · subst hi
      rw [setCell_at h, h]
      rfl
    · exact Below.heap_setCell _ _ _ _ hi
  cases w
  simp only [World.setCell] at this ⊢
  rw [this]
theorem NuX.putObj {W : World} {mb lb l : Nat} {a : Option Addr} {zs : List Int} {o o' : Obj} (h : NuX W mb lb a zs) (ho : W.heap[l]? = some o) (hc : o.isCells = false) : NuX (W.putObj l o') mb lb a zs := fun hn => by
  obtain ⟨b, off, e, h1, h2, hcl⟩ := h hn
  obtain ⟨z, hz⟩ : ∃ z, zs[0]? = some z := by
    cases zs with
    | nil => exact absurd rfl hn
    | cons x r => exact ⟨x, rfl⟩
  have hne : b ≠ l := fun e2 => by
    subst e2
    have := hcl 0 z hz
    unfold World.cell? at this
    simp only [ho] at this
    cases o <;> simp_all [Obj.isCells]
  refine ⟨b, off, e, h1, h2, fun j c hj => ?_⟩
  have hx : (W.putObj l o').heap[b]? = W.heap[b]? := World.putObj_heap_other hne
  rw [← hcl j c hj]
  simp only [World.cell?, hx]
theorem RdAt.putObj {lo mb lb l : Nat} {W : World} {zs : List Int} {N : Mg} {P C : Value} {p e : Nat} {o o' : Obj} (h : RdAt lo W mb lb zs N P C p e) (hl : mb < l) (ho : W.heap[l]? = some o) (hc : o.isCells = false) : RdAt lo (W.putObj l o') mb lb zs N P C p e := by
  obtain ⟨⟨a, c, h1, h2, h3⟩, ⟨a', c', h4, h5, h6⟩⟩ := And.intro h.p h.c
  have ha := h.a
  have hoff : Off (fun k => k = l) W (W.putObj l o') := ⟨rfl, rfl, rfl, by simp [World.putObj], fun k _ hn => World.putObj_heap_other hn⟩
  exact ⟨(World.putObj_heap_other (by omega)).trans h.m, h.l.off hoff (fun k _ hk => by omega), h.a, ⟨a, c, h1, h2, h3.putObj ho hc⟩, ⟨a', c', h4, h5, h6.putObj ho hc⟩, h.pz, h.cz⟩
/-- while fields are read: so many have been -/
def DcI (w6 : World) (lo mb lb qe : Nat) (zs : List Int) (FL : List Fd) (k : Int) (j : Nat) (V : World) : Prop := ∃ (N : Mg) (P C : Value) (p : Nat), RdAt lo V mb lb zs N P C p 0 ∧ V.heap[qe]? = some (.cells #[.int .i64 0] 29 (0, 0)) ∧ Off (fun q => q = mb ∨ q = lb ∨ q = qe) w6 V ∧
  Msm N ∧ Flds (FL.drop j) N ∧ rdL FL (Mg.zero k) zs = ((rdL (FL.drop j) N (zs.drop p)).1, p + (rdL (FL.drop j) N (zs.drop p)).2.1, (rdL (FL.drop j) N (zs.drop p)).2.2)
section
variable {w6 V V' : World} {lo mb lb qe : Nat} {zs : List Int} {FL : List Fd} {k : Int} {j : Nat}
theorem DcI.later (h : DcI w6 lo mb lb qe zs FL k j V) (hb : Below V.heap.size V V') : DcI w6 lo mb lb qe zs FL k j V' := by
  obtain ⟨N, P, C, p, h1, h2, h3, h4, h5, h6⟩ := h
  exact ⟨N, P, C, p, h1.later hb, (hb.block _ (Array.getElem?_eq_some_iff.1 h2).1).trans h2, h3.trans (Off.of_below (S := fun _ => False) hb) (fun _ _ h => h.elim), h4, h5, h6⟩
theorem DcI.putObj {l : Nat} {o o' : Obj} (h : DcI w6 lo mb lb qe zs FL k j V) (hl : w6.heap.size ≤ l) (hm : mb < w6.heap.size) (hq : qe < w6.heap.size) (ho : V.heap[l]? = some o) (hc : o.isCells = false) : DcI w6 lo mb lb qe zs FL k j (V.putObj l o') := by
  obtain ⟨N, P, C, p, h1, h2, h3, h4, h5, h6⟩ := h
  have hoff : Off (fun k => k = l) V (V.putObj l o') := ⟨rfl, rfl, rfl, by simp [World.putObj], fun k _ hn => World.putObj_heap_other hn⟩
  exact ⟨N, P, C, p, h1.putObj (by omega) ho hc, (World.putObj_heap_other (by omega)).trans h2, h3.trans hoff (fun _ _ e => by omega), h4, h5, h6⟩
end
theorem off3_kf {V W : World} {a b c s : Nat} {c1 c2 c3 : Array Value} {t1 t2 t3 : TypeId} (h : Off (fun q => q = a ∨ q = b ∨ q = c) V W) (h1 : V.heap[a]? = some (.cells c1 t1 (0, 0))) (h2 : V.heap[b]? = some (.cells c2 t2 (0, 0))) (h3 : V.heap[c]? = some (.cells c3 t3 (0, 0))) : KeepsFrom s V W := ⟨h.size, fun q o _ hq hc => (h.block q (Array.getElem?_eq_some_iff.1 hq).1 (by
  rintro (rfl | rfl | rfl)
  · rw [h1] at hq; injection hq with hq; subst hq; cases hc
  · rw [h2] at hq; injection hq with hq; subst hq; cases hc
  · rw [h3] at hq; injection hq with hq; subst hq; cases hc)).trans hq⟩
theorem off3_ket {V W : World} {a b c lo : Nat} {c1 c2 c3 : Array Value} (h : Off (fun q => q = a ∨ q = b ∨ q = c) V W) (h1 : V.heap[a]? = some (.cells c1 26 (0, 0))) (h2 : V.heap[b]? = some (.cells c2 145 (0, 0))) (h3 : V.heap[c]? = some (.cells c3 29 (0, 0))) : KeT 87 3 lo V W := ⟨h.size, fun q cs t _ ht hq => h.block q (Array.getElem?_eq_some_iff.1 hq).1 (by
  have e1 := fun e : t ≠ 26 => row_ne hq h1 e
  have e2 := fun e : t ≠ 145 => row_ne hq h2 e
  have e3 := fun e : t ≠ 29 => row_ne hq h3 e
  rcases ht with rfl | rfl
  · have := e1 (by decide); have := e2 (by decide); have := e3 (by decide); omega
  · have := e1 (by decide); have := e2 (by decide); have := e3 (by decide); omega)⟩
theorem rdL_step (f : Fd) (r : List Fd) (M : Mg) (l : List Int) : rdL (f :: r) M l = if (rdF M f l).1 ≠ 0 then ((rdF M f l).1, 0, M) else ((rdL r (rdF M f l).2.2 (l.drop (rdF M f l).2.1)).1, (rdF M f l).2.1 + (rdL r (rdF M f l).2.2 (l.drop (rdF M f l).2.1)).2.1, (rdL r (rdF M f l).2.2 (l.drop (rdF M f l).2.1)).2.2) := rfl
theorem rdF_small {f : Fd} (hf : FdX f) {N N' : Mg} (h : fE N' f = 0) (hc : N' = cp N N' f) (hs : Msm N) : Msm N' := by
  unfold cp at hc
  unfold fE at h
  by_cases h3 : f.so = 3
  · rw [if_pos h3] at hc h
    obtain ⟨-, h2, -⟩ := wP_zero h
    have := hf.mo.1 h3
    rw [hc]
    exact ⟨by show N'.p.length ≤ 40; omega, hs.c, hs.tx, hs.tg⟩
  rw [if_neg h3] at hc h
  by_cases h4 : f.so = 4
  · rw [if_pos h4] at hc h
    obtain ⟨-, h2, -⟩ := wC_zero h
    have := hf.mo.2.1 h4
    rw [hc]
    exact ⟨hs.p, by show N'.c.length ≤ 40; omega, hs.tx, hs.tg⟩
  rw [if_neg h4] at hc h
  by_cases h5 : f.so = 5
  · rw [if_pos h5] at hc h
    obtain ⟨h2, -⟩ := wT_zero h
    have := hf.mo.2.2.1 h5
    rw [hc]
    exact ⟨hs.p, hs.c, by show N'.tx.size ≤ 80; omega, hs.tg⟩
  rw [if_neg h5] at hc h
  by_cases h6 : f.so = 6
  · rw [if_pos h6] at hc h
    obtain ⟨h2, -⟩ := wT_zero h
    have := hf.mo.2.2.2 h6
    rw [hc]
    exact ⟨hs.p, hs.c, hs.tx, by show N'.tg.size ≤ 80; omega⟩
  rw [if_neg h6] at hc
  rw [hc]
  exact ⟨by rw [Mg.put_p]; exact hs.p, by rw [Mg.put_c]; exact hs.c, by rw [Mg.put_tx]; exact hs.tx, by rw [Mg.put_tg]; exact hs.tg⟩
set_option maxHeartbeats 16000000 in
theorem bdecode_yes (k v : Int) (A : Option Addr) (len cap : Nat) (zs : List Int) (w : World) (hlen : zs.length = len) (hll : len ≤ 1000000) (hby : Bys zs) (hA : Nums .u8 w w.heap.size A zs) (hv : v = 1 ∨ v = 2) (hk : FD k ≠ []) : Calls Tryz.prog 38 #[.int .i64 k, .int .i64 v, .slice A len cap] w fun e w' => DecO w (bdec k v zs) e w' := by
  obtain ⟨w2, hw2⟩ : ∃ w2, w.alloc (.cells #[.int .i64 0, .int .i64 0, .int .i64 0, .int .i64 0, .int .i64 0, .int .i64 0, .int .i64 0, .slice none 0 0, .slice none 0 0, .string ⟨#[]⟩, .string ⟨#[]⟩] 26) = w2 := ⟨_, rfl⟩
  have hb2 : Below w.heap.size w w2 := by rw [← hw2]; exact (Below.refl _ w).alloc (Nat.le_refl _) _
  have q0 : w2.heap[w.heap.size]? = some (.cells (mC (Mg.zero 0) (.slice none 0 0) (.slice none 0 0)) 26 (0, 0)) := by rw [← hw2]; exact World.alloc_heap_new _ _
  have HW2 := Lib.hid hw2
  have hlt0 := (Array.getElem?_eq_some_iff.1 q0).1
  have KK := Lib.hid (bknown_any v w2)
  have KW := Lib.hid (word_any k w2)
  rw [decide_eq_true hv] at KK
  have hwk : wd k ≠ ⟨#[]⟩ := fun e => hk ((FD_nil k).2 e)
  have hwne := str_nil hwk
  have hwn2 : (wd k).toList.isEmpty = false := by simpa using hwne
  have KL := Lib.hid (lnew_any A len cap zs w2 hlen (by omega) ((hA.below hb2).mono hb2.size))
  obtain ⟨R, hR⟩ : ∃ R, bdec k v zs = R := ⟨_, rfl⟩
  rw [hR]
  unfold bdec at hR
  rw [if_neg (by omega), if_neg hk] at hR
  have HR := Lib.hid hR
  have HB2 := Lib.hid hb2
  have HQ0 := Lib.hid q0
  have HBY := Lib.hid hby
  have HLEN := Lib.hid hlen
  clear hR hw2 hb2 q0 hA hby hlen
  refine (callsIn_wide (n := 9)).1 ?_
  refine callsIn_of_wp_marks Tryz.func38 rfl trivial ?_ rfl
  simp only [Tryz.ntmps38, List.size_toArray, List.length_cons, List.length_nil, Nat.reduceAdd, Nat.reduceSub, Array.replicate_succ, Array.replicate_zero, List.push_toArray, List.append_toArray, List.nil_append, List.cons_append]
  gi_wp2_with fail
  refine wpIn_wide.2 (wp_scope_straight ((wpIn_wide (n := 9)).1 ?_))
  gi_wp2_with fail
  rw [HW2.out]
  refine ⟨trivial, (callsIn_wide.2 KK.out).mono ?_⟩
  rintro e w3 ⟨rfl, rfl⟩
  gi_wp2_with fail
  refine ⟨trivial, (callsIn_wide.2 KW.out).mono ?_⟩
  rintro e w3 ⟨rfl, rfl⟩
  clear KW KK
  gi_wp2_with fail
  refine ⟨trivial, (callsIn_wide.2 KL.out).mono ?_⟩
  rintro e w3 ⟨lb, rfl, hl3, hb3⟩
  clear KL
  gi_wp2_with fail
  obtain ⟨w5, hw5⟩ : ∃ w5, ((w3.alloc (.cells #[.int .i64 k, .int .i64 0, .int .i64 0, .int .i64 0, .int .i64 0, .int .i64 0, .int .i64 0, .slice none 0 0, .slice none 0 0, .string ⟨#[]⟩, .string ⟨#[]⟩] 26)).alloc (.cells #[.pointer (some ⟨lb, 0, none⟩)] 117)).alloc (.cells #[.int .i64 0] 29) = w5 := ⟨_, rfl⟩
  have hs3 := hb3.size
  have hlb3 := hl3.lt
  have hlbo := hl3.lo_le
  obtain ⟨mb, hmb⟩ : ∃ mb, w3.heap.size = mb := ⟨_, rfl⟩
  obtain ⟨hb4, m4, r4, hs4⟩ := two_rows (W := w3) (c1 := #[.int .i64 k, .int .i64 0, .int .i64 0, .int .i64 0, .int .i64 0, .int .i64 0, .int .i64 0, .slice none 0 0, .slice none 0 0, .string ⟨#[]⟩, .string ⟨#[]⟩]) (t1 := 26) (c2 := #[.pointer (some ⟨lb, 0, none⟩)]) (t2 := 117)
  obtain ⟨w4, hw4⟩ : ∃ w4, (w3.alloc (.cells #[.int .i64 k, .int .i64 0, .int .i64 0, .int .i64 0, .int .i64 0, .int .i64 0, .int .i64 0, .slice none 0 0, .slice none 0 0, .string ⟨#[]⟩, .string ⟨#[]⟩] 26)).alloc (.cells #[.pointer (some ⟨lb, 0, none⟩)] 117) = w4 := ⟨_, rfl⟩
  rw [hw4] at hb4 m4 r4 hs4
  have hb45 : Below w4.heap.size w4 w5 := by rw [← hw5, hw4]; exact (Below.refl _ w4).alloc (Nat.le_refl _) _
  have e5 : w5.heap[w4.heap.size]? = some (.cells #[.int .i64 0] 29 (0, 0)) := by rw [← hw5, hw4]; exact World.alloc_heap_new _ _
  have m5 := (hb45.block _ (Array.getElem?_eq_some_iff.1 m4).1).trans m4
  have r5 := (hb45.block _ (Array.getElem?_eq_some_iff.1 r4).1).trans r4
  have hb35 := hb4.trans (hb45.mono (by omega))
  have hl5 := hl3.below hb35
  rw [hs4, hmb] at e5
  have e5 : w5.heap[mb + 1 + 1]? = some (.cells #[.int .i64 0] 29 (0, 0)) := e5
  rw [hmb] at m5 r5 hlb3 hs3 ⊢
  have hR5 : RdAt w2.heap.size w5 mb lb zs (Mg.zero k) (.slice none 0 0) (.slice none 0 0) 0 0 := ⟨m5, hl5, hlb3, ⟨none, 0, rfl, Nat.le_refl _, fun h => absurd rfl h⟩, ⟨none, 0, rfl, Nat.le_refl _, fun h => absurd rfl h⟩, fun _ => rfl, fun _ => rfl⟩
  have hs5 : mb + 1 + 1 < w5.heap.size := (Array.getElem?_eq_some_iff.1 e5).1
  have hb05 : Below w.heap.size w w5 := HB2.out.trans ((hb3.trans (hb35.mono (by omega))).mono (by omega))
  have q5 := (hb35.block _ (by omega)).trans ((hb3.block _ hlt0).trans HQ0.out)
  have HW5 := Lib.hid hw5
  have HR5 := Lib.hid hR5
  have HE5 := Lib.hid e5
  have HP5 := Lib.hid r5
  have HQ5 := Lib.hid q5
  have HB05 := Lib.hid hb05
  clear hw5 hR5 e5 r5 q5 hb05 m5 hl5 hb35 hb45 hb4 m4 r4 hs4 hw4 hb3 hl3 HQ0 HB2
  rw [HW5.out]
  clear HW5
  apply wpIn_label
  gi_wp2_with fail
  refine ⟨trivial, (callsIn_wide.2 (fall_any k v w5)).mono ?_⟩
  rintro e w6 ⟨rfl, hg0, hg1, hb6⟩
  have hs6 := (Array.getElem?_eq_some_iff.1 hg1).1
  have hR6 := HR5.out.later hb6
  have e6 := (hb6.block _ hs5).trans HE5.out
  have HP6 := Lib.hid ((hb6.block _ (by omega)).trans HP5.out)
  have HQ6 := Lib.hid ((hb6.block _ (by omega)).trans HQ5.out)
  have HB06 := Lib.hid (HB05.out.trans (hb6.mono HB05.out.size))
  have HFX := Lib.hid (show ∀ f ∈ FDv k v, f.so = 1 → 0 ≤ f.mo from fun f hf => FD_mo1 k f (FDv_sub hf))
  have hfl := FDv_flds k v
  have hsm0 : Msm (Mg.zero k) := ⟨by simp [Mg.zero], by simp [Mg.zero], by show (ByteArray.mk #[]).size ≤ 80; decide, by show (ByteArray.mk #[]).size ≤ 80; decide⟩
  obtain ⟨FL, hFL⟩ : ∃ FL, FDv k v = FL := ⟨_, rfl⟩
  rw [hFL] at HR HFX hfl
  have HFL := Lib.hid hFL
  have hD0 : DcI w6 w2.heap.size mb lb (mb + 1 + 1) zs FL k 0 w6 := ⟨Mg.zero k, _, _, 0, hR6, e6, Off.refl _ _, hsm0, by rw [List.drop_zero]; exact hfl, by simp⟩
  clear hR6 e6 hb6 hFL hfl hsm0 HR5 HE5 HP5 HQ5 HB05
  gi_wp2_with fail
  refine range_stopb rfl (by omega) (gf := 51) (lb := #[.pointer (some ⟨w5.heap.size, 0, none⟩), .pointer (some ⟨w5.heap.size + 1, 0, none⟩)]) rfl trivial (enters_of Tryz.func51 (by kernel_rfl) rfl)
    (fun f : Fd => #[f.v]) (fun _ => rfl)
    (fun j f V => FL[j]? = some f ∧ DcI w6 w2.heap.size mb lb (mb + 1 + 1) zs FL k j V)
    (fun j f q V => (FL[j]? = some f ∧ DcI w6 w2.heap.size mb lb (mb + 1 + 1) zs FL k j V) ∧ w6.heap.size ≤ q ∧ V.heap[q]? = some (.cells f.cs 87 (0, 0)))
    (fun j V => DcI w6 w2.heap.size mb lb (mb + 1 + 1) zs FL k j V)
    (fun cd V => cd = .exit 1 ∧ ∃ E : Nat, E ≠ 0 ∧ (rdL FL (Mg.zero k) zs).1 = E ∧ V.heap[mb + 1 + 1]? = some (.cells #[.int .i64 (E : Int)] 29 (0, 0)) ∧ Off (fun q => q = mb ∨ q = lb ∨ q = mb + 1 + 1) w6 V)
    (KeT 87 3 w5.heap.size) FL.length
    (fun j f q V l o o' h hl ho hc' => ⟨⟨h.1.1, h.1.2.putObj hl (by omega) (by omega) ho hc'⟩, h.2.1, (World.putObj_heap_other (fun e => by subst e; rw [h.2.2] at ho; injection ho with ho; subst ho; cases hc')).trans h.2.2⟩)
    (fun j V l o o' h hl ho hc' => h.putObj hl (by omega) (by omega) ho hc')
    (fun cd V l o o' h hl ho hc' => by
      obtain ⟨h1, E, h2, h3, h4, h5⟩ := h
      have hoff : Off (fun k => k = l) V (V.putObj l o') := ⟨rfl, rfl, rfl, by simp [World.putObj], fun k _ hn => World.putObj_heap_other hn⟩
      exact ⟨h1, E, h2, h3, (World.putObj_heap_other (by omega)).trans h4, h5.trans hoff (fun _ _ e => by omega)⟩)
    (fun _ _ _ h k => h.trans k) (fun V l o o' hl ho hc' => KeT.putObj ho hc')
    (fun o => (hD0.later ((Below.refl _ w6).alloc (Nat.le_refl _) _)).later ((Below.refl _ _).alloc (Nat.le_refl _) _)) ?round ?iter ?done ?stop
  case round =>
    rintro l j f V K ⟨hf, hC⟩ hj hK
    have HK := Lib.hid hK
    have hsz : w6.heap.size ≤ V.heap.size := by
      obtain ⟨_, _, _, _, _, _, h3, _⟩ := hC
      exact h3.size
    clear hK
    unfold Fd.v Fd.cs
    gi_wp2_with fail
    refine HK.out _ V.heap.size _ ⟨⟨hf, hC.later ((Below.refl _ V).alloc (Nat.le_refl _) _)⟩, hsz, World.alloc_heap_new _ _⟩ ⟨by simp, fun q o _ ho _ => (Below.heap_alloc _ _ _ (Array.getElem?_eq_some_iff.1 ho).1).trans ho⟩ (KeT.of_below ((Below.refl _ V).alloc (Nat.le_refl _) _)) ?_
    clear HK hC
    rintro l V2 hl ⟨⟨_, hC⟩, hq, hc⟩
    obtain ⟨qb, hqb⟩ : ∃ qb, V.heap.size = qb := ⟨_, rfl⟩
    rw [hqb] at hq hc ⊢
    clear hqb hD0
    obtain ⟨N, P, C, p, h1, h2, h3, hsm, h4, h5⟩ := hC
    have hd : FL.drop j = f :: FL.drop (j + 1) := by
      obtain ⟨hlt, he⟩ := List.getElem?_eq_some_iff.1 hf
      rw [List.drop_eq_getElem_cons hlt, he]
    rw [hd] at h4 h5
    have hfx := h4.fdx f (List.mem_cons_self ..)
    have hfp := h4.p f (List.mem_cons_self ..)
    have hfc := h4.c f (List.mem_cons_self ..)
    have KR := reader_any w2.heap.size mb lb zs N P C p f V2 h1 hfx (HFX.out f (List.mem_of_getElem? hf)) hfp hfc (by rw [HLEN.out]; omega) HBY.out
    have hst := rdL_step f (FL.drop (j + 1)) N (zs.drop p)
    have hok : ∀ u N', rdF N f (zs.drop p) = (0, u, N') → fE N' f = 0 ∧ N' = cp N N' f := fun u N' h => (rdFld_ok hfx (HBY.out.drop p) hfp hfc h).2.2
    unfold RdrR at KR
    obtain ⟨⟨E, u, N'⟩, hrd⟩ : ∃ r, rdF N f (zs.drop p) = r := ⟨_, rfl⟩
    rw [hrd] at KR hst hok
    simp only at hst
    rw [hst] at h5
    have r9 := (h3.block _ (by omega) (by omega)).trans HP6.out
    have k9 := row_cell r9 0 _ rfl
    obtain ⟨_, _, hbl, -⟩ := h1.l.open
    have LF : Hid ((Instr.loadAt 87 (.pointer (some ⟨qb, 0, none⟩))).run Tryz.prog V2 = .ok f.v V2) := by
      obtain ⟨t0, t1, t2, t3, t4, t5, t6⟩ := fd_block hc
      exact Lib.hid (by simp [Instr.loadAt, go_sem, t0, t1, t2, t3, t4, t5, t6, Fd.v, Fd.cs])
    have HM := Lib.hid h1.m
    have HBL := Lib.hid hbl
    have HEQ := Lib.hid h2
    have HOF := Lib.hid h3
    have HST := Lib.hid h5
    have HFL4 := Lib.hid h4
    have HOK := Lib.hid hok
    have HSM := Lib.hid hsm
    have HFD := Lib.hid hfx
    have KR := Lib.hid KR
    have hlbm := h1.a
    have hV2 := h3.size
    clear h1 h2 h3 h4 h5 hst hok hsm hfp hfc hd hf hrd hbl r9 hfx hc
    gi_wp2_with (refine wpListIn_load_run rfl 87 (.tmp 11) rfl (some ⟨qb, 0, none⟩) rfl f.v LF.out ?_)
    refine ⟨trivial, ((callsIn_wide.2 KR.out).inRound l).mono ?_⟩
    rintro e V3 ⟨F, c1, c2, rfl, hent, hb3, hcall⟩
    have hs3 := hb3.size
    have k9 := (hb3.cell (p := ⟨mb + 1, 0, none⟩) (by show mb + 1 < _; omega)).trans k9
    have HCALL := Lib.hid hcall
    clear hcall KR hb3
    gi_wp2_with fail
    refine ⟨trivial, ((callsIn_wide.2 HCALL.out).inRound l).mono ?_⟩
    rintro e V4 ⟨rfl, ho4, hok4⟩
    simp only at hok4 ⊢
    have hV4 := ho4.size
    have m4 := HM.out
    have e4 := (ho4.block _ (Array.getElem?_eq_some_iff.1 HEQ.out).1 (by omega)).trans HEQ.out
    have k4 := row_cell e4 0 _ rfl
    have z4 := frozen_of_row V4 (mb + 1 + 1) 0 _ _ e4
    have ho3 : Off (fun q => q = mb ∨ q = lb ∨ q = mb + 1 + 1) V2 V4 := ho4.mono fun j _ h => by omega
    clear HCALL m4
    by_cases hE : E = 0
    · subst hE
      obtain ⟨P', C', hR'⟩ := hok4 rfl
      obtain ⟨hfe, hcp⟩ := HOK.out u N' rfl
      have hst := HST.out
      rw [if_neg (by simp)] at hst
      simp only [List.drop_drop] at hst
      have HJ : Hid (DcI w6 w2.heap.size mb lb (mb + 1 + 1) zs FL k (j + 1) V4) := Lib.hid ⟨N', P', C', p + u, hR', e4, HOF.out.trans ho3 (fun _ _ h => h), rdF_small HFD.out hfe hcp HSM.out, by rw [hcp]; exact HFL4.out.next N', by rw [hst]; simp only [Nat.add_assoc]⟩
      have HKF := Lib.hid (off3_kf (s := w6.heap.size) ho3 HM.out HBL.out HEQ.out)
      have HKE := Lib.hid (off3_ket (lo := w5.heap.size) ho3 HM.out HBL.out HEQ.out)
      have HSA := Lib.hid (setCell_same e4)
      clear hok4 hR' ho4 ho3 hst hfe hcp e4
      rw [show ((0 : Nat) : Int) = 0 from rfl]
      gi_wp2
      rw [HSA.out]
      exact ⟨HKF.out, HJ.out, HKE.out⟩
    · have hEn : ((E : Int) != 0) = true := by simpa using hE
      have hst := HST.out
      rw [if_pos hE] at hst
      have ho5 : Off (fun q => q = mb ∨ q = lb ∨ q = mb + 1 + 1) V2 (V4.setCell ⟨mb + 1 + 1, 0, none⟩ (.int .i64 (E : Int))) := ho3.setCell (p := ⟨mb + 1 + 1, 0, none⟩) (.inr (.inr rfl)) _
      have HKF := Lib.hid (off3_kf (s := w6.heap.size) ho5 HM.out HBL.out HEQ.out)
      have HX : Hid (∃ E' : Nat, E' ≠ 0 ∧ (rdL FL (Mg.zero k) zs).1 = E' ∧ (V4.setCell ⟨mb + 1 + 1, 0, none⟩ (.int .i64 (E : Int))).heap[mb + 1 + 1]? = some (.cells #[.int .i64 (E' : Int)] 29 (0, 0)) ∧ Off (fun q => q = mb ∨ q = lb ∨ q = mb + 1 + 1) w6 (V4.setCell ⟨mb + 1 + 1, 0, none⟩ (.int .i64 (E : Int)))) := Lib.hid ⟨E, hE, by rw [hst], by rw [setCell_at e4]; rfl, HOF.out.trans ho5 (fun _ _ h => h)⟩
      clear hok4 ho4 ho3 ho5 hst e4
      gi_wp2
      exact ⟨HKF.out, rfl, HX.out⟩
  case iter =>
    intro Bk X l V hBk hBlt hX hl hD hB hY
    have h := fall_in 8 (by omega) 7 l w5.heap.size k v (fun j V => DcI w6 w2.heap.size mb lb (mb + 1 + 1) zs FL k j V ∧ Bk V) X
      (fun j A B h hb => ⟨h.1.later hb, hBk A _ h.2 hb.size (fun q h1 h2 => by have := hBlt A h.2; exact hb.block q (by omega))⟩)
      (fun j f W h hf => by
        rw [HFL.out] at hf
        exact (hY j f W ⟨hf, h.1⟩ h.2 (List.getElem?_eq_some_iff.1 hf).1).mono (fun e W2 h => h.elim (fun h => .inl ⟨h.1, h.2.1, h.2.2.1⟩) (fun h => .inr ⟨h.1, h.2.1⟩)))
      V (by
        obtain ⟨_, _, _, _, _, _, h3, _⟩ := hD
        exact (h3.block _ (by omega) (by omega)).trans hg0) (by
        obtain ⟨_, _, _, _, _, _, h3, _⟩ := hD
        exact (h3.block _ (by omega) (by omega)).trans hg1) ⟨hD, hB⟩
    rw [HFL.out] at h
    exact h
  case done =>
    rintro D V hD hC hK
    obtain ⟨N, P, C, p, h1, h2, h3, hsm, -, h5⟩ := hC
    rw [List.drop_length] at h5
    simp only [rdL, Nat.add_zero] at h5
    have hR := HR.out
    rw [h5] at hR
    simp only [ne_eq, not_true_eq_false, if_false] at hR
    have hp := h1.l.place
    have ce := row_cell h2 0 _ rfl
    have cz := frozen_of_row V (mb + 1 + 1) 0 _ _ h2
    have k9 := row_cell ((h3.block _ (by omega) (by omega)).trans HP6.out) 0 _ rfl
    have HQ := Lib.hid ((h3.block _ (by omega) (by omega)).trans HQ6.out)
    have HB0 := Lib.hid (HB06.out.trans (h3.below (B := w.heap.size) (fun q hq => by omega) HB06.out.size))
    have KE := Lib.hid (lend_any _ _ _ _ _ _ h1.l (by rw [HLEN.out]; omega))
    have HKD0 := Lib.hid hK
    have hV := h3.size
    have HR1 := Lib.hid h1
    have HE1 := Lib.hid h2
    have HSM := Lib.hid hsm
    clear h1 h2 h3 hsm h5 hK hD0 hg0 hg1
    by_cases hlt : p < zs.length
    · rw [if_pos hlt] at hR
      have he3 : endOf zs p 0 = 3 := by unfold endOf; rw [if_neg (by simp), if_pos hlt]
      rw [he3] at KE
      have HR2 := Lib.hid hR
      clear hR
      gi_wp2_with fail
      refine ⟨trivial, (callsIn_wide.2 KE.out).mono ?_⟩
      rintro e V2 ⟨rfl, n2, rfl⟩
      have hb2 := below_of_drewN (B := V.heap.size) V n2
      obtain ⟨V2, hV2⟩ : ∃ V2, V.drewN n2 = V2 := ⟨_, rfl⟩
      rw [hV2] at hb2 ⊢
      have e2 := (hb2.block _ (Array.getElem?_eq_some_iff.1 HE1.out).1).trans HE1.out
      have ce2 := row_cell e2 0 _ rfl
      have cz2 := frozen_of_row V2 (mb + 1 + 1) 0 _ _ e2
      obtain ⟨V4, hV4⟩ : ∃ V4, V2.setCell ⟨mb + 1 + 1, 0, none⟩ (.int .i64 3) = V4 := ⟨_, rfl⟩
      have hof4 : Off (fun q => q = mb + 1 + 1) V2 V4 := by rw [← hV4]; exact Off.setCell (S := fun q => q = mb + 1 + 1) (p := ⟨mb + 1 + 1, 0, none⟩) (Off.refl _ V2) rfl _
      have HEE : Hid (V4.heap[mb + 1 + 1]? = some (.cells #[.int .i64 3] 29 (0, 0))) := Lib.hid (by rw [← hV4, setCell_at e2]; rfl)
      have hqq := (hb2.block _ (Array.getElem?_eq_some_iff.1 HQ.out).1).trans HQ.out
      have HQV := Lib.hid ((hof4.block _ (Array.getElem?_eq_some_iff.1 hqq).1 (by omega)).trans hqq)
      have hkk := (hb2.block _ (Array.getElem?_eq_some_iff.1 HKD0.out).1).trans HKD0.out
      have HKD := Lib.hid ((hof4.block _ (Array.getElem?_eq_some_iff.1 hkk).1 (by omega)).trans hkk)
      have HBV := Lib.hid ((HB0.out.trans (hb2.mono HB0.out.size)).trans (hof4.below (B := w.heap.size) (fun q hq => by omega) (by have := HB0.out.size; have := hb2.size; omega)))
      have HV4 := Lib.hid hV4
      clear KE hb2 hV2 e2 hof4 hqq hkk HQ HB0 HE1 HR1 HKD0 hV4
      rw [show ((3 : Nat) : Int) = 3 from rfl]
      gi_wp2_with fail
      rw [HV4.out]
      have lE : ∀ W, Off (fun q => q = w.heap.size) V4 W → (Instr.loadAt 29 (.pointer (some ⟨mb + 1 + 1, 0, none⟩))).run Tryz.prog W = .ok (.int .i64 3) W := fun W hW => by
        have k := row_cell ((hW.block _ (Array.getElem?_eq_some_iff.1 HEE.out).1 (by omega)).trans HEE.out) 0 _ rfl
        simp [Instr.loadAt, go_sem, k]
      refine wpIn_wide.2 ?_
      refine wp_region_order9 3 (0 :: 1 :: 2 :: []) (fun W => Off (fun q => q = w.heap.size) V4 W) (C := fun W => Below V4.heap.size V4 W) (by kernel_rfl) (by kernel_rfl) (by kernel_rfl) (Below.refl _ _).drew (fun W hW => Off.of_below hW) ?_
      refine wpO9_build (.agg #[.int .i64 0, .int .i64 0, .int .i64 0, .int .i64 0, .int .i64 0, .int .i64 0, .int .i64 0, .slice none 0 0, .slice none 0 0, .string ⟨#[]⟩, .string ⟨#[]⟩]) rfl rfl rfl (fun W _ => by simp [execOp, go_sem]) ?_
      simp only [Act.put, List.setIfInBounds_toArray, List.set_cons_succ, List.set_cons_zero]
      refine wpO9_load (ad := ⟨mb + 1 + 1, 0, none⟩) (.int .i64 3) rfl rfl rfl (by rfl) lE ?_
      simp only [Act.put, List.setIfInBounds_toArray, List.set_cons_succ, List.set_cons_zero]
      refine wpO9_store (fun W => ∃ W0, Below V4.heap.size V4 W0 ∧ W = W0.setRow w.heap.size #[.int .i64 0, .int .i64 0, .int .i64 0, .int .i64 0, .int .i64 0, .int .i64 0, .int .i64 0, .slice none 0 0, .slice none 0 0, .string ⟨#[]⟩, .string ⟨#[]⟩]) rfl rfl rfl rfl ⟨w.heap.size, 0, none⟩ (.agg #[.int .i64 0, .int .i64 0, .int .i64 0, .int .i64 0, .int .i64 0, .int .i64 0, .int .i64 0, .slice none 0 0, .slice none 0 0, .string ⟨#[]⟩, .string ⟨#[]⟩]) (by rfl) (by rfl) (fun W hW => ?_) (fun W hW => ?_) ?_
      · obtain ⟨W0, h1, rfl⟩ := hW
        exact Off.setRow (S := fun q => q = w.heap.size) (Off.of_below h1) rfl _
      · exact ⟨_, mg_store W w.heap.size _ _ ((hW.block _ (Array.getElem?_eq_some_iff.1 HQV.out).1).trans HQV.out) rfl rfl (mg_one (Mg.zero 0) _ _ _ _ _ _), W, hW, rfl⟩
      rintro V6 ⟨W0, hb0, rfl⟩
      simp only [List.drop_succ_cons, List.drop_zero]
      have q0 := (hb0.block _ (Array.getElem?_eq_some_iff.1 HQV.out).1).trans HQV.out
      have hrow := setRow_heap W0 w.heap.size _ #[.int .i64 0, .int .i64 0, .int .i64 0, .int .i64 0, .int .i64 0, .int .i64 0, .int .i64 0, .slice none 0 0, .slice none 0 0, .string ⟨#[]⟩, .string ⟨#[]⟩] _ _ q0
      have hof0 := Off.setRow (S := fun q => q = w.heap.size) (Off.refl _ W0) rfl #[.int .i64 0, .int .i64 0, .int .i64 0, .int .i64 0, .int .i64 0, .int .i64 0, .int .i64 0, .slice none 0 0, .slice none 0 0, .string ⟨#[]⟩, .string ⟨#[]⟩]
      have hbf : Below w.heap.size w (W0.setRow w.heap.size #[.int .i64 0, .int .i64 0, .int .i64 0, .int .i64 0, .int .i64 0, .int .i64 0, .int .i64 0, .slice none 0 0, .slice none 0 0, .string ⟨#[]⟩, .string ⟨#[]⟩]) := (HBV.out.trans (hb0.mono HBV.out.size)).trans (hof0.below (B := w.heap.size) (fun q hq => by omega) (by have := HBV.out.size; have := hb0.size; omega))
      have hkf := (hof0.block _ (by have := (Array.getElem?_eq_some_iff.1 HKD.out).1; have := hb0.size; omega) (by omega)).trans ((hb0.block _ (Array.getElem?_eq_some_iff.1 HKD.out).1).trans HKD.out)
      generalize W0.setRow w.heap.size _ = Vf at *
      have HRW := Lib.hid hrow
      have HBF := Lib.hid hbf
      have HKF := Lib.hid hkf
      clear lE q0 hrow hof0 hbf hkf hb0 HBV HKD
      go_wp2
      gi_wp2
      try simp only [Exit.noGoto]
      refine ⟨by simp, .inl ⟨_, _, rfl, run_takeDeferred HKF.out, ?_⟩⟩
      obtain ⟨y0, y1, y2, y3, y4, y5, y6, y7, y8, y9, y10⟩ := mg_block (M := Mg.zero 0) (P := .slice none 0 0) (C := .slice none 0 0) (W := Vf.putObj D (.deferred none)) ((World.putObj_heap_other (by omega)).trans HRW.out)
      refine ⟨.tuple #[.agg (mC (Mg.zero 0) (.slice none 0 0) (.slice none 0 0)), .int .i64 3], by simp [results, Tryz.f38, go_sem, y0, y1, y2, y3, y4, y5, y6, y7, y8, y9, y10, mC], ?_⟩
      rw [← HR2.out]
      exact ⟨_, _, rfl, MOwn.zero _ _ _, HBF.out.trans (below_put _ _ (by omega))⟩
    · rw [if_neg hlt] at hR
      have he3 : endOf zs p 0 = 0 := by unfold endOf; rw [if_neg (by simp), if_neg hlt]
      rw [he3] at KE
      have HR2 := Lib.hid hR
      clear hR
      gi_wp2_with fail
      refine ⟨trivial, (callsIn_wide.2 KE.out).mono ?_⟩
      rintro e V2 ⟨rfl, n2, rfl⟩
      have hb2 := below_of_drewN (B := V.heap.size) V n2
      obtain ⟨V2, hV2⟩ : ∃ V2, V.drewN n2 = V2 := ⟨_, rfl⟩
      rw [hV2] at hb2 ⊢
      have e2 := (hb2.block _ (Array.getElem?_eq_some_iff.1 HE1.out).1).trans HE1.out
      have ce2 := row_cell e2 0 _ rfl
      have cz2 := frozen_of_row V2 (mb + 1 + 1) 0 _ _ e2
      have HSA := Lib.hid (setCell_same e2)
      have h1 := HR1.out.later hb2
      have LM := Lib.hid (mg_read h1.m)
      have hmat : MAt V2 V2.heap.size N P C := by
        obtain ⟨⟨a, c, e1, e2, e3⟩, ⟨a', c', e4, e5, e6⟩⟩ := And.intro h1.p h1.c
        exact ⟨⟨a, c, e1, e2, e3.nums⟩, ⟨a', c', e4, e5, e6.nums⟩⟩
      have KP := mproject_any N P C v V2 HSM.out hmat
      unfold mV at KP LM
      have KP := Lib.hid KP
      have HQ2 := Lib.hid ((hb2.block _ (Array.getElem?_eq_some_iff.1 HQ.out).1).trans HQ.out)
      have HK2 := Lib.hid ((hb2.block _ (Array.getElem?_eq_some_iff.1 HKD0.out).1).trans HKD0.out)
      have HB2' := Lib.hid (HB0.out.trans (hb2.mono HB0.out.size))
      clear KE hb2 hV2 e2 HQ HB0 HE1 HR1 HKD0 h1 hmat
      rw [show ((0 : Nat) : Int) = 0 from rfl]
      gi_wp2_with (rw [HSA.out]; refine wpListIn_load_run rfl 26 (.tmp 8) rfl (some ⟨mb, 0, none⟩) rfl (.agg (mC N P C)) LM.out ?_)
      refine ⟨trivial, (callsIn_wide.2 KP.out).mono ?_⟩
      rintro e V3 ⟨P3, C3, rfl, hown3, hb3⟩
      obtain ⟨G, hG⟩ : ∃ G, mproj N v = G := ⟨_, rfl⟩
      rw [hG] at hown3 HR2 ⊢
      have hm3 := hown3.at
      obtain ⟨⟨a3, c3, rfl, -, -⟩, ⟨b3, cc3, rfl, -, -⟩⟩ := And.intro hm3.p hm3.c
      have hq3 := (hb3.block _ (Array.getElem?_eq_some_iff.1 HQ2.out).1).trans HQ2.out
      have hk3 := (hb3.block _ (Array.getElem?_eq_some_iff.1 HK2.out).1).trans HK2.out
      have hst := mg_store V3 w.heap.size _ (mC G (.slice a3 G.p.length c3) (.slice b3 G.c.length cc3)) hq3 rfl rfl (mg_one _ _ _ _ _ _ _)
      have hrow := setRow_heap V3 w.heap.size _ (mC G (.slice a3 G.p.length c3) (.slice b3 G.c.length cc3)) _ _ hq3
      have hof3 := Off.setRow (S := fun q => q = w.heap.size) (Off.refl _ V3) rfl (mC G (.slice a3 G.p.length c3) (.slice b3 G.c.length cc3))
      have hbq : w.heap.size < V2.heap.size := (Array.getElem?_eq_some_iff.1 HQ2.out).1
      have hown4 := hown3.off hof3 (fun g hg e => by have := (hown3.p.lt g hg).1; omega) (fun g hg e => by have := (hown3.c.lt g hg).1; omega)
      have hbf : Below w.heap.size w (V3.setRow w.heap.size (mC G (.slice a3 G.p.length c3) (.slice b3 G.c.length cc3))) := (HB2'.out.trans (hb3.mono HB2'.out.size)).trans (hof3.below (B := w.heap.size) (fun q hq => by omega) (by have := HB2'.out.size; have := hb3.size; omega))
      have hkf := (hof3.block _ (Array.getElem?_eq_some_iff.1 hk3).1 (by omega)).trans hk3
      obtain ⟨Vf, hVf⟩ : ∃ Vf, V3.setRow w.heap.size (mC G (.slice a3 G.p.length c3) (.slice b3 G.c.length cc3)) = Vf := ⟨_, rfl⟩
      rw [hVf] at hst hrow hown4 hbf hkf
      have HST := Lib.hid hst
      have HRW := Lib.hid hrow
      have HOW := Lib.hid hown4
      have HBF := Lib.hid hbf
      have HKF := Lib.hid hkf
      clear hst hrow hown3 hown4 hbf hkf hq3 hk3 hof3 hVf hm3 KP LM HSA hG
      unfold mV
      gi_wp2_with (refine wpListIn_store_run rfl 26 (.tmp 6) (.tmp 48) rfl (some ⟨w.heap.size, 0, none⟩) rfl (.agg (mC G (.slice a3 G.p.length c3) (.slice b3 G.c.length cc3))) rfl HST.out ?_)
      try simp only [Exit.noGoto]
      refine ⟨by simp, .inl ⟨_, _, rfl, run_takeDeferred HKF.out, ?_⟩⟩
      obtain ⟨y0, y1, y2, y3, y4, y5, y6, y7, y8, y9, y10⟩ := mg_block (W := Vf.putObj D (.deferred none)) ((World.putObj_heap_other (by omega)).trans HRW.out)
      refine ⟨.tuple #[.agg (mC G (.slice a3 G.p.length c3) (.slice b3 G.c.length cc3)), .int .i64 0], by simp [results, Tryz.f38, go_sem, y0, y1, y2, y3, y4, y5, y6, y7, y8, y9, y10, mC], ?_⟩
      rw [← HR2.out]
      refine ⟨_, _, rfl, ?_, HBF.out.trans (below_put _ _ (by omega))⟩
      have ho5 : Off (fun k => k = D) Vf (Vf.putObj D (.deferred none)) := ⟨rfl, rfl, rfl, by simp [World.putObj], fun k _ hn => World.putObj_heap_other hn⟩
      exact (HOW.out.off ho5 (fun g hg e => by have := (HOW.out.p.lt g hg).1; have := (Array.getElem?_eq_some_iff.1 HK2.out).1; omega) (fun g hg e => by have := (HOW.out.c.lt g hg).1; have := (Array.getElem?_eq_some_iff.1 HK2.out).1; omega)).less (Nat.le_of_lt hbq)
  case stop =>
    rintro D cd V hD ⟨rfl, E, hE, hrd, he, hof⟩ hK
    have hR := HR.out
    rw [if_pos (by rw [hrd]; exact hE), hrd] at hR
    have ce := row_cell he 0 _ rfl
    have e0 : ((E : Int) == 0) = false := by simpa using hE
    have e1 : ((E : Int) != 0) = true := by simpa using hE
    have HEE := Lib.hid he
    have HQV := Lib.hid ((hof.block _ (by omega) (by omega)).trans HQ6.out)
    have HBV := Lib.hid (HB06.out.trans (hof.below (B := w.heap.size) (fun q hq => by omega) HB06.out.size))
    have HKD := Lib.hid hK
    have HR2 := Lib.hid hR
    clear he hof hK hR hrd hD0 hg0 hg1
    gi_wp2_with fail
    have lE : ∀ W, Off (fun q => q = w.heap.size) V W → (Instr.loadAt 29 (.pointer (some ⟨mb + 1 + 1, 0, none⟩))).run Tryz.prog W = .ok (.int .i64 (E : Int)) W := fun W hW => by
      have k := row_cell ((hW.block _ (Array.getElem?_eq_some_iff.1 HEE.out).1 (by omega)).trans HEE.out) 0 _ rfl
      simp [Instr.loadAt, go_sem, k]
    refine wpIn_wide.2 ?_
    refine wp_region_order9 3 (0 :: 1 :: 2 :: []) (fun W => Off (fun q => q = w.heap.size) V W) (C := fun W => Below V.heap.size V W) (by kernel_rfl) (by kernel_rfl) (by kernel_rfl) (Below.refl _ _).drew (fun W hW => Off.of_below hW) ?_
    refine wpO9_build (.agg #[.int .i64 0, .int .i64 0, .int .i64 0, .int .i64 0, .int .i64 0, .int .i64 0, .int .i64 0, .slice none 0 0, .slice none 0 0, .string ⟨#[]⟩, .string ⟨#[]⟩]) rfl rfl rfl (fun W _ => by simp [execOp, go_sem]) ?_
    simp only [Act.put, List.setIfInBounds_toArray, List.set_cons_succ, List.set_cons_zero]
    refine wpO9_load (ad := ⟨mb + 1 + 1, 0, none⟩) (.int .i64 (E : Int)) rfl rfl rfl (by rfl) lE ?_
    simp only [Act.put, List.setIfInBounds_toArray, List.set_cons_succ, List.set_cons_zero]
    refine wpO9_store (fun W => ∃ W0, Below V.heap.size V W0 ∧ W = W0.setRow w.heap.size #[.int .i64 0, .int .i64 0, .int .i64 0, .int .i64 0, .int .i64 0, .int .i64 0, .int .i64 0, .slice none 0 0, .slice none 0 0, .string ⟨#[]⟩, .string ⟨#[]⟩]) rfl rfl rfl rfl ⟨w.heap.size, 0, none⟩ (.agg #[.int .i64 0, .int .i64 0, .int .i64 0, .int .i64 0, .int .i64 0, .int .i64 0, .int .i64 0, .slice none 0 0, .slice none 0 0, .string ⟨#[]⟩, .string ⟨#[]⟩]) (by rfl) (by rfl) (fun W hW => ?_) (fun W hW => ?_) ?_
    · obtain ⟨W0, h1, rfl⟩ := hW
      exact Off.setRow (S := fun q => q = w.heap.size) (Off.of_below h1) rfl _
    · exact ⟨_, mg_store W w.heap.size _ _ ((hW.block _ (Array.getElem?_eq_some_iff.1 HQV.out).1).trans HQV.out) rfl rfl (mg_one (Mg.zero 0) _ _ _ _ _ _), W, hW, rfl⟩
    rintro V6 ⟨W0, hb0, rfl⟩
    simp only [List.drop_succ_cons, List.drop_zero]
    have q0 := (hb0.block _ (Array.getElem?_eq_some_iff.1 HQV.out).1).trans HQV.out
    have hrow := setRow_heap W0 w.heap.size _ #[.int .i64 0, .int .i64 0, .int .i64 0, .int .i64 0, .int .i64 0, .int .i64 0, .int .i64 0, .slice none 0 0, .slice none 0 0, .string ⟨#[]⟩, .string ⟨#[]⟩] _ _ q0
    have hof0 := Off.setRow (S := fun q => q = w.heap.size) (Off.refl _ W0) rfl #[.int .i64 0, .int .i64 0, .int .i64 0, .int .i64 0, .int .i64 0, .int .i64 0, .int .i64 0, .slice none 0 0, .slice none 0 0, .string ⟨#[]⟩, .string ⟨#[]⟩]
    have hbf : Below w.heap.size w (W0.setRow w.heap.size #[.int .i64 0, .int .i64 0, .int .i64 0, .int .i64 0, .int .i64 0, .int .i64 0, .int .i64 0, .slice none 0 0, .slice none 0 0, .string ⟨#[]⟩, .string ⟨#[]⟩]) := (HBV.out.trans (hb0.mono HBV.out.size)).trans (hof0.below (B := w.heap.size) (fun q hq => by omega) (by have := HBV.out.size; have := hb0.size; omega))
    have hkf := (hof0.block _ (by have := (Array.getElem?_eq_some_iff.1 HKD.out).1; have := hb0.size; omega) (by omega)).trans ((hb0.block _ (Array.getElem?_eq_some_iff.1 HKD.out).1).trans HKD.out)
    generalize W0.setRow w.heap.size _ = Vf at *
    have HRW := Lib.hid hrow
    have HBF := Lib.hid hbf
    have HKF := Lib.hid hkf
    clear lE q0 hrow hof0 hbf hkf hb0 HBV HKD
    go_wp2
    gi_wp2
    try simp only [Exit.noGoto]
    refine ⟨by simp, .inl ⟨_, _, rfl, run_takeDeferred HKF.out, ?_⟩⟩
    obtain ⟨y0, y1, y2, y3, y4, y5, y6, y7, y8, y9, y10⟩ := mg_block (M := Mg.zero 0) (P := .slice none 0 0) (C := .slice none 0 0) (W := Vf.putObj D (.deferred none)) ((World.putObj_heap_other (by omega)).trans HRW.out)
    refine ⟨.tuple #[.agg (mC (Mg.zero 0) (.slice none 0 0) (.slice none 0 0)), .int .i64 (E : Int)], by simp [results, Tryz.f38, go_sem, y0, y1, y2, y3, y4, y5, y6, y7, y8, y9, y10, mC], ?_⟩
    rw [← HR2.out]
    exact ⟨_, _, rfl, MOwn.zero _ _ _, HBF.out.trans (below_put _ _ (by omega))⟩
theorem bdecode_own (k v : Int) (A : Option Addr) (len cap : Nat) (zs : List Int) (w : World) (hlen : zs.length = len) (hll : len ≤ 1000000) (hby : Bys zs) (hA : Nums .u8 w w.heap.size A zs) : Calls Tryz.prog 38 #[.int .i64 k, .int .i64 v, .slice A len cap] w fun e w' => DecO w (bdec k v zs) e w' := by
  by_cases hv : v = 1 ∨ v = 2
  · by_cases hk : FD k = []
    · exact bdecode_no k v A len cap zs w (.inr hk)
    · exact bdecode_yes k v A len cap zs w hlen hll hby hA hv hk
  · exact bdecode_no k v A len cap zs w (.inl (by omega))
end Go.Proofs.YtlbfibnfmijahaaGreat

namespace Go.Proofs.YtlbfibnfmijahaaGreat
open Go.RowKit
set_option maxRecDepth 100000

end Go.Proofs.YtlbfibnfmijahaaGreat

namespace Go.Proofs.YtlbfibnfmijahaaGreat
open Go.RowKit Go.Shelf
set_option maxRecDepth 100000
attribute [local go_sem] Oper.semAt_some

end Go.Proofs.YtlbfibnfmijahaaGreat

namespace Go.Proofs.YtlbfibnfmijahaaGreat
open Go.RowKit Go.Shelf
set_option maxRecDepth 100000
attribute [local go_sem] Oper.semAt_some

theorem mg_oneV {w : World} {B : Nat} {M : Mg} {P C : Value} (h : MAt w B M P C) : (mC M P C).all (·.oneCell') = true := by
  obtain ⟨⟨a, c, rfl, -, -⟩, ⟨a', c', rfl, -, -⟩⟩ := h
  exact mg_one _ _ _ _ _ _ _
/-- a message is stored into a new box -/
theorem new_msg (W : World) {w : World} {B : Nat} {M : Mg} {P C : Value} (h : MAt w B M P C) : ∃ W2, (Instr.storeAt 26 (.pointer (some ⟨W.heap.size, 0, none⟩)) (.agg (mC M P C))).run Tryz.prog (W.alloc (.cells #[.int .i64 0, .int .i64 0, .int .i64 0, .int .i64 0, .int .i64 0, .int .i64 0, .int .i64 0, .slice none 0 0, .slice none 0 0, .string ⟨#[]⟩, .string ⟨#[]⟩] 26)) = .ok () W2 ∧
    W2.heap[W.heap.size]? = some (.cells (mC M P C) 26 (0, 0)) ∧ Below W.heap.size W W2 := by
  have r := World.alloc_heap_new W (.cells #[.int .i64 0, .int .i64 0, .int .i64 0, .int .i64 0, .int .i64 0, .int .i64 0, .int .i64 0, .slice none 0 0, .slice none 0 0, .string ⟨#[]⟩, .string ⟨#[]⟩] 26)
  have hb : Below W.heap.size W (W.alloc (.cells #[.int .i64 0, .int .i64 0, .int .i64 0, .int .i64 0, .int .i64 0, .int .i64 0, .int .i64 0, .slice none 0 0, .slice none 0 0, .string ⟨#[]⟩, .string ⟨#[]⟩] 26)) := (Below.refl _ W).alloc (Nat.le_refl _) _
  have hoff := Off.setRow (S := fun k => k = W.heap.size) (Off.refl _ (W.alloc (.cells #[.int .i64 0, .int .i64 0, .int .i64 0, .int .i64 0, .int .i64 0, .int .i64 0, .int .i64 0, .slice none 0 0, .slice none 0 0, .string ⟨#[]⟩, .string ⟨#[]⟩] 26))) rfl (mC M P C)
  exact ⟨_, mg_store _ _ _ (mC M P C) r rfl rfl (mg_oneV h), setRow_heap _ _ _ _ _ _ r, hb.trans (hoff.below (B := W.heap.size) (fun k hk => by omega) hb.size)⟩
end Go.Proofs.YtlbfibnfmijahaaGreat

namespace Go.Proofs.YtlbfibnfmijahaaGreat
open Go.RowKit Go.Shelf
set_option maxRecDepth 100000
attribute [local go_sem] Oper.semAt_some

/-- a message's box, a field's and the result's -/
structure FldM (w : World) (M : Mg) (f : Fd) (W : World) (P C : Value) : Prop where
  t : TwoM w w.heap.size (w.heap.size + 2) M W P C
  f : W.heap[w.heap.size + 1]? = some (.cells f.cs 81 (0, 0))
theorem FldM.start {w : World} {M : Mg} {f : Fd} {P C : Value} (h : MAt w w.heap.size M P C) : FldM w M f (((w.alloc (.cells (mC M P C) 38)).alloc (.cells f.cs 81)).alloc (.cells #[.int .i64 0, .int .i64 0, .int .i64 0, .int .i64 0, .int .i64 0, .int .i64 0, .int .i64 0, .slice none 0 0, .slice none 0 0, .string ⟨#[]⟩, .string ⟨#[]⟩] 38)) P C := by
  obtain ⟨w1, hw1⟩ : ∃ w1, w.alloc (.cells (mC M P C) 38) = w1 := ⟨_, rfl⟩
  have hb1 : Below w.heap.size w w1 := by rw [← hw1]; exact (Below.refl _ w).alloc (Nat.le_refl _) _
  have hs1 : w1.heap.size = w.heap.size + 1 := by rw [← hw1]; simp
  have q1 : w1.heap[w.heap.size]? = some (.cells (mC M P C) 38 (0, 0)) := by rw [← hw1]; exact World.alloc_heap_new _ _
  rw [hw1]
  obtain ⟨w2, hw2⟩ : ∃ w2, w1.alloc (.cells f.cs 81) = w2 := ⟨_, rfl⟩
  have hb2 : Below w1.heap.size w1 w2 := by rw [← hw2]; exact (Below.refl _ w1).alloc (Nat.le_refl _) _
  have hs2 : w2.heap.size = w.heap.size + 2 := by rw [← hw2, World.size_alloc, hs1]
  have q2 : w2.heap[w.heap.size + 1]? = some (.cells f.cs 81 (0, 0)) := by rw [← hw2, ← hs1]; exact World.alloc_heap_new _ _
  rw [hw2]
  obtain ⟨w3, hw3⟩ : ∃ w3, w2.alloc (.cells #[.int .i64 0, .int .i64 0, .int .i64 0, .int .i64 0, .int .i64 0, .int .i64 0, .int .i64 0, .slice none 0 0, .slice none 0 0, .string ⟨#[]⟩, .string ⟨#[]⟩] 38) = w3 := ⟨_, rfl⟩
  have hb3 : Below w2.heap.size w2 w3 := by rw [← hw3]; exact (Below.refl _ w2).alloc (Nat.le_refl _) _
  have q3 : w3.heap[w.heap.size + 2]? = some (.cells (mC (Mg.zero 0) (.slice none 0 0) (.slice none 0 0)) 38 (0, 0)) := by rw [← hw3, ← hs2]; exact World.alloc_heap_new _ _
  rw [hw3]
  have hb : Below w.heap.size w w3 := hb1.trans ((hb2.mono hb1.size).trans (hb3.mono (by omega)))
  obtain ⟨⟨a, c, h1, h2, h3⟩, ⟨a', c', h4, h5, h6⟩⟩ := h.below hb
  exact ⟨⟨(hb3.block _ (by omega)).trans ((hb2.block _ (by omega)).trans q1), q3, ⟨a, c, h1, h2, NuX.of h3 (Nat.le_refl _) (by omega)⟩, ⟨a', c', h4, h5, NuX.of h6 (Nat.le_refl _) (by omega)⟩, hb, ⟨Nat.le_refl _, by omega, by omega⟩⟩, (hb3.block _ (by omega)).trans q2⟩
theorem FldM.later {w W W' : World} {M : Mg} {f : Fd} {P C : Value} (h : FldM w M f W P C) (hb : Below W.heap.size W W') : FldM w M f W' P C := ⟨h.t.later hb, (hb.block _ (Array.getElem?_eq_some_iff.1 h.f).1).trans h.f⟩
/-- a number is stored into the message's box -/
theorem TwoM.num {w W : World} {b4 b8 : Nat} {M : Mg} {P C : Value} (h : TwoM w b4 b8 M W P C) {j : Nat} (hj : j < 6) (v : Int) : TwoM w b4 b8 (M.put j v) (W.setCell ⟨b4, 1 + j, none⟩ (.int .i64 v)) P C := by
  have hlo := h.lo
  have hoff : Off (fun q => q = b4 ∨ q = b8) W (W.setCell ⟨b4, 1 + j, none⟩ (.int .i64 v)) := Off.setCell (S := fun q => q = b4 ∨ q = b8) (p := ⟨b4, 1 + j, none⟩) (Off.refl _ W) (.inl rfl) _
  have hof2 : Off (fun q => q = b4) W (W.setCell ⟨b4, 1 + j, none⟩ (.int .i64 v)) := Off.setCell (S := fun q => q = b4) (p := ⟨b4, 1 + j, none⟩) (Off.refl _ W) rfl _
  obtain ⟨⟨a, c, h1, h2, h3⟩, ⟨a', c', h4, h5, h6⟩⟩ := And.intro h.p h.c
  refine ⟨by rw [setCell_at h.m, mC_put hj], (hof2.block _ (Array.getElem?_eq_some_iff.1 h.r).1 (by omega)).trans h.r, ⟨a, c, by rw [Mg.put_p]; exact h1, by rw [Mg.put_p]; exact h2, by rw [Mg.put_p]; exact h3.keep hoff⟩, ⟨a', c', by rw [Mg.put_c]; exact h4, by rw [Mg.put_c]; exact h5, by rw [Mg.put_c]; exact h6.keep hoff⟩, ?_, hlo⟩
  exact h.b.trans (hoff.below (B := w.heap.size) (fun q hq => by omega) h.b.size)
theorem Shun.num {S : Nat → Prop} {w W : World} {b4 b8 : Nat} {M : Mg} {P C : Value} (h : Shun S W M P C) (t : TwoM w b4 b8 M W P C) (j i : Nat) (v : Int) (u : Value) : Shun S (W.setCell ⟨b4, i, none⟩ u) (M.put j v) P C := by
  have hoff : Off (fun q => q = b4 ∨ q = b8) W (W.setCell ⟨b4, i, none⟩ u) := Off.setCell (S := fun q => q = b4 ∨ q = b8) (p := ⟨b4, i, none⟩) (Off.refl _ W) (.inl rfl) _
  unfold Shun
  rw [Mg.put_p, Mg.put_c]
  exact h.off t hoff
set_option maxHeartbeats 8000000 in
theorem rfield_one (S : Nat → Prop) (M : Mg) (f : Fd) (P C : Value) (A : Option Addr) (len cap : Nat) (l : List Int) (at' : Nat) (w : World) (hf : FdX f) (hso : f.so = 1) (hmo : 0 ≤ f.mo) (hlen : l.length = len) (hll : len ≤ 1000000) (hby : Bys l) (hA : Nums .u8 w w.heap.size A l) (hat : at' ≤ len) (h1 : MAt w w.heap.size M P C) (hsh : Shun S w M P C) :
    Calls Tryz.prog 63 #[mV M P C, f.v, .slice A len cap, .int .i64 (at' : Int)] w fun e w' => RdS S w (rdF M f (l.drop at')) at' e w' := by
  obtain ⟨w2, hw2⟩ : ∃ w2, ((w.alloc (.cells (mC M P C) 38)).alloc (.cells f.cs 81)).alloc (.cells #[.int .i64 0, .int .i64 0, .int .i64 0, .int .i64 0, .int .i64 0, .int .i64 0, .int .i64 0, .slice none 0 0, .slice none 0 0, .string ⟨#[]⟩, .string ⟨#[]⟩] 38) = w2 := ⟨_, rfl⟩
  have hT : FldM w M f w2 P C := by rw [← hw2]; exact FldM.start h1
  have K := rget_len w.heap.size A len cap l (at' : Int) w2 hlen (by omega) (by omega) (by omega) hby (hA.below hT.t.b)
  rw [Int.toNat_natCast] at K
  have hle := Vi.get_le (l.drop at')
  obtain ⟨rx, hrx⟩ : ∃ rx, rdF M f (l.drop at') = rx := ⟨_, rfl⟩
  rw [hrx]
  unfold rdF at hrx
  rw [if_pos hso] at hrx
  obtain ⟨⟨z, kk, er⟩, hg⟩ : ∃ g, Vi.get (l.drop at') = g := ⟨_, rfl⟩
  rw [hg] at K hle hrx
  simp only at hle hrx
  unfold RGetR at K
  simp only at K
  obtain ⟨jj, hj6, hjj⟩ := hf.pl (by omega)
  rw [hjj, Int.toNat_natCast] at hrx
  have hz6 : (jj : Int) < 6 := by omega
  obtain ⟨d0, d1, d2, d3, d4, -, -⟩ := fd_block hT.f
  rw [hso] at d1
  rw [hjj] at d2
  have hlf := hf.le
  have h0 := hf.one hso
  have HW2 := Lib.hid hw2
  have HT := Lib.hid hT
  have HSB : Hid (Shun S w2 M P C) := Lib.hid (hsh.later hT.t.b)
  clear hsh
  have HRX := Lib.hid hrx
  have HD := Lib.hid (And.intro d1 (And.intro d2 (And.intro d3 d4)))
  have K := Lib.hid K
  obtain ⟨X0, hX0⟩ : ∃ X0, f.cs = X0 := ⟨_, rfl⟩
  rw [hX0] at HW2
  unfold mV Fd.v
  rw [hX0]
  clear hX0 hw2 hT hg hrx hA hby hlen h1 d0 d1 d2 d3 d4 hjj
  go_enter Tryz.func63, Tryz.ntmps63
  go_wp2_with fail
  rw [HW2.out]
  refine K.out.mono ?_
  rintro e w3 ⟨rfl, rfl⟩
  clear K
  by_cases her : er = 0
  · subst her
    have hrd := HRX.out
    simp only [ne_eq, not_true_eq_false, if_false] at hrd
    obtain ⟨d1, d2, d3, d4⟩ := HD.out
    clear HRX
    by_cases hb : f.mo < (z : Int) ∨ (z : Int) < f.le
    · rw [if_pos hb] at hrd
      have HR5 := Lib.hid hrd
      clear hrd
      by_cases hb1 : f.mo < (z : Int)
      · obtain ⟨W', hst, hres, hmat, hbel, hshu⟩ := HT.out.t.retS HSB.out
        have HLD := Lib.hid (mr_look HT.out.t.m)
        have HST := Lib.hid hst
        have HFI := Lib.hid (And.intro hmat (And.intro hbel hshu))
        have HRS := Lib.hid hres
        clear hst hres hmat hbel hshu
        go_wp2_with (first | refine wpList_load_run rfl 38 (.tmp 4) rfl (some ⟨w.heap.size, 0, none⟩) rfl (.agg (mC M P C)) HLD.out ?_ | refine wpList_store_run rfl 38 (.tmp 8) (.tmp 44) rfl (some ⟨w.heap.size + 2, 0, none⟩) rfl (.agg (mC M P C)) rfl HST.out ?_)
        obtain ⟨y0, y1, y2, y3, y4, y5, y6, y7, y8, y9, y10⟩ := mg_block HRS.out
        refine bodyPost_ret (v := .tuple #[.agg (mC M P C), .int .i64 ((at' : Int)), .int .i64 (5)]) (by simp [results, Tryz.results63, go_sem, y0, y1, y2, y3, y4, y5, y6, y7, y8, y9, y10, mC]) rfl ?_
        rw [← HR5.out]
        exact ⟨_, P, C, _, rfl, HFI.out.1, HFI.out.2.1, HFI.out.2.2, fun h => by simp at h⟩
      · have hb2 : (z : Int) < f.le := by omega
        obtain ⟨W', hst, hres, hmat, hbel, hshu⟩ := HT.out.t.retS HSB.out
        have HLD := Lib.hid (mr_look HT.out.t.m)
        have HST := Lib.hid hst
        have HFI := Lib.hid (And.intro hmat (And.intro hbel hshu))
        have HRS := Lib.hid hres
        clear hst hres hmat hbel hshu
        go_wp2_with (first | refine wpList_load_run rfl 38 (.tmp 4) rfl (some ⟨w.heap.size, 0, none⟩) rfl (.agg (mC M P C)) HLD.out ?_ | refine wpList_store_run rfl 38 (.tmp 8) (.tmp 44) rfl (some ⟨w.heap.size + 2, 0, none⟩) rfl (.agg (mC M P C)) rfl HST.out ?_)
        obtain ⟨y0, y1, y2, y3, y4, y5, y6, y7, y8, y9, y10⟩ := mg_block HRS.out
        refine bodyPost_ret (v := .tuple #[.agg (mC M P C), .int .i64 ((at' : Int)), .int .i64 (5)]) (by simp [results, Tryz.results63, go_sem, y0, y1, y2, y3, y4, y5, y6, y7, y8, y9, y10, mC]) rfl ?_
        rw [← HR5.out]
        exact ⟨_, P, C, _, rfl, HFI.out.1, HFI.out.2.1, HFI.out.2.2, fun h => by simp at h⟩
    · rw [if_neg hb] at hrd
      have HR0 := Lib.hid hrd
      have hb1 : ¬ f.mo < (z : Int) := by omega
      have hb2 : ¬ (z : Int) < f.le := by omega
      have m9 := HT.out.t.m
      have c7 := mg_at m9 hj6
      have z7 := frozen_of_row w2 w.heap.size (1 + jj) _ _ m9
      have HN := Lib.hid (HT.out.t.num hj6 (z : Int))
      have HSN := Lib.hid (HSB.out.num HT.out.t jj (1 + jj) (z : Int) (.int .i64 (z : Int)))
      clear hrd m9
      obtain ⟨W', hst, hres, hmat, hbel, hshu⟩ := HN.out.retS HSN.out
      have HLD := Lib.hid (mr_look HN.out.m)
      have HST := Lib.hid hst
      have HFI := Lib.hid (And.intro hmat (And.intro hbel hshu))
      have HRS := Lib.hid hres
      clear hst hres hmat hbel hshu
      go_wp2_with (first | refine wpList_load_run rfl 38 (.tmp 4) rfl (some ⟨w.heap.size, 0, none⟩) rfl (.agg (mC (M.put jj (z : Int)) P C)) HLD.out ?_ | refine wpList_store_run rfl 38 (.tmp 8) (.tmp 52) rfl (some ⟨w.heap.size + 2, 0, none⟩) rfl (.agg (mC (M.put jj (z : Int)) P C)) rfl HST.out ?_)
      obtain ⟨y0, y1, y2, y3, y4, y5, y6, y7, y8, y9, y10⟩ := mg_block HRS.out
      refine bodyPost_ret (v := .tuple #[.agg (mC (M.put jj (z : Int)) P C), .int .i64 ((at' : Int) + (kk : Int)), .int .i64 (0)]) (by simp [results, Tryz.results63, go_sem, y0, y1, y2, y3, y4, y5, y6, y7, y8, y9, y10, mC]) rfl ?_
      rw [← HR0.out]
      exact ⟨_, P, C, _, rfl, HFI.out.1, HFI.out.2.1, HFI.out.2.2, fun _ => ⟨rfl, by simp⟩⟩
  · have her' : ((er : Nat) : Int) ≠ 0 := by omega
    have hrd := HRX.out
    rw [if_pos her] at hrd
    have HR5 := Lib.hid hrd
    clear hrd
    obtain ⟨W', hst, hres, hmat, hbel, hshu⟩ := HT.out.t.retS HSB.out
    have HLD := Lib.hid (mr_look HT.out.t.m)
    have HST := Lib.hid hst
    have HFI := Lib.hid (And.intro hmat (And.intro hbel hshu))
    have HRS := Lib.hid hres
    clear hst hres hmat hbel hshu
    go_wp2_with (first | refine wpList_load_run rfl 38 (.tmp 4) rfl (some ⟨w.heap.size, 0, none⟩) rfl (.agg (mC M P C)) HLD.out ?_ | refine wpList_store_run rfl 38 (.tmp 8) (.tmp 25) rfl (some ⟨w.heap.size + 2, 0, none⟩) rfl (.agg (mC M P C)) rfl HST.out ?_)
    obtain ⟨y0, y1, y2, y3, y4, y5, y6, y7, y8, y9, y10⟩ := mg_block HRS.out
    refine bodyPost_ret (v := .tuple #[.agg (mC M P C), .int .i64 ((at' : Int)), .int .i64 ((er : Int))]) (by simp [results, Tryz.results63, go_sem, y0, y1, y2, y3, y4, y5, y6, y7, y8, y9, y10, mC]) rfl ?_
    rw [← HR5.out]
    exact ⟨_, P, C, _, rfl, HFI.out.1, HFI.out.2.1, HFI.out.2.2, fun h => absurd h her⟩
set_option maxHeartbeats 8000000 in
theorem rfield_two (S : Nat → Prop) (M : Mg) (f : Fd) (P C : Value) (A : Option Addr) (len cap : Nat) (l : List Int) (at' : Nat) (w : World) (hf : FdX f) (hso : f.so = 2) (hlen : l.length = len) (hll : len ≤ 1000000) (hby : Bys l) (hA : Nums .u8 w w.heap.size A l) (hat : at' ≤ len) (h1 : MAt w w.heap.size M P C) (hsh : Shun S w M P C) :
    Calls Tryz.prog 63 #[mV M P C, f.v, .slice A len cap, .int .i64 (at' : Int)] w fun e w' => RdS S w (rdF M f (l.drop at')) at' e w' := by
  obtain ⟨w2, hw2⟩ : ∃ w2, ((w.alloc (.cells (mC M P C) 38)).alloc (.cells f.cs 81)).alloc (.cells #[.int .i64 0, .int .i64 0, .int .i64 0, .int .i64 0, .int .i64 0, .int .i64 0, .int .i64 0, .slice none 0 0, .slice none 0 0, .string ⟨#[]⟩, .string ⟨#[]⟩] 38) = w2 := ⟨_, rfl⟩
  have hT : FldM w M f w2 P C := by rw [← hw2]; exact FldM.start h1
  have K := rget_len w.heap.size A len cap l (at' : Int) w2 hlen (by omega) (by omega) (by omega) hby (hA.below hT.t.b)
  rw [Int.toNat_natCast] at K
  have hle := Vi.get_le (l.drop at')
  obtain ⟨rx, hrx⟩ : ∃ rx, rdF M f (l.drop at') = rx := ⟨_, rfl⟩
  rw [hrx]
  unfold rdF at hrx
  rw [if_neg (show ¬ f.so = 1 by omega), if_pos hso] at hrx
  obtain ⟨⟨z, kk, er⟩, hg⟩ : ∃ g, Vi.get (l.drop at') = g := ⟨_, rfl⟩
  rw [hg] at K hle hrx
  simp only at hle hrx
  unfold RGetR at K
  simp only at K
  obtain ⟨jj, hj6, hjj⟩ := hf.pl (by omega)
  rw [hjj, Int.toNat_natCast] at hrx
  have hz6 : (jj : Int) < 6 := by omega
  obtain ⟨d0, d1, d2, d3, d4, -, -⟩ := fd_block hT.f
  rw [hso] at d1
  rw [hjj] at d2
  have hlf := hf.le
  have HW2 := Lib.hid hw2
  have HT := Lib.hid hT
  have HSB : Hid (Shun S w2 M P C) := Lib.hid (hsh.later hT.t.b)
  clear hsh
  have HRX := Lib.hid hrx
  have HD := Lib.hid (And.intro d1 (And.intro d2 (And.intro d3 d4)))
  have K := Lib.hid K
  obtain ⟨X0, hX0⟩ : ∃ X0, f.cs = X0 := ⟨_, rfl⟩
  rw [hX0] at HW2
  unfold mV Fd.v
  rw [hX0]
  clear hX0 hw2 hT hg hrx hA hby hlen h1 d0 d1 d2 d3 d4
  go_enter Tryz.func63, Tryz.ntmps63
  go_wp2_with fail
  rw [HW2.out]
  refine K.out.mono ?_
  rintro e w3 ⟨rfl, rfl⟩
  clear K
  by_cases her : er = 0
  · subst her
    have hrd := HRX.out
    simp only [ne_eq, not_true_eq_false, if_false] at hrd
    obtain ⟨d1, d2, -, -⟩ := HD.out
    have KZ := Lib.hid (rzag_any (z : Int) w2 (by omega) (by omega))
    clear HRX
    go_wp2_with fail
    refine KZ.out.mono ?_
    rintro e w3 ⟨rfl, rfl⟩
    clear KZ
    obtain ⟨d, hd⟩ : ∃ d, zagZ (z : Int) = d := ⟨_, rfl⟩
    rw [hd] at hrd ⊢
    have HDD := Lib.hid hd
    have hdb : -9223372036854775808 ≤ d ∧ d ≤ 9223372036854775807 := by
      rw [← hd]
      unfold zagZ
      split <;> omega
    clear hd
    have KF := Lib.hid (rfar_any d w2)
    go_wp2_with fail
    refine KF.out.mono ?_
    rintro e w3 ⟨rfl, rfl⟩
    clear KF
    by_cases hb : d < -1000000 ∨ 1000000 < d
    · rw [if_pos hb] at hrd
      rw [decide_eq_true hb]
      have HR5 := Lib.hid hrd
      clear hrd
      obtain ⟨W', hst, hres, hmat, hbel, hshu⟩ := HT.out.t.retS HSB.out
      have HLD := Lib.hid (mr_look HT.out.t.m)
      have HST := Lib.hid hst
      have HFI := Lib.hid (And.intro hmat (And.intro hbel hshu))
      have HRS := Lib.hid hres
      clear hst hres hmat hbel hshu
      go_wp2_with (first | refine wpList_load_run rfl 38 (.tmp 4) rfl (some ⟨w.heap.size, 0, none⟩) rfl (.agg (mC M P C)) HLD.out ?_ | refine wpList_store_run rfl 38 (.tmp 8) (.tmp 59) rfl (some ⟨w.heap.size + 2, 0, none⟩) rfl (.agg (mC M P C)) rfl HST.out ?_)
      obtain ⟨y0, y1, y2, y3, y4, y5, y6, y7, y8, y9, y10⟩ := mg_block HRS.out
      refine bodyPost_ret (v := .tuple #[.agg (mC M P C), .int .i64 ((at' : Int)), .int .i64 (5)]) (by simp [results, Tryz.results63, go_sem, y0, y1, y2, y3, y4, y5, y6, y7, y8, y9, y10, mC]) rfl ?_
      rw [← HR5.out]
      exact ⟨_, P, C, _, rfl, HFI.out.1, HFI.out.2.1, HFI.out.2.2, fun h => by simp at h⟩
    · rw [if_neg hb] at hrd
      rw [decide_eq_false hb]
      have HR0 := Lib.hid hrd
      clear hrd
      go_wp2_with fail
      have KC : ∀ W, Calls Tryz.prog 90 #[.int .u64 (z : Int)] W fun e w'' => e = .returned (.int .i64 d) ∧ Below W.heap.size W w'' := fun W => by
        refine (rzag_any (z : Int) W (by omega) (by omega)).mono fun e w'' h => ?_
        rw [HDD.out] at h
        exact ⟨h.1, by rw [← h.2]; exact Below.refl _ _⟩
      refine wp_region_FS 156 6 8 [] (fun _ _ _ => True) (fun W => Below w2.heap.size w2 W) (fun _ W W' => W' = W.setCell ⟨w.heap.size, 1 + jj, none⟩ (.int .i64 d)) (by kernel_rfl) (by kernel_rfl) (by rfl) (by kernel_rfl) (by rfl) (by simp) (fun W W' h hb => h.trans (hb.mono h.size)) (fun _ _ _ _ _ _ => trivial) (Below.refl _ _).drew ?_
      refine wpFS_step (wpF_pure rfl rfl ?_); go_big_quiet_step (fail); refine wpQuiet_nil ?_
      refine wpFS_step (wpF_load (.int .i64 (jj : Int)) rfl (by rfl) (by rfl) (by rfl) (fun W hW => by have e := (fd_block (HT.out.later hW).f).2.2.1; rw [hjj] at e; simp [Instr.loadAt, go_sem, e]) ?_)
      simp only [Act.put, List.setIfInBounds_toArray, List.set_cons_succ, List.set_cons_zero]
      refine wpFS_step (wpF_pure rfl rfl ?_); go_big_quiet_step (fail); refine wpQuiet_nil ?_
      refine wpFS_step (wpF_call (f := 90) (args := #[.int .u64 (z : Int)]) (.int .i64 d) rfl (by rfl) (fun W => by first | rfl | (simp [go_sem]; done)) (fun W hW => KC W) ?_)
      simp only [Act.put, List.setIfInBounds_toArray, List.set_cons_succ, List.set_cons_zero]
      refine wpFS_step (wpF_pure rfl rfl ?_); go_big_quiet_step (fail); refine wpQuiet_nil ?_
      refine wpFS_step (wpF_pure rfl rfl ?_); go_big_quiet_step (fail); refine wpQuiet_nil ?_
      refine wpFS_store (t := 3) (x := .tmp 66) (y := .tmp 64) (by rfl) (by rfl) (by rfl) ⟨w.heap.size, 1 + jj, none⟩ (fun _ => .int .i64 d) (fun xs => by simp [fill, Act.eval]) (fun xs => by simp [fill, Act.eval]) (fun xs W hW _ => ⟨_, ?_, rfl⟩) ?_
      · have m9 := (HT.out.later hW).t.m
        have c7 := mg_at m9 hj6
        have z7 := frozen_of_row W w.heap.size (1 + jj) _ _ m9
        simp [Instr.storeAt, go_sem, c7, z7]
      intro xs W w9 hW _ hst
      subst hst
      have HN := Lib.hid ((HT.out.later hW).t.num hj6 d)
      have HSN := Lib.hid ((HSB.out.later hW).num (HT.out.later hW).t jj (1 + jj) d (.int .i64 d))
      simp only [fill]
      simp only [Exit.then]
      obtain ⟨W', hst, hres, hmat, hbel, hshu⟩ := HN.out.retS HSN.out
      have HLD := Lib.hid (mr_look HN.out.m)
      have HST := Lib.hid hst
      have HFI := Lib.hid (And.intro hmat (And.intro hbel hshu))
      have HRS := Lib.hid hres
      clear hst hres hmat hbel hshu
      go_wp2_with (first | refine wpList_load_run rfl 38 (.tmp 4) rfl (some ⟨w.heap.size, 0, none⟩) rfl (.agg (mC (M.put jj d) P C)) HLD.out ?_ | refine wpList_store_run rfl 38 (.tmp 8) (.tmp 67) rfl (some ⟨w.heap.size + 2, 0, none⟩) rfl (.agg (mC (M.put jj d) P C)) rfl HST.out ?_)
      obtain ⟨y0, y1, y2, y3, y4, y5, y6, y7, y8, y9, y10⟩ := mg_block HRS.out
      refine bodyPost_ret (v := .tuple #[.agg (mC (M.put jj d) P C), .int .i64 ((at' : Int) + (kk : Int)), .int .i64 (0)]) (by simp [results, Tryz.results63, go_sem, y0, y1, y2, y3, y4, y5, y6, y7, y8, y9, y10, mC]) rfl ?_
      rw [← HR0.out]
      exact ⟨_, P, C, _, rfl, HFI.out.1, HFI.out.2.1, HFI.out.2.2, fun _ => ⟨rfl, by simp⟩⟩
  · have her' : ((er : Nat) : Int) ≠ 0 := by omega
    have hrd := HRX.out
    rw [if_pos her] at hrd
    have HR5 := Lib.hid hrd
    clear hrd
    obtain ⟨W', hst, hres, hmat, hbel, hshu⟩ := HT.out.t.retS HSB.out
    have HLD := Lib.hid (mr_look HT.out.t.m)
    have HST := Lib.hid hst
    have HFI := Lib.hid (And.intro hmat (And.intro hbel hshu))
    have HRS := Lib.hid hres
    clear hst hres hmat hbel hshu
    go_wp2_with (first | refine wpList_load_run rfl 38 (.tmp 4) rfl (some ⟨w.heap.size, 0, none⟩) rfl (.agg (mC M P C)) HLD.out ?_ | refine wpList_store_run rfl 38 (.tmp 8) (.tmp 25) rfl (some ⟨w.heap.size + 2, 0, none⟩) rfl (.agg (mC M P C)) rfl HST.out ?_)
    obtain ⟨y0, y1, y2, y3, y4, y5, y6, y7, y8, y9, y10⟩ := mg_block HRS.out
    refine bodyPost_ret (v := .tuple #[.agg (mC M P C), .int .i64 ((at' : Int)), .int .i64 ((er : Int))]) (by simp [results, Tryz.results63, go_sem, y0, y1, y2, y3, y4, y5, y6, y7, y8, y9, y10, mC]) rfl ?_
    rw [← HR5.out]
    exact ⟨_, P, C, _, rfl, HFI.out.1, HFI.out.2.1, HFI.out.2.2, fun h => absurd h her⟩
end Go.Proofs.YtlbfibnfmijahaaGreat

namespace Go.Proofs.YtlbfibnfmijahaaGreat
open Go.RowKit Go.Shelf
set_option maxRecDepth 100000
attribute [local go_sem] Oper.semAt_some

/-- what came back is stored into a box in which its lists do not lie -/
theorem back_store {S S' : Nat → Prop} {W : World} {b8 : Nat} {M : Mg} {P C : Value} {old : Array Value} (hr : W.heap[b8]? = some (.cells old 38 (0, 0))) (ho : old.size = 11) (hm : MAt W W.heap.size M P C) (hs : Shun S' W M P C) (hb : S' b8) (hS : ∀ x, S x → S' x) :
    ∃ W', (Instr.storeAt 38 (.pointer (some ⟨b8, 0, none⟩)) (.agg (mC M P C))).run Tryz.prog W = .ok () W' ∧ W'.heap[b8]? = some (.cells (mC M P C) 38 (0, 0)) ∧ MAt W' W'.heap.size M P C ∧ Off (fun q => q = b8 ∨ q = b8) W W' ∧ Shun S W' M P C := by
  obtain ⟨⟨a, c, rfl, h2, h3⟩, ⟨a', c', rfl, h5, h6⟩⟩ := hm
  have hst := rm_store W b8 _ (mC M (.slice a M.p.length c) (.slice a' M.c.length c')) hr ho rfl (by simp [mC, Value.oneCell'])
  have hoff := Off.setRow (S := fun q => q = b8 ∨ q = b8) (Off.refl _ W) (.inr rfl) (mC M (.slice a M.p.length c) (.slice a' M.c.length c'))
  obtain ⟨k1, k2⟩ := hs.1 b8 hb
  have k1 := k1 _ _ _ rfl
  have k2 := k2 _ _ _ rfl
  refine ⟨_, hst, setRow_heap W b8 _ _ _ _ hr, ⟨⟨a, c, rfl, h2, (k1.keep hoff).nums⟩, ⟨a', c', rfl, h5, (k2.keep hoff).nums⟩⟩, hoff, fun x hx => ?_, fun a2 n2 c2 e => (by injection e with e; subst e; exact (hs.2.1 _ _ _ rfl).aside k1 hoff), fun a2 n2 c2 e => (by injection e with e; subst e; exact (hs.2.2 _ _ _ rfl).aside k2 hoff)⟩
  obtain ⟨j1, j2⟩ := hs.1 x (hS x hx)
  exact ⟨fun a2 n2 c2 e => by injection e with e; subst e; exact (j1 _ _ _ rfl).aside k1 hoff, fun a2 n2 c2 e => by injection e with e; subst e; exact (j2 _ _ _ rfl).aside k2 hoff⟩
set_option maxHeartbeats 8000000 in
theorem rfield_cells (S : Nat → Prop) (M : Mg) (f : Fd) (P C : Value) (A : Option Addr) (len cap : Nat) (l : List Int) (at' : Nat) (w : World) (hf : FdX f) (hso : f.so = 4) (hml : M.c.length ≤ 40) (hS : ∀ x, S x → x < w.heap.size) (hlen : l.length = len) (hll : len ≤ 1000000) (hby : Bys l) (hA : Nums .u8 w w.heap.size A l) (hat : at' ≤ len) (h1 : MAt w w.heap.size M P C) (hsh : Shun S w M P C) :
    Calls Tryz.prog 63 #[mV M P C, f.v, .slice A len cap, .int .i64 (at' : Int)] w fun e w' => RdS S w (rdF M f (l.drop at')) at' e w' := by
  obtain ⟨w2, hw2⟩ : ∃ w2, ((w.alloc (.cells (mC M P C) 38)).alloc (.cells f.cs 81)).alloc (.cells #[.int .i64 0, .int .i64 0, .int .i64 0, .int .i64 0, .int .i64 0, .int .i64 0, .int .i64 0, .slice none 0 0, .slice none 0 0, .string ⟨#[]⟩, .string ⟨#[]⟩] 38) = w2 := ⟨_, rfl⟩
  have hT : FldM w M f w2 P C := by rw [← hw2]; exact FldM.start h1
  have K := rget_len w.heap.size A len cap l (at' : Int) w2 hlen (by omega) (by omega) (by omega) hby (hA.below hT.t.b)
  rw [Int.toNat_natCast] at K
  have hle := Vi.get_le (l.drop at')
  obtain ⟨rx, hrx⟩ : ∃ rx, rdF M f (l.drop at') = rx := ⟨_, rfl⟩
  rw [hrx]
  unfold rdF at hrx
  rw [if_neg (show ¬ f.so = 1 by omega), if_neg (show ¬ f.so = 2 by omega), if_neg (show ¬ f.so = 3 by omega), if_pos hso] at hrx
  obtain ⟨⟨z, kk, er⟩, hg⟩ : ∃ g, Vi.get (l.drop at') = g := ⟨_, rfl⟩
  rw [hg] at K hle hrx
  simp only at hle hrx
  unfold RGetR at K
  simp only at K
  rw [List.length_drop, hlen] at hle
  obtain ⟨d0, d1, d2, d3, d4, -, -⟩ := fd_block hT.f
  rw [hso] at d1
  have hle1 := hf.lst (by omega)
  have hmo1 := hf.mo.2.1 hso
  rw [hle1] at d3
  rw [hmo1] at d4
  rw [hle1, hmo1] at hrx
  have KP : Hid (z ≤ 32 → at' + kk ≤ len → Calls Tryz.prog 92 #[mV M P C, .int .i64 (z : Int), .slice A len cap, .int .i64 ((at' + kk : Nat) : Int)] w2 fun e w' => RdS (fun q => S q ∨ q = w.heap.size + 2) w2 ((rdC z (-1) (l.drop (at' + kk))).1, (rdC z (-1) (l.drop (at' + kk))).2.1, { M with c := M.c ++ (rdC z (-1) (l.drop (at' + kk))).2.2 }) (at' + kk) e w') := Lib.hid fun h9 h8 => by
    have hb := hT.t.b
    have h2 := (Array.getElem?_eq_some_iff.1 hT.t.r).1
    obtain ⟨⟨pa, pc, p1, p2, p3⟩, ⟨ca, cc, c1, c2, c3⟩⟩ := And.intro hT.t.p hT.t.c
    refine rcells18_any _ M P C z A len cap l (at' + kk) w2 hlen hll hby ((hA.below hb).mono hb.size) h8 (by omega) hml ⟨⟨pa, pc, p1, p2, p3.nums⟩, ⟨ca, cc, c1, c2, c3.nums⟩⟩ (fun x hx => ?_) ⟨fun x hx => ?_, (hsh.later hb).2⟩
    · rcases hx with hx | rfl
      · have := hS x hx
        omega
      · exact h2
    · rcases hx with hx | rfl
      · obtain ⟨k1, k2⟩ := hsh.1 x hx
        exact ⟨fun a n c e => (k1 a n c e).keep (Off.of_below hb), fun a n c e => (k2 a n c e).keep (Off.of_below hb)⟩
      · refine ⟨fun a n c e => ?_, fun a n c e => ?_⟩
        · rw [p1] at e
          injection e with e
          subst e
          intro hne
          obtain ⟨b, off, e, -, h5, hc⟩ := p3 hne
          exact ⟨b, off, e, h5, h5, hc⟩
        · rw [c1] at e
          injection e with e
          subst e
          intro hne
          obtain ⟨b, off, e, -, h5, hc⟩ := c3 hne
          exact ⟨b, off, e, h5, h5, hc⟩
  have HW2 := Lib.hid hw2
  have HT := Lib.hid hT
  have HSB : Hid (Shun S w2 M P C) := Lib.hid (hsh.later hT.t.b)
  clear hsh
  have HRX := Lib.hid hrx
  have HD := Lib.hid (And.intro d1 (And.intro d2 (And.intro d3 d4)))
  have K := Lib.hid K
  obtain ⟨X0, hX0⟩ : ∃ X0, f.cs = X0 := ⟨_, rfl⟩
  rw [hX0] at HW2
  unfold mV Fd.v
  rw [hX0]
  clear hX0 hw2 hT hg hrx hA hby hlen h1 d0 d1 d2 d3 d4
  go_enter Tryz.func63, Tryz.ntmps63
  go_wp2_with fail
  rw [HW2.out]
  refine K.out.mono ?_
  rintro e w3 ⟨rfl, rfl⟩
  clear K
  by_cases her : er = 0
  · subst her
    have hrd := HRX.out
    simp only [ne_eq, not_true_eq_false, if_false] at hrd
    obtain ⟨d1, d2, d3, d4⟩ := HD.out
    clear HRX
    by_cases hz : z = 0
    · subst hz
      rw [if_pos (by decide)] at hrd
      have HR5 := Lib.hid hrd
      clear hrd
      obtain ⟨W', hst, hres, hmat, hbel, hshu⟩ := HT.out.t.retS HSB.out
      have HLD := Lib.hid (mr_look HT.out.t.m)
      have HST := Lib.hid hst
      have HFI := Lib.hid (And.intro hmat (And.intro hbel hshu))
      have HRS := Lib.hid hres
      clear hst hres hmat hbel hshu
      go_wp2_with (first | refine wpList_load_run rfl 38 (.tmp 4) rfl (some ⟨w.heap.size, 0, none⟩) rfl (.agg (mC M P C)) HLD.out ?_ | refine wpList_store_run rfl 38 (.tmp 8) (.tmp 76) rfl (some ⟨w.heap.size + 2, 0, none⟩) rfl (.agg (mC M P C)) rfl HST.out ?_)
      obtain ⟨y0, y1, y2, y3, y4, y5, y6, y7, y8, y9, y10⟩ := mg_block HRS.out
      refine bodyPost_ret (v := .tuple #[.agg (mC M P C), .int .i64 ((at' : Int)), .int .i64 (13)]) (by simp [results, Tryz.results63, go_sem, y0, y1, y2, y3, y4, y5, y6, y7, y8, y9, y10, mC]) rfl ?_
      rw [← HR5.out]
      exact ⟨_, P, C, _, rfl, HFI.out.1, HFI.out.2.1, HFI.out.2.2, fun h => by simp at h⟩
    · have hz0 : ¬ (z : Int) = 0 := by omega
      rw [if_neg (by omega)] at hrd
      by_cases hmz : 32 < (z : Int)
      · rw [if_pos hmz] at hrd
        have HR5 := Lib.hid hrd
        clear hrd
        obtain ⟨W', hst, hres, hmat, hbel, hshu⟩ := HT.out.t.retS HSB.out
        have HLD := Lib.hid (mr_look HT.out.t.m)
        have HST := Lib.hid hst
        have HFI := Lib.hid (And.intro hmat (And.intro hbel hshu))
        have HRS := Lib.hid hres
        clear hst hres hmat hbel hshu
        go_wp2_with (first | refine wpList_load_run rfl 38 (.tmp 4) rfl (some ⟨w.heap.size, 0, none⟩) rfl (.agg (mC M P C)) HLD.out ?_ | refine wpList_store_run rfl 38 (.tmp 8) (.tmp 83) rfl (some ⟨w.heap.size + 2, 0, none⟩) rfl (.agg (mC M P C)) rfl HST.out ?_)
        obtain ⟨y0, y1, y2, y3, y4, y5, y6, y7, y8, y9, y10⟩ := mg_block HRS.out
        refine bodyPost_ret (v := .tuple #[.agg (mC M P C), .int .i64 ((at' : Int)), .int .i64 (6)]) (by simp [results, Tryz.results63, go_sem, y0, y1, y2, y3, y4, y5, y6, y7, y8, y9, y10, mC]) rfl ?_
        rw [← HR5.out]
        exact ⟨_, P, C, _, rfl, HFI.out.1, HFI.out.2.1, HFI.out.2.2, fun h => by simp at h⟩
      · rw [if_neg hmz] at hrd
        have hmz2 : (z : Int) ≤ 32 := by omega
        have k3 := KP.out (by omega) (by omega)
        rw [List.drop_drop] at hrd
        obtain ⟨⟨r1, r2, r3⟩, hrr⟩ : ∃ r, rdC z (-1) (l.drop (at' + kk)) = r := ⟨_, rfl⟩
        rw [hrr] at k3 hrd
        simp only at hrd
        have HR6 := Lib.hid hrd
        clear hrd hrr KP
        have e9 : ((at' + kk : Nat) : Int) = (at' : Int) + (kk : Int) := by simp
        rw [e9] at k3
        have K3 := Lib.hid k3
        clear k3 e9
        have HLD := Lib.hid (mr_look HT.out.t.m)
        go_wp2_with (first | refine wpList_load_run rfl 38 (.tmp 4) rfl (some ⟨w.heap.size, 0, none⟩) rfl (.agg (mC M P C)) HLD.out ?_)
        refine K3.out.mono ?_
        rintro e w4 ⟨M4, P4, C4, a4, rfl, hm4, hb4, hs4, hr4⟩
        have hb2 := HT.out.t.b
        have hrow := (hb4.block (w.heap.size + 2) (Array.getElem?_eq_some_iff.1 HT.out.t.r).1).trans HT.out.t.r
        obtain ⟨W', hst, hres, hmat, hoff, hshu⟩ := back_store (S := S) hrow rfl hm4 hs4 (.inr rfl) (fun x hx => .inl hx)
        have hbel : Below w.heap.size w W' := (hb2.trans (hb4.mono hb2.size)).trans (hoff.below (B := w.heap.size) (fun q hq => by omega) (by have := hb2.size; have := hb4.size; omega))
        have HST := Lib.hid hst
        have HFI := Lib.hid (And.intro hmat (And.intro hbel hshu))
        have HRS := Lib.hid hres
        have HR4 := Lib.hid hr4
        clear hst hres hmat hbel hshu hr4 hrow hoff hm4 hs4 K3 hb2 hb4
        unfold mV
        go_wp2_with (first | refine wpList_store_run rfl 38 (.tmp 8) (.tmp 106) rfl (some ⟨w.heap.size + 2, 0, none⟩) rfl (.agg (mC M4 P4 C4)) rfl HST.out ?_)
        obtain ⟨y0, y1, y2, y3, y4, y5, y6, y7, y8, y9, y10⟩ := mg_block HRS.out
        refine bodyPost_ret (v := .tuple #[.agg (mC M4 P4 C4), .int .i64 a4, .int .i64 (r1 : Int)]) (by simp [results, Tryz.results63, go_sem, y0, y1, y2, y3, y4, y5, y6, y7, y8, y9, y10, mC]) rfl ?_
        rw [← HR6.out]
        by_cases h0 : r1 = 0
        · subst h0
          obtain ⟨rfl, rfl⟩ := HR4.out rfl
          exact ⟨_, P4, C4, _, rfl, HFI.out.1, HFI.out.2.1, HFI.out.2.2, fun _ => ⟨rfl, by simp; omega⟩⟩
        · rw [if_pos h0]
          exact ⟨_, P4, C4, _, rfl, HFI.out.1, HFI.out.2.1, HFI.out.2.2, fun h => absurd h h0⟩
  · have her' : ((er : Nat) : Int) ≠ 0 := by omega
    have hrd := HRX.out
    rw [if_pos her] at hrd
    have HR5 := Lib.hid hrd
    clear hrd
    obtain ⟨W', hst, hres, hmat, hbel, hshu⟩ := HT.out.t.retS HSB.out
    have HLD := Lib.hid (mr_look HT.out.t.m)
    have HST := Lib.hid hst
    have HFI := Lib.hid (And.intro hmat (And.intro hbel hshu))
    have HRS := Lib.hid hres
    clear hst hres hmat hbel hshu
    go_wp2_with (first | refine wpList_load_run rfl 38 (.tmp 4) rfl (some ⟨w.heap.size, 0, none⟩) rfl (.agg (mC M P C)) HLD.out ?_ | refine wpList_store_run rfl 38 (.tmp 8) (.tmp 25) rfl (some ⟨w.heap.size + 2, 0, none⟩) rfl (.agg (mC M P C)) rfl HST.out ?_)
    obtain ⟨y0, y1, y2, y3, y4, y5, y6, y7, y8, y9, y10⟩ := mg_block HRS.out
    refine bodyPost_ret (v := .tuple #[.agg (mC M P C), .int .i64 ((at' : Int)), .int .i64 ((er : Int))]) (by simp [results, Tryz.results63, go_sem, y0, y1, y2, y3, y4, y5, y6, y7, y8, y9, y10, mC]) rfl ?_
    rw [← HR5.out]
    exact ⟨_, P, C, _, rfl, HFI.out.1, HFI.out.2.1, HFI.out.2.2, fun h => absurd h her⟩
set_option maxHeartbeats 8000000 in
theorem rfield_path (S : Nat → Prop) (M : Mg) (f : Fd) (P C : Value) (A : Option Addr) (len cap : Nat) (l : List Int) (at' : Nat) (w : World) (hf : FdX f) (hso : f.so = 3) (hml : M.p.length ≤ 40) (hS : ∀ x, S x → x < w.heap.size) (hlen : l.length = len) (hll : len ≤ 1000000) (hby : Bys l) (hA : Nums .u8 w w.heap.size A l) (hat : at' ≤ len) (h1 : MAt w w.heap.size M P C) (hsh : Shun S w M P C) :
    Calls Tryz.prog 63 #[mV M P C, f.v, .slice A len cap, .int .i64 (at' : Int)] w fun e w' => RdS S w (rdF M f (l.drop at')) at' e w' := by
  obtain ⟨w2, hw2⟩ : ∃ w2, ((w.alloc (.cells (mC M P C) 38)).alloc (.cells f.cs 81)).alloc (.cells #[.int .i64 0, .int .i64 0, .int .i64 0, .int .i64 0, .int .i64 0, .int .i64 0, .int .i64 0, .slice none 0 0, .slice none 0 0, .string ⟨#[]⟩, .string ⟨#[]⟩] 38) = w2 := ⟨_, rfl⟩
  have hT : FldM w M f w2 P C := by rw [← hw2]; exact FldM.start h1
  have K := rget_len w.heap.size A len cap l (at' : Int) w2 hlen (by omega) (by omega) (by omega) hby (hA.below hT.t.b)
  rw [Int.toNat_natCast] at K
  have hle := Vi.get_le (l.drop at')
  obtain ⟨rx, hrx⟩ : ∃ rx, rdF M f (l.drop at') = rx := ⟨_, rfl⟩
  rw [hrx]
  unfold rdF at hrx
  rw [if_neg (show ¬ f.so = 1 by omega), if_neg (show ¬ f.so = 2 by omega), if_pos hso] at hrx
  obtain ⟨⟨z, kk, er⟩, hg⟩ : ∃ g, Vi.get (l.drop at') = g := ⟨_, rfl⟩
  rw [hg] at K hle hrx
  simp only at hle hrx
  unfold RGetR at K
  simp only at K
  rw [List.length_drop, hlen] at hle
  obtain ⟨d0, d1, d2, d3, d4, -, -⟩ := fd_block hT.f
  rw [hso] at d1
  have hle1 := hf.lst (by omega)
  have hmo1 := hf.mo.1 hso
  rw [hle1] at d3
  rw [hmo1] at d4
  rw [hle1, hmo1] at hrx
  have KP : Hid (z ≤ 16 → at' + kk ≤ len → Calls Tryz.prog 91 #[mV M P C, .int .i64 (z : Int), .slice A len cap, .int .i64 ((at' + kk : Nat) : Int)] w2 fun e w' => RdS (fun q => S q ∨ q = w.heap.size + 2) w2 ((rdP z (0, 0) (l.drop (at' + kk))).1, (rdP z (0, 0) (l.drop (at' + kk))).2.1, { M with p := M.p ++ (rdP z (0, 0) (l.drop (at' + kk))).2.2 }) (at' + kk) e w') := Lib.hid fun h9 h8 => by
    have hb := hT.t.b
    have h2 := (Array.getElem?_eq_some_iff.1 hT.t.r).1
    obtain ⟨⟨pa, pc, p1, p2, p3⟩, ⟨ca, cc, c1, c2, c3⟩⟩ := And.intro hT.t.p hT.t.c
    refine rpath18_any _ M P C z A len cap l (at' + kk) w2 hlen hll hby ((hA.below hb).mono hb.size) h8 (by omega) hml ⟨⟨pa, pc, p1, p2, p3.nums⟩, ⟨ca, cc, c1, c2, c3.nums⟩⟩ (fun x hx => ?_) ⟨fun x hx => ?_, (hsh.later hb).2⟩
    · rcases hx with hx | rfl
      · have := hS x hx
        omega
      · exact h2
    · rcases hx with hx | rfl
      · obtain ⟨k1, k2⟩ := hsh.1 x hx
        exact ⟨fun a n c e => (k1 a n c e).keep (Off.of_below hb), fun a n c e => (k2 a n c e).keep (Off.of_below hb)⟩
      · refine ⟨fun a n c e => ?_, fun a n c e => ?_⟩
        · rw [p1] at e
          injection e with e
          subst e
          intro hne
          obtain ⟨b, off, e, -, h5, hc⟩ := p3 hne
          exact ⟨b, off, e, h5, h5, hc⟩
        · rw [c1] at e
          injection e with e
          subst e
          intro hne
          obtain ⟨b, off, e, -, h5, hc⟩ := c3 hne
          exact ⟨b, off, e, h5, h5, hc⟩
  have HW2 := Lib.hid hw2
  have HT := Lib.hid hT
  have HSB : Hid (Shun S w2 M P C) := Lib.hid (hsh.later hT.t.b)
  clear hsh
  have HRX := Lib.hid hrx
  have HD := Lib.hid (And.intro d1 (And.intro d2 (And.intro d3 d4)))
  have K := Lib.hid K
  obtain ⟨X0, hX0⟩ : ∃ X0, f.cs = X0 := ⟨_, rfl⟩
  rw [hX0] at HW2
  unfold mV Fd.v
  rw [hX0]
  clear hX0 hw2 hT hg hrx hA hby hlen h1 d0 d1 d2 d3 d4
  go_enter Tryz.func63, Tryz.ntmps63
  go_wp2_with fail
  rw [HW2.out]
  refine K.out.mono ?_
  rintro e w3 ⟨rfl, rfl⟩
  clear K
  by_cases her : er = 0
  · subst her
    have hrd := HRX.out
    simp only [ne_eq, not_true_eq_false, if_false] at hrd
    obtain ⟨d1, d2, d3, d4⟩ := HD.out
    clear HRX
    by_cases hz : z = 0
    · subst hz
      rw [if_pos (by decide)] at hrd
      have HR5 := Lib.hid hrd
      clear hrd
      obtain ⟨W', hst, hres, hmat, hbel, hshu⟩ := HT.out.t.retS HSB.out
      have HLD := Lib.hid (mr_look HT.out.t.m)
      have HST := Lib.hid hst
      have HFI := Lib.hid (And.intro hmat (And.intro hbel hshu))
      have HRS := Lib.hid hres
      clear hst hres hmat hbel hshu
      go_wp2_with (first | refine wpList_load_run rfl 38 (.tmp 4) rfl (some ⟨w.heap.size, 0, none⟩) rfl (.agg (mC M P C)) HLD.out ?_ | refine wpList_store_run rfl 38 (.tmp 8) (.tmp 76) rfl (some ⟨w.heap.size + 2, 0, none⟩) rfl (.agg (mC M P C)) rfl HST.out ?_)
      obtain ⟨y0, y1, y2, y3, y4, y5, y6, y7, y8, y9, y10⟩ := mg_block HRS.out
      refine bodyPost_ret (v := .tuple #[.agg (mC M P C), .int .i64 ((at' : Int)), .int .i64 (13)]) (by simp [results, Tryz.results63, go_sem, y0, y1, y2, y3, y4, y5, y6, y7, y8, y9, y10, mC]) rfl ?_
      rw [← HR5.out]
      exact ⟨_, P, C, _, rfl, HFI.out.1, HFI.out.2.1, HFI.out.2.2, fun h => by simp at h⟩
    · have hz0 : ¬ (z : Int) = 0 := by omega
      rw [if_neg (by omega)] at hrd
      by_cases hmz : 16 < (z : Int)
      · rw [if_pos hmz] at hrd
        have HR5 := Lib.hid hrd
        clear hrd
        obtain ⟨W', hst, hres, hmat, hbel, hshu⟩ := HT.out.t.retS HSB.out
        have HLD := Lib.hid (mr_look HT.out.t.m)
        have HST := Lib.hid hst
        have HFI := Lib.hid (And.intro hmat (And.intro hbel hshu))
        have HRS := Lib.hid hres
        clear hst hres hmat hbel hshu
        go_wp2_with (first | refine wpList_load_run rfl 38 (.tmp 4) rfl (some ⟨w.heap.size, 0, none⟩) rfl (.agg (mC M P C)) HLD.out ?_ | refine wpList_store_run rfl 38 (.tmp 8) (.tmp 83) rfl (some ⟨w.heap.size + 2, 0, none⟩) rfl (.agg (mC M P C)) rfl HST.out ?_)
        obtain ⟨y0, y1, y2, y3, y4, y5, y6, y7, y8, y9, y10⟩ := mg_block HRS.out
        refine bodyPost_ret (v := .tuple #[.agg (mC M P C), .int .i64 ((at' : Int)), .int .i64 (6)]) (by simp [results, Tryz.results63, go_sem, y0, y1, y2, y3, y4, y5, y6, y7, y8, y9, y10, mC]) rfl ?_
        rw [← HR5.out]
        exact ⟨_, P, C, _, rfl, HFI.out.1, HFI.out.2.1, HFI.out.2.2, fun h => by simp at h⟩
      · rw [if_neg hmz] at hrd
        have hmz2 : (z : Int) ≤ 16 := by omega
        have k3 := KP.out (by omega) (by omega)
        rw [List.drop_drop] at hrd
        obtain ⟨⟨r1, r2, r3⟩, hrr⟩ : ∃ r, rdP z (0, 0) (l.drop (at' + kk)) = r := ⟨_, rfl⟩
        rw [hrr] at k3 hrd
        simp only at hrd
        have HR6 := Lib.hid hrd
        clear hrd hrr KP
        have e9 : ((at' + kk : Nat) : Int) = (at' : Int) + (kk : Int) := by simp
        rw [e9] at k3
        have K3 := Lib.hid k3
        clear k3 e9
        have HLD := Lib.hid (mr_look HT.out.t.m)
        go_wp2_with (first | refine wpList_load_run rfl 38 (.tmp 4) rfl (some ⟨w.heap.size, 0, none⟩) rfl (.agg (mC M P C)) HLD.out ?_)
        refine K3.out.mono ?_
        rintro e w4 ⟨M4, P4, C4, a4, rfl, hm4, hb4, hs4, hr4⟩
        have hb2 := HT.out.t.b
        have hrow := (hb4.block (w.heap.size + 2) (Array.getElem?_eq_some_iff.1 HT.out.t.r).1).trans HT.out.t.r
        obtain ⟨W', hst, hres, hmat, hoff, hshu⟩ := back_store (S := S) hrow rfl hm4 hs4 (.inr rfl) (fun x hx => .inl hx)
        have hbel : Below w.heap.size w W' := (hb2.trans (hb4.mono hb2.size)).trans (hoff.below (B := w.heap.size) (fun q hq => by omega) (by have := hb2.size; have := hb4.size; omega))
        have HST := Lib.hid hst
        have HFI := Lib.hid (And.intro hmat (And.intro hbel hshu))
        have HRS := Lib.hid hres
        have HR4 := Lib.hid hr4
        clear hst hres hmat hbel hshu hr4 hrow hoff hm4 hs4 K3 hb2 hb4
        unfold mV
        go_wp2_with (first | refine wpList_store_run rfl 38 (.tmp 8) (.tmp 95) rfl (some ⟨w.heap.size + 2, 0, none⟩) rfl (.agg (mC M4 P4 C4)) rfl HST.out ?_)
        obtain ⟨y0, y1, y2, y3, y4, y5, y6, y7, y8, y9, y10⟩ := mg_block HRS.out
        refine bodyPost_ret (v := .tuple #[.agg (mC M4 P4 C4), .int .i64 a4, .int .i64 (r1 : Int)]) (by simp [results, Tryz.results63, go_sem, y0, y1, y2, y3, y4, y5, y6, y7, y8, y9, y10, mC]) rfl ?_
        rw [← HR6.out]
        by_cases h0 : r1 = 0
        · subst h0
          obtain ⟨rfl, rfl⟩ := HR4.out rfl
          exact ⟨_, P4, C4, _, rfl, HFI.out.1, HFI.out.2.1, HFI.out.2.2, fun _ => ⟨rfl, by simp; omega⟩⟩
        · rw [if_pos h0]
          exact ⟨_, P4, C4, _, rfl, HFI.out.1, HFI.out.2.1, HFI.out.2.2, fun h => absurd h h0⟩
  · have her' : ((er : Nat) : Int) ≠ 0 := by omega
    have hrd := HRX.out
    rw [if_pos her] at hrd
    have HR5 := Lib.hid hrd
    clear hrd
    obtain ⟨W', hst, hres, hmat, hbel, hshu⟩ := HT.out.t.retS HSB.out
    have HLD := Lib.hid (mr_look HT.out.t.m)
    have HST := Lib.hid hst
    have HFI := Lib.hid (And.intro hmat (And.intro hbel hshu))
    have HRS := Lib.hid hres
    clear hst hres hmat hbel hshu
    go_wp2_with (first | refine wpList_load_run rfl 38 (.tmp 4) rfl (some ⟨w.heap.size, 0, none⟩) rfl (.agg (mC M P C)) HLD.out ?_ | refine wpList_store_run rfl 38 (.tmp 8) (.tmp 25) rfl (some ⟨w.heap.size + 2, 0, none⟩) rfl (.agg (mC M P C)) rfl HST.out ?_)
    obtain ⟨y0, y1, y2, y3, y4, y5, y6, y7, y8, y9, y10⟩ := mg_block HRS.out
    refine bodyPost_ret (v := .tuple #[.agg (mC M P C), .int .i64 ((at' : Int)), .int .i64 ((er : Int))]) (by simp [results, Tryz.results63, go_sem, y0, y1, y2, y3, y4, y5, y6, y7, y8, y9, y10, mC]) rfl ?_
    rw [← HR5.out]
    exact ⟨_, P, C, _, rfl, HFI.out.1, HFI.out.2.1, HFI.out.2.2, fun h => absurd h her⟩
end Go.Proofs.YtlbfibnfmijahaaGreat

namespace Go.Proofs.YtlbfibnfmijahaaGreat
open Go.RowKit Go.Shelf
set_option maxRecDepth 100000
attribute [local go_sem] Oper.semAt_some

/-- another text is stored into the message's box -/
def Mg.text (M : Mg) (b : Bool) (s : ByteArray) : Mg := if b then { M with tx := s } else { M with tg := s }
theorem TwoM.text {w W : World} {b4 b8 : Nat} {M : Mg} {P C : Value} (h : TwoM w b4 b8 M W P C) (b : Bool) (s : ByteArray) : TwoM w b4 b8 (M.text b s) (W.setCell ⟨b4, if b then 9 else 10, none⟩ (.string s)) P C := by
  have hlo := h.lo
  have hoff : Off (fun q => q = b4 ∨ q = b8) W (W.setCell ⟨b4, if b then 9 else 10, none⟩ (.string s)) := Off.setCell (S := fun q => q = b4 ∨ q = b8) (p := ⟨b4, if b then 9 else 10, none⟩) (Off.refl _ W) (.inl rfl) _
  have hof2 : Off (fun q => q = b4) W (W.setCell ⟨b4, if b then 9 else 10, none⟩ (.string s)) := Off.setCell (S := fun q => q = b4) (p := ⟨b4, if b then 9 else 10, none⟩) (Off.refl _ W) rfl _
  obtain ⟨⟨a, c, h1, h2, h3⟩, ⟨a', c', h4, h5, h6⟩⟩ := And.intro h.p h.c
  have hp : (M.text b s).p = M.p := by cases b <;> rfl
  have hc : (M.text b s).c = M.c := by cases b <;> rfl
  refine ⟨by rw [setCell_at h.m]; cases b <;> rfl, (hof2.block _ (Array.getElem?_eq_some_iff.1 h.r).1 (by omega)).trans h.r, ⟨a, c, by rw [hp]; exact h1, by rw [hp]; exact h2, by rw [hp]; exact h3.keep hoff⟩, ⟨a', c', by rw [hc]; exact h4, by rw [hc]; exact h5, by rw [hc]; exact h6.keep hoff⟩, ?_, hlo⟩
  exact h.b.trans (hoff.below (B := w.heap.size) (fun q hq => by omega) h.b.size)
theorem Shun.text {S : Nat → Prop} {w W : World} {b4 b8 : Nat} {M : Mg} {P C : Value} (h : Shun S W M P C) (t : TwoM w b4 b8 M W P C) (i : Nat) (b : Bool) (s : ByteArray) (u : Value) : Shun S (W.setCell ⟨b4, i, none⟩ u) (M.text b s) P C := by
  have hoff : Off (fun q => q = b4 ∨ q = b8) W (W.setCell ⟨b4, i, none⟩ u) := Off.setCell (S := fun q => q = b4 ∨ q = b8) (p := ⟨b4, i, none⟩) (Off.refl _ W) (.inl rfl) _
  have hp : (M.text b s).p = M.p := by cases b <;> rfl
  have hc : (M.text b s).c = M.c := by cases b <;> rfl
  unfold Shun
  rw [hp, hc]
  exact h.off t hoff
theorem bys_ok {l : List Int} (h : Bys l) : (∀ b ∈ (txt l).data.toList, byOk b) ↔ ∀ c ∈ l, byI c := by
  have hb := bts_txt h
  constructor
  · intro h1 c hc
    rw [← hb] at hc
    unfold bts at hc
    obtain ⟨b, hb2, rfl⟩ := List.mem_map.1 hc
    have := h1 b hb2
    unfold byOk at this
    unfold byI
    omega
  · intro h1 b hb2
    have := h1 (b.toNat : Int) (by rw [← hb]; unfold bts; exact List.mem_map.2 ⟨b, hb2, rfl⟩)
    unfold byI at this
    unfold byOk
    omega
theorem slice18 (A : Option Addr) (len cap a z : Nat) (h : a + z ≤ len) (hc : len ≤ cap) (W : World) :
    (Instr.slice 49 (.slice A len cap) (some (.int .i64 (a : Int))) (some (.int .i64 ((a : Int) + (z : Int)))) none).run Tryz.prog W = .ok (.slice (if cap = a then A else A.map (·.add a)) z (cap - a)) W := by
  have h1 : ((a : Int) + (z : Int)).toNat = a + z := by omega
  have h2 : a + z - a = z := by omega
  unfold Instr.slice
  simp [go_sem, h1, h2]
  intro h9
  have := h9 (by omega)
  omega
set_option maxHeartbeats 8000000 in
theorem rfield_bad (S : Nat → Prop) (M : Mg) (f : Fd) (P C : Value) (A : Option Addr) (len cap : Nat) (l : List Int) (at' : Nat) (w : World) (hf : FdX f) (hso : f.so = 5 ∨ f.so = 6) (hlen : l.length = len) (hll : len ≤ 1000000) (_hcap : len ≤ cap) (hby : Bys l) (hA : Nums .u8 w w.heap.size A l) (hat : at' ≤ len) (h1 : MAt w w.heap.size M P C) (hsh : Shun S w M P C) (hx : (Vi.get (l.drop at')).2.2 = 0 → f.mo < ((Vi.get (l.drop at')).1 : Int) ∨ len < at' + (Vi.get (l.drop at')).2.1 + (Vi.get (l.drop at')).1) :
    Calls Tryz.prog 63 #[mV M P C, f.v, .slice A len cap, .int .i64 (at' : Int)] w fun e w' => RdS S w (rdF M f (l.drop at')) at' e w' := by
  obtain ⟨w2, hw2⟩ : ∃ w2, ((w.alloc (.cells (mC M P C) 38)).alloc (.cells f.cs 81)).alloc (.cells #[.int .i64 0, .int .i64 0, .int .i64 0, .int .i64 0, .int .i64 0, .int .i64 0, .int .i64 0, .slice none 0 0, .slice none 0 0, .string ⟨#[]⟩, .string ⟨#[]⟩] 38) = w2 := ⟨_, rfl⟩
  have hT : FldM w M f w2 P C := by rw [← hw2]; exact FldM.start h1
  have K := rget_len w.heap.size A len cap l (at' : Int) w2 hlen (by omega) (by omega) (by omega) hby (hA.below hT.t.b)
  rw [Int.toNat_natCast] at K
  have hle := Vi.get_le (l.drop at')
  obtain ⟨rx, hrx⟩ : ∃ rx, rdF M f (l.drop at') = rx := ⟨_, rfl⟩
  rw [hrx]
  unfold rdF at hrx
  rw [if_neg (show ¬ f.so = 1 by omega), if_neg (show ¬ f.so = 2 by omega), if_neg (show ¬ f.so = 3 by omega), if_neg (show ¬ f.so = 4 by omega)] at hrx
  obtain ⟨⟨z, kk, er⟩, hg⟩ : ∃ g, Vi.get (l.drop at') = g := ⟨_, rfl⟩
  rw [hg] at K hle hrx hx
  simp only at hx
  simp only at hle hrx
  unfold RGetR at K
  simp only at K
  rw [List.length_drop, hlen] at hle
  obtain ⟨d0, d1, d2, d3, d4, -, -⟩ := fd_block hT.f
  have hle0 := hf.tex hso
  have hmo1 : f.mo = 64 ∨ f.mo = 16 := by
    rcases hso with h | h
    · exact .inl (hf.mo.2.2.1 h)
    · exact .inr (hf.mo.2.2.2 h)
  obtain ⟨mo, hmo⟩ : ∃ mo, f.mo = mo := ⟨_, rfl⟩
  obtain ⟨so, hsoe⟩ : ∃ so, f.so = so := ⟨_, rfl⟩
  rw [hmo] at d4 hmo1 hrx hx
  rw [hle0] at d3 hrx
  rw [hsoe] at d1 hso hrx
  rw [if_neg (show ¬ (z = 0 ∧ (0 : Int) < 0) by omega)] at hrx
  rw [List.drop_drop] at hrx
  unfold rdT at hrx
  rw [List.length_drop, hlen] at hrx
  have HW2 := Lib.hid hw2
  have HT := Lib.hid hT
  have HSB : Hid (Shun S w2 M P C) := Lib.hid (hsh.later hT.t.b)
  clear hsh
  have K := Lib.hid K
  obtain ⟨X0, hX0⟩ : ∃ X0, f.cs = X0 := ⟨_, rfl⟩
  rw [hX0] at HW2
  have hs1 : (so == 1) = false := by simp; omega
  have hs2 : (so == 2) = false := by simp; omega
  have hs3 : (so == 3) = false := by simp; omega
  have hs4 : (so == 4) = false := by simp; omega
  unfold mV Fd.v
  rw [hX0]
  clear hX0 hw2 hT hg hA hby hlen h1 d0 hmo hsoe hle0 hf
  go_enter Tryz.func63, Tryz.ntmps63
  go_wp2_with fail
  rw [HW2.out]
  refine K.out.mono ?_
  rintro e w3 ⟨rfl, rfl⟩
  clear K
  by_cases her : er = 0
  · subst her
    rw [if_neg (by simp)] at hrx
    have hx := hx rfl
    by_cases hmz : mo < (z : Int)
    · rw [if_pos hmz] at hrx
      have HR5 := Lib.hid hrx
      clear hrx hx
      have hz : ¬ (z : Int) = 0 := by omega
      obtain ⟨W', hst, hres, hmat, hbel, hshu⟩ := HT.out.t.retS HSB.out
      have HLD := Lib.hid (mr_look HT.out.t.m)
      have HST := Lib.hid hst
      have HFI := Lib.hid (And.intro hmat (And.intro hbel hshu))
      have HRS := Lib.hid hres
      clear hst hres hmat hbel hshu
      go_wp2_with (first | refine wpList_load_run rfl 38 (.tmp 4) rfl (some ⟨w.heap.size, 0, none⟩) rfl (.agg (mC M P C)) HLD.out ?_ | refine wpList_store_run rfl 38 (.tmp 8) (.tmp 83) rfl (some ⟨w.heap.size + 2, 0, none⟩) rfl (.agg (mC M P C)) rfl HST.out ?_)
      obtain ⟨y0, y1, y2, y3, y4, y5, y6, y7, y8, y9, y10⟩ := mg_block HRS.out
      refine bodyPost_ret (v := .tuple #[.agg (mC M P C), .int .i64 ((at' : Int)), .int .i64 (6)]) (by simp [results, Tryz.results63, go_sem, y0, y1, y2, y3, y4, y5, y6, y7, y8, y9, y10, mC]) rfl ?_
      rw [← HR5.out]
      exact ⟨_, P, C, _, rfl, HFI.out.1, HFI.out.2.1, HFI.out.2.2, fun h => by simp at h⟩
    · rw [if_neg hmz, if_pos (by rw [if_pos (by omega)]; simp)] at hrx
      rw [if_pos (by omega)] at hrx
      have HR5 := Lib.hid hrx
      clear hrx
      have hz : ¬ (z : Int) = 0 := by omega
      have hf9 : (len : Int) - ((at' : Int) + (kk : Int)) < (z : Int) := by omega
      clear hx
      obtain ⟨W', hst, hres, hmat, hbel, hshu⟩ := HT.out.t.retS HSB.out
      have HLD := Lib.hid (mr_look HT.out.t.m)
      have HST := Lib.hid hst
      have HFI := Lib.hid (And.intro hmat (And.intro hbel hshu))
      have HRS := Lib.hid hres
      clear hst hres hmat hbel hshu
      go_wp2_with (first | refine wpList_load_run rfl 38 (.tmp 4) rfl (some ⟨w.heap.size, 0, none⟩) rfl (.agg (mC M P C)) HLD.out ?_ | refine wpList_store_run rfl 38 (.tmp 8) (.tmp 116) rfl (some ⟨w.heap.size + 2, 0, none⟩) rfl (.agg (mC M P C)) rfl HST.out ?_)
      obtain ⟨y0, y1, y2, y3, y4, y5, y6, y7, y8, y9, y10⟩ := mg_block HRS.out
      refine bodyPost_ret (v := .tuple #[.agg (mC M P C), .int .i64 ((at' : Int)), .int .i64 (4)]) (by simp [results, Tryz.results63, go_sem, y0, y1, y2, y3, y4, y5, y6, y7, y8, y9, y10, mC]) rfl ?_
      rw [← HR5.out]
      exact ⟨_, P, C, _, rfl, HFI.out.1, HFI.out.2.1, HFI.out.2.2, fun h => by simp at h⟩
  · have her' : ((er : Nat) : Int) ≠ 0 := by omega
    rw [if_pos her] at hrx
    have HR5 := Lib.hid hrx
    clear hrx hx
    obtain ⟨W', hst, hres, hmat, hbel, hshu⟩ := HT.out.t.retS HSB.out
    have HLD := Lib.hid (mr_look HT.out.t.m)
    have HST := Lib.hid hst
    have HFI := Lib.hid (And.intro hmat (And.intro hbel hshu))
    have HRS := Lib.hid hres
    clear hst hres hmat hbel hshu
    go_wp2_with (first | refine wpList_load_run rfl 38 (.tmp 4) rfl (some ⟨w.heap.size, 0, none⟩) rfl (.agg (mC M P C)) HLD.out ?_ | refine wpList_store_run rfl 38 (.tmp 8) (.tmp 25) rfl (some ⟨w.heap.size + 2, 0, none⟩) rfl (.agg (mC M P C)) rfl HST.out ?_)
    obtain ⟨y0, y1, y2, y3, y4, y5, y6, y7, y8, y9, y10⟩ := mg_block HRS.out
    refine bodyPost_ret (v := .tuple #[.agg (mC M P C), .int .i64 ((at' : Int)), .int .i64 ((er : Int))]) (by simp [results, Tryz.results63, go_sem, y0, y1, y2, y3, y4, y5, y6, y7, y8, y9, y10, mC]) rfl ?_
    rw [← HR5.out]
    exact ⟨_, P, C, _, rfl, HFI.out.1, HFI.out.2.1, HFI.out.2.2, fun h => absurd h her⟩
end Go.Proofs.YtlbfibnfmijahaaGreat

namespace Go.Proofs.YtlbfibnfmijahaaGreat
open Go.RowKit Go.Shelf
set_option maxRecDepth 100000
attribute [local go_sem] Oper.semAt_some

set_option maxHeartbeats 8000000 in
theorem rfield_none (S : Nat → Prop) (M : Mg) (f : Fd) (P C : Value) (A : Option Addr) (len cap : Nat) (l : List Int) (at' : Nat) (w : World) (hf : FdX f) (hso : f.so = 5 ∨ f.so = 6) (hlen : l.length = len) (hll : len ≤ 1000000) (hcap : len ≤ cap) (hby : Bys l) (hA : Nums .u8 w w.heap.size A l) (hat : at' ≤ len) (h1 : MAt w w.heap.size M P C) (hsh : Shun S w M P C) (kk z : Nat) (hx : Vi.get (l.drop at') = (z, kk, 0)) (hz : z = 0) :
    Calls Tryz.prog 63 #[mV M P C, f.v, .slice A len cap, .int .i64 (at' : Int)] w fun e w' => RdS S w (rdF M f (l.drop at')) at' e w' := by
  obtain ⟨w2, hw2⟩ : ∃ w2, ((w.alloc (.cells (mC M P C) 38)).alloc (.cells f.cs 81)).alloc (.cells #[.int .i64 0, .int .i64 0, .int .i64 0, .int .i64 0, .int .i64 0, .int .i64 0, .int .i64 0, .slice none 0 0, .slice none 0 0, .string ⟨#[]⟩, .string ⟨#[]⟩] 38) = w2 := ⟨_, rfl⟩
  have hT : FldM w M f w2 P C := by rw [← hw2]; exact FldM.start h1
  have K := rget_len w.heap.size A len cap l (at' : Int) w2 hlen (by omega) (by omega) (by omega) hby (hA.below hT.t.b)
  rw [Int.toNat_natCast] at K
  have hle := Vi.get_le (l.drop at')
  obtain ⟨rx, hrx⟩ : ∃ rx, rdF M f (l.drop at') = rx := ⟨_, rfl⟩
  rw [hrx]
  unfold rdF at hrx
  rw [if_neg (show ¬ f.so = 1 by omega), if_neg (show ¬ f.so = 2 by omega), if_neg (show ¬ f.so = 3 by omega), if_neg (show ¬ f.so = 4 by omega)] at hrx
  rw [hx] at K hle hrx
  simp only at hle hrx
  unfold RGetR at K
  simp only at K
  rw [List.length_drop, hlen] at hle
  obtain ⟨d0, d1, d2, d3, d4, -, -⟩ := fd_block hT.f
  have hle0 := hf.tex hso
  have hmo1 : f.mo = 64 ∨ f.mo = 16 := by
    rcases hso with h | h
    · exact .inl (hf.mo.2.2.1 h)
    · exact .inr (hf.mo.2.2.2 h)
  obtain ⟨mo, hmo⟩ : ∃ mo, f.mo = mo := ⟨_, rfl⟩
  obtain ⟨so, hsoe⟩ : ∃ so, f.so = so := ⟨_, rfl⟩
  rw [hmo] at d4 hmo1 hrx
  rw [hle0] at d3 hrx
  rw [hsoe] at d1 hso hrx
  rw [if_neg (show ¬ (z = 0 ∧ (0 : Int) < 0) by omega)] at hrx
  rw [List.drop_drop] at hrx
  unfold rdT at hrx
  rw [if_neg (show ¬ (l.drop (at' + kk)).length < z by rw [List.length_drop]; omega)] at hrx
  obtain ⟨A9, hA9⟩ : ∃ A9, (if cap = at' + kk then A else A.map (·.add (at' + kk))) = A9 := ⟨_, rfl⟩
  obtain ⟨c9, hc9⟩ : ∃ c9, cap - (at' + kk) = c9 := ⟨_, rfl⟩
  obtain ⟨s, hs⟩ : ∃ s, txt ((l.drop (at' + kk)).take z) = s := ⟨_, rfl⟩
  have hcv : (convert 49 9 (.slice A9 z c9)).run Tryz.prog w2 = .ok (.string s) w2 := by
    have h2 := ((hA.below hT.t.b).mono hT.t.b.size).drop (i := at' + kk) (cap := cap) (by omega)
    rw [← hA9, ← hs]
    exact conv_txt w2.heap.size _ z c9 ((l.drop (at' + kk)).take z) w2 (by rw [List.length_take, List.length_drop]; omega) (h2.take z)
  have hbt := bys_ok (l := (l.drop (at' + kk)).take z) fun c hc => hby c (List.mem_of_mem_drop (List.mem_of_mem_take hc))
  have hn : s.size = z := by rw [← hs, txt_size, List.length_take, List.length_drop]; omega
  have hsl : ∀ W, (Instr.slice 49 (.slice A len cap) (some (.int .i64 ((at' : Int) + (kk : Int)))) (some (.int .i64 ((at' : Int) + (kk : Int)))) none).run Tryz.prog W = .ok (.slice A9 z c9) W := fun W => by
    have := slice18 A len cap (at' + kk) z (by omega) hcap W
    rw [hA9, hc9] at this
    simpa [hz] using this
  rw [hs] at hbt hrx
  have HBT2 := Lib.hid hbt
  have HW2 := Lib.hid hw2
  have HT := Lib.hid hT
  have HSB : Hid (Shun S w2 M P C) := Lib.hid (hsh.later hT.t.b)
  clear hsh
  have K := Lib.hid K
  obtain ⟨X0, hX0⟩ : ∃ X0, f.cs = X0 := ⟨_, rfl⟩
  rw [hX0] at HW2
  have hs1 : (so == 1) = false := by simp; omega
  have hs2 : (so == 2) = false := by simp; omega
  have hs3 : (so == 3) = false := by simp; omega
  have hs4 : (so == 4) = false := by simp; omega
  unfold mV Fd.v
  rw [hX0]
  rw [if_neg (show ¬ (0 : Nat) ≠ 0 by simp), if_neg (show ¬ mo < ((z : Nat) : Int) by omega)] at hrx
  have HR0 := Lib.hid hrx
  clear hX0 hw2 hT hx hA hby hlen h1 d0 hmo hsoe hle0 hf hA9 hc9 hs hbt hrx
  subst hz
  go_enter Tryz.func63, Tryz.ntmps63
  go_wp2_with fail
  rw [HW2.out]
  refine K.out.mono ?_
  rintro e w3 ⟨rfl, rfl⟩
  clear K
  go_wp2_with fail
  go_loopw [15] (fun iv wr => iv = .int .i64 0 ∧ Hid (∀ b ∈ s.data.toList.take 0, byOk b) ∧ wr = w2) (fun _ _ => 0)
  case atStart => exact ⟨rfl, Lib.hid (by simp), rfl⟩
  case round =>
            obtain ⟨rfl, HB, rfl⟩ := hrel
            have hal : ∀ b ∈ s.data.toList, byOk b := by
              have h2 := HB.out
              rwa [List.take_of_length_le (by show s.data.toList.length ≤ _; rw [Array.length_toList]; exact Nat.le_of_eq hn)] at h2
            have hrd := HR0.out
            rw [HBT2.out] at hal
            rw [if_pos hal] at hrd
            simp only [ne_eq, not_true_eq_false, if_false] at hrd
            have HR5 := Lib.hid hrd
            clear hrd hal
            rcases hso with rfl | rfl
            · have HN := Lib.hid (HT.out.t.text true s)
              have HSN := Lib.hid (HSB.out.text HT.out.t 9 true s (.string s))
              obtain ⟨w9, hw9⟩ : ∃ w9, wr.setCell ⟨w.heap.size, 9, none⟩ (.string s) = w9 := ⟨_, rfl⟩
              have hN := HN.out
              have hSN := HSN.out
              have hc9 : (if (true : Bool) then 9 else 10) = 9 := rfl
              rw [hc9, hw9] at hN
              rw [hw9] at hSN
              obtain ⟨W', hst, hres, hmat, hbel, hshu⟩ := hN.retS hSN
              have HLD := Lib.hid (mr_look hN.m)
              have HST := Lib.hid hst
              have HFI := Lib.hid (And.intro hmat (And.intro hbel hshu))
              have HRS := Lib.hid hres
              have hst9 : (Instr.storeAt 9 (.pointer (some ⟨w.heap.size, 9, none⟩)) (.string s)).run Tryz.prog wr = .ok () w9 := by
                rw [← hw9]
                have m9 := HT.out.t.m
                have c7 := row_cell m9 9 (.string M.tx) rfl
                have z7 := frozen_of_row wr w.heap.size 9 _ _ m9
                simp [Instr.storeAt, go_sem, c7, z7]
              have HST9 := Lib.hid hst9
              clear hst hres hmat hbel hshu hw9 hst9 hN hSN HN HSN hc9
              go_wp2_with (first | refine wpList_load_run rfl 38 (.tmp 4) rfl (some ⟨w.heap.size, 0, none⟩) rfl (.agg (mC (M.text true s) P C)) HLD.out ?_ | refine wpList_store_run rfl 38 (.tmp 8) (.tmp 151) rfl (some ⟨w.heap.size + 2, 0, none⟩) rfl (.agg (mC (M.text true s) P C)) rfl HST.out ?_ | refine wpList_store_run rfl 9 (.tmp 148) (.tmp 147) rfl (some ⟨w.heap.size, 9, none⟩) rfl (.string s) rfl HST9.out ?_)
              obtain ⟨y0, y1, y2, y3, y4, y5, y6, y7, y8, y9, y10⟩ := mg_block HRS.out
              refine bodyPost_ret (v := .tuple #[.agg (mC (M.text true s) P C), .int .i64 ((at' : Int) + (kk : Int)), .int .i64 0]) (by simp [results, Tryz.results63, go_sem, y0, y1, y2, y3, y4, y5, y6, y7, y8, y9, y10, mC]) rfl ?_
              rw [← HR5.out]
              exact ⟨_, P, C, _, rfl, HFI.out.1, HFI.out.2.1, HFI.out.2.2, fun _ => ⟨by simp [Mg.text], by simp; try omega⟩⟩
            · have HN := Lib.hid (HT.out.t.text false s)
              have HSN := Lib.hid (HSB.out.text HT.out.t 10 false s (.string s))
              obtain ⟨w9, hw9⟩ : ∃ w9, wr.setCell ⟨w.heap.size, 10, none⟩ (.string s) = w9 := ⟨_, rfl⟩
              have hN := HN.out
              have hSN := HSN.out
              have hc9 : (if (false : Bool) then 9 else 10) = 10 := rfl
              rw [hc9, hw9] at hN
              rw [hw9] at hSN
              obtain ⟨W', hst, hres, hmat, hbel, hshu⟩ := hN.retS hSN
              have HLD := Lib.hid (mr_look hN.m)
              have HST := Lib.hid hst
              have HFI := Lib.hid (And.intro hmat (And.intro hbel hshu))
              have HRS := Lib.hid hres
              have hst9 : (Instr.storeAt 9 (.pointer (some ⟨w.heap.size, 10, none⟩)) (.string s)).run Tryz.prog wr = .ok () w9 := by
                rw [← hw9]
                have m9 := HT.out.t.m
                have c7 := row_cell m9 10 (.string M.tg) rfl
                have z7 := frozen_of_row wr w.heap.size 10 _ _ m9
                simp [Instr.storeAt, go_sem, c7, z7]
              have HST9 := Lib.hid hst9
              clear hst hres hmat hbel hshu hw9 hst9 hN hSN HN HSN hc9
              go_wp2_with (first | refine wpList_load_run rfl 38 (.tmp 4) rfl (some ⟨w.heap.size, 0, none⟩) rfl (.agg (mC (M.text false s) P C)) HLD.out ?_ | refine wpList_store_run rfl 38 (.tmp 8) (.tmp 151) rfl (some ⟨w.heap.size + 2, 0, none⟩) rfl (.agg (mC (M.text false s) P C)) rfl HST.out ?_ | refine wpList_store_run rfl 9 (.tmp 150) (.tmp 149) rfl (some ⟨w.heap.size, 10, none⟩) rfl (.string s) rfl HST9.out ?_)
              obtain ⟨y0, y1, y2, y3, y4, y5, y6, y7, y8, y9, y10⟩ := mg_block HRS.out
              refine bodyPost_ret (v := .tuple #[.agg (mC (M.text false s) P C), .int .i64 ((at' : Int) + (kk : Int)), .int .i64 0]) (by simp [results, Tryz.results63, go_sem, y0, y1, y2, y3, y4, y5, y6, y7, y8, y9, y10, mC]) rfl ?_
              rw [← HR5.out]
              exact ⟨_, P, C, _, rfl, HFI.out.1, HFI.out.2.1, HFI.out.2.2, fun _ => ⟨by simp [Mg.text], by simp; try omega⟩⟩
end Go.Proofs.YtlbfibnfmijahaaGreat

namespace Go.Proofs.YtlbfibnfmijahaaGreat
open Go.RowKit Go.Shelf
set_option maxRecDepth 100000
attribute [local go_sem] Oper.semAt_some

set_option maxHeartbeats 8000000 in
theorem rfield_some (S : Nat → Prop) (M : Mg) (f : Fd) (P C : Value) (A : Option Addr) (len cap : Nat) (l : List Int) (at' : Nat) (w : World) (hf : FdX f) (hso : f.so = 5 ∨ f.so = 6) (hlen : l.length = len) (hll : len ≤ 1000000) (hcap : len ≤ cap) (hby : Bys l) (hA : Nums .u8 w w.heap.size A l) (hat : at' ≤ len) (h1 : MAt w w.heap.size M P C) (hsh : Shun S w M P C) (kk z : Nat) (hx : Vi.get (l.drop at') = (z, kk, 0)) (hz : ¬ z = 0) (hm : (z : Int) ≤ f.mo) (hfit : at' + kk + z ≤ len) :
    Calls Tryz.prog 63 #[mV M P C, f.v, .slice A len cap, .int .i64 (at' : Int)] w fun e w' => RdS S w (rdF M f (l.drop at')) at' e w' := by
  obtain ⟨w2, hw2⟩ : ∃ w2, ((w.alloc (.cells (mC M P C) 38)).alloc (.cells f.cs 81)).alloc (.cells #[.int .i64 0, .int .i64 0, .int .i64 0, .int .i64 0, .int .i64 0, .int .i64 0, .int .i64 0, .slice none 0 0, .slice none 0 0, .string ⟨#[]⟩, .string ⟨#[]⟩] 38) = w2 := ⟨_, rfl⟩
  have hT : FldM w M f w2 P C := by rw [← hw2]; exact FldM.start h1
  have K := rget_len w.heap.size A len cap l (at' : Int) w2 hlen (by omega) (by omega) (by omega) hby (hA.below hT.t.b)
  rw [Int.toNat_natCast] at K
  have hle := Vi.get_le (l.drop at')
  obtain ⟨rx, hrx⟩ : ∃ rx, rdF M f (l.drop at') = rx := ⟨_, rfl⟩
  rw [hrx]
  unfold rdF at hrx
  rw [if_neg (show ¬ f.so = 1 by omega), if_neg (show ¬ f.so = 2 by omega), if_neg (show ¬ f.so = 3 by omega), if_neg (show ¬ f.so = 4 by omega)] at hrx
  rw [hx] at K hle hrx
  simp only at hle hrx
  unfold RGetR at K
  simp only at K
  rw [List.length_drop, hlen] at hle
  obtain ⟨d0, d1, d2, d3, d4, -, -⟩ := fd_block hT.f
  have hle0 := hf.tex hso
  have hmo1 : f.mo = 64 ∨ f.mo = 16 := by
    rcases hso with h | h
    · exact .inl (hf.mo.2.2.1 h)
    · exact .inr (hf.mo.2.2.2 h)
  obtain ⟨mo, hmo⟩ : ∃ mo, f.mo = mo := ⟨_, rfl⟩
  obtain ⟨so, hsoe⟩ : ∃ so, f.so = so := ⟨_, rfl⟩
  rw [hmo] at d4 hmo1 hrx hm
  rw [hle0] at d3 hrx
  rw [hsoe] at d1 hso hrx
  rw [if_neg (show ¬ (z = 0 ∧ (0 : Int) < 0) by omega)] at hrx
  rw [List.drop_drop] at hrx
  unfold rdT at hrx
  rw [if_neg (show ¬ (l.drop (at' + kk)).length < z by rw [List.length_drop]; omega)] at hrx
  obtain ⟨A9, hA9⟩ : ∃ A9, (if cap = at' + kk then A else A.map (·.add (at' + kk))) = A9 := ⟨_, rfl⟩
  obtain ⟨c9, hc9⟩ : ∃ c9, cap - (at' + kk) = c9 := ⟨_, rfl⟩
  obtain ⟨s, hs⟩ : ∃ s, txt ((l.drop (at' + kk)).take z) = s := ⟨_, rfl⟩
  have hcv : (convert 49 9 (.slice A9 z c9)).run Tryz.prog w2 = .ok (.string s) w2 := by
    have h2 := ((hA.below hT.t.b).mono hT.t.b.size).drop (i := at' + kk) (cap := cap) (by omega)
    rw [← hA9, ← hs]
    exact conv_txt w2.heap.size _ z c9 ((l.drop (at' + kk)).take z) w2 (by rw [List.length_take, List.length_drop]; omega) (h2.take z)
  have hbt := bys_ok (l := (l.drop (at' + kk)).take z) fun c hc => hby c (List.mem_of_mem_drop (List.mem_of_mem_take hc))
  have hn : s.size = z := by rw [← hs, txt_size, List.length_take, List.length_drop]; omega
  have hsl : ∀ W, (Instr.slice 49 (.slice A len cap) (some (.int .i64 ((at' : Int) + (kk : Int)))) (some (.int .i64 ((at' : Int) + (kk : Int) + (z : Int)))) none).run Tryz.prog W = .ok (.slice A9 z c9) W := fun W => by
    have := slice18 A len cap (at' + kk) z (by omega) hcap W
    rw [hA9, hc9] at this
    simpa using this
  rw [hs] at hbt hrx
  have HBT2 := Lib.hid hbt
  have HW2 := Lib.hid hw2
  have HT := Lib.hid hT
  have HSB : Hid (Shun S w2 M P C) := Lib.hid (hsh.later hT.t.b)
  clear hsh
  have K := Lib.hid K
  obtain ⟨X0, hX0⟩ : ∃ X0, f.cs = X0 := ⟨_, rfl⟩
  rw [hX0] at HW2
  have hs1 : (so == 1) = false := by simp; omega
  have hs2 : (so == 2) = false := by simp; omega
  have hs3 : (so == 3) = false := by simp; omega
  have hs4 : (so == 4) = false := by simp; omega
  unfold mV Fd.v
  rw [hX0]
  rw [if_neg (show ¬ (0 : Nat) ≠ 0 by simp), if_neg (show ¬ mo < ((z : Nat) : Int) by omega)] at hrx
  have HR0 := Lib.hid hrx
  clear hX0 hw2 hT hx hA hby hlen h1 d0 hmo hsoe hle0 hf hA9 hc9 hs hbt hrx
  have hz0 : ¬ (z : Int) = 0 := by omega
  have hf9 : (z : Int) ≤ (len : Int) - ((at' : Int) + (kk : Int)) := by omega
  go_enter Tryz.func63, Tryz.ntmps63
  go_wp2_with fail
  rw [HW2.out]
  refine K.out.mono ?_
  rintro e w3 ⟨rfl, rfl⟩
  clear K
  go_wp2_with fail
  go_loopw [15] (fun iv wr => ∃ j : Nat, j ≤ z ∧ iv = .int .i64 (j : Int) ∧ Hid (∀ b ∈ s.data.toList.take j, byOk b) ∧ wr = w2) (fun iv _ => z - (intOf iv).toNat)
  case atStart => exact ⟨0, by omega, rfl, Lib.hid (by simp), rfl⟩
  case round =>
            obtain ⟨j, hj, rfl, HB, rfl⟩ := hrel
            rcases Nat.lt_or_ge j z with hlt | hge
            · have hg : s.data.toList[j]? = some (s[j]'(by omega)) := byte_at s j (by omega)
              by_cases hb : byOk (s[j]'(by omega))
              · have HB2 : Hid (∀ b ∈ s.data.toList.take (j + 1), byOk b) := Lib.hid (fun b hb2 => by
                  rw [List.take_add_one, hg, List.mem_append] at hb2
                  rcases hb2 with hb2 | hb2
                  · exact HB.out b hb2
                  · simp at hb2; subst hb2; exact hb)
                unfold byOk at hb
                clear hg hsl hcv
                go_wp2_with fail
                go_roundw
                case rel => exact ⟨j + 1, by omega, by go_num, HB2, trivial⟩
                case measure => simp [intOf]; omega
              · have hno : ¬ ∀ b ∈ s.data.toList, byOk b := fun h => hb (h _ (List.mem_of_getElem? hg))
                have hrd := HR0.out
                rw [HBT2.out] at hno
                rw [if_neg hno, if_pos (by simp)] at hrd
                have HR5 := Lib.hid hrd
                clear hrd hno hsl hcv
                unfold byOk at hb
                clear hg
                obtain ⟨W', hst, hres, hmat, hbel, hshu⟩ := HT.out.t.retS HSB.out
                have HLD := Lib.hid (mr_look HT.out.t.m)
                have HST := Lib.hid hst
                have HFI := Lib.hid (And.intro hmat (And.intro hbel hshu))
                have HRS := Lib.hid hres
                clear hst hres hmat hbel hshu
                go_wp2_with (first | refine wpList_load_run rfl 38 (.tmp 4) rfl (some ⟨w.heap.size, 0, none⟩) rfl (.agg (mC M P C)) HLD.out ?_ | refine wpList_store_run rfl 38 (.tmp 8) (.tmp 142) rfl (some ⟨w.heap.size + 2, 0, none⟩) rfl (.agg (mC M P C)) rfl HST.out ?_)
                all_goals
                  obtain ⟨y0, y1, y2, y3, y4, y5, y6, y7, y8, y9, y10⟩ := mg_block HRS.out
                  refine bodyPost_ret (v := .tuple #[.agg (mC M P C), .int .i64 ((at' : Int)), .int .i64 (19)]) (by simp [results, Tryz.results63, go_sem, y0, y1, y2, y3, y4, y5, y6, y7, y8, y9, y10, mC]) rfl ?_
                  rw [← HR5.out]
                  exact ⟨_, P, C, _, rfl, HFI.out.1, HFI.out.2.1, HFI.out.2.2, fun h => by simp at h⟩
            · obtain rfl : j = z := by omega
              have hal : ∀ b ∈ s.data.toList, byOk b := by
                have h2 := HB.out
                rwa [List.take_of_length_le (by show s.data.toList.length ≤ _; rw [Array.length_toList]; exact Nat.le_of_eq hn)] at h2
              have hrd := HR0.out
              rw [HBT2.out] at hal
              rw [if_pos hal] at hrd
              simp only [ne_eq, not_true_eq_false, if_false] at hrd
              have HR5 := Lib.hid hrd
              clear hrd hal
              rcases hso with rfl | rfl
              · have HN := Lib.hid (HT.out.t.text true s)
                have HSN := Lib.hid (HSB.out.text HT.out.t 9 true s (.string s))
                obtain ⟨w9, hw9⟩ : ∃ w9, wr.setCell ⟨w.heap.size, 9, none⟩ (.string s) = w9 := ⟨_, rfl⟩
                have hN := HN.out
                have hSN := HSN.out
                have hc9 : (if (true : Bool) then 9 else 10) = 9 := rfl
                rw [hc9, hw9] at hN
                rw [hw9] at hSN
                obtain ⟨W', hst, hres, hmat, hbel, hshu⟩ := hN.retS hSN
                have HLD := Lib.hid (mr_look hN.m)
                have HST := Lib.hid hst
                have HFI := Lib.hid (And.intro hmat (And.intro hbel hshu))
                have HRS := Lib.hid hres
                have hst9 : (Instr.storeAt 9 (.pointer (some ⟨w.heap.size, 9, none⟩)) (.string s)).run Tryz.prog wr = .ok () w9 := by
                  rw [← hw9]
                  have m9 := HT.out.t.m
                  have c7 := row_cell m9 9 (.string M.tx) rfl
                  have z7 := frozen_of_row wr w.heap.size 9 _ _ m9
                  simp [Instr.storeAt, go_sem, c7, z7]
                have HST9 := Lib.hid hst9
                clear hst hres hmat hbel hshu hw9 hst9 hN hSN HN HSN hc9
                go_wp2_with (first | refine wpList_load_run rfl 38 (.tmp 4) rfl (some ⟨w.heap.size, 0, none⟩) rfl (.agg (mC (M.text true s) P C)) HLD.out ?_ | refine wpList_store_run rfl 38 (.tmp 8) (.tmp 151) rfl (some ⟨w.heap.size + 2, 0, none⟩) rfl (.agg (mC (M.text true s) P C)) rfl HST.out ?_ | refine wpList_store_run rfl 9 (.tmp 148) (.tmp 147) rfl (some ⟨w.heap.size, 9, none⟩) rfl (.string s) rfl HST9.out ?_)
                obtain ⟨y0, y1, y2, y3, y4, y5, y6, y7, y8, y9, y10⟩ := mg_block HRS.out
                refine bodyPost_ret (v := .tuple #[.agg (mC (M.text true s) P C), .int .i64 ((at' : Int) + (kk : Int) + (j : Int)), .int .i64 0]) (by simp [results, Tryz.results63, go_sem, y0, y1, y2, y3, y4, y5, y6, y7, y8, y9, y10, mC]) rfl ?_
                rw [← HR5.out]
                exact ⟨_, P, C, _, rfl, HFI.out.1, HFI.out.2.1, HFI.out.2.2, fun _ => ⟨by simp [Mg.text], by simp; try omega⟩⟩
              · have HN := Lib.hid (HT.out.t.text false s)
                have HSN := Lib.hid (HSB.out.text HT.out.t 10 false s (.string s))
                obtain ⟨w9, hw9⟩ : ∃ w9, wr.setCell ⟨w.heap.size, 10, none⟩ (.string s) = w9 := ⟨_, rfl⟩
                have hN := HN.out
                have hSN := HSN.out
                have hc9 : (if (false : Bool) then 9 else 10) = 10 := rfl
                rw [hc9, hw9] at hN
                rw [hw9] at hSN
                obtain ⟨W', hst, hres, hmat, hbel, hshu⟩ := hN.retS hSN
                have HLD := Lib.hid (mr_look hN.m)
                have HST := Lib.hid hst
                have HFI := Lib.hid (And.intro hmat (And.intro hbel hshu))
                have HRS := Lib.hid hres
                have hst9 : (Instr.storeAt 9 (.pointer (some ⟨w.heap.size, 10, none⟩)) (.string s)).run Tryz.prog wr = .ok () w9 := by
                  rw [← hw9]
                  have m9 := HT.out.t.m
                  have c7 := row_cell m9 10 (.string M.tg) rfl
                  have z7 := frozen_of_row wr w.heap.size 10 _ _ m9
                  simp [Instr.storeAt, go_sem, c7, z7]
                have HST9 := Lib.hid hst9
                clear hst hres hmat hbel hshu hw9 hst9 hN hSN HN HSN hc9
                go_wp2_with (first | refine wpList_load_run rfl 38 (.tmp 4) rfl (some ⟨w.heap.size, 0, none⟩) rfl (.agg (mC (M.text false s) P C)) HLD.out ?_ | refine wpList_store_run rfl 38 (.tmp 8) (.tmp 151) rfl (some ⟨w.heap.size + 2, 0, none⟩) rfl (.agg (mC (M.text false s) P C)) rfl HST.out ?_ | refine wpList_store_run rfl 9 (.tmp 150) (.tmp 149) rfl (some ⟨w.heap.size, 10, none⟩) rfl (.string s) rfl HST9.out ?_)
                obtain ⟨y0, y1, y2, y3, y4, y5, y6, y7, y8, y9, y10⟩ := mg_block HRS.out
                refine bodyPost_ret (v := .tuple #[.agg (mC (M.text false s) P C), .int .i64 ((at' : Int) + (kk : Int) + (j : Int)), .int .i64 0]) (by simp [results, Tryz.results63, go_sem, y0, y1, y2, y3, y4, y5, y6, y7, y8, y9, y10, mC]) rfl ?_
                rw [← HR5.out]
                exact ⟨_, P, C, _, rfl, HFI.out.1, HFI.out.2.1, HFI.out.2.2, fun _ => ⟨by simp [Mg.text], by simp; try omega⟩⟩
theorem rfield_text (S : Nat → Prop) (M : Mg) (f : Fd) (P C : Value) (A : Option Addr) (len cap : Nat) (l : List Int) (at' : Nat) (w : World) (hf : FdX f) (hso : f.so = 5 ∨ f.so = 6) (hlen : l.length = len) (hll : len ≤ 1000000) (hcap : len ≤ cap) (hby : Bys l) (hA : Nums .u8 w w.heap.size A l) (hat : at' ≤ len) (h1 : MAt w w.heap.size M P C) (hsh : Shun S w M P C) :
    Calls Tryz.prog 63 #[mV M P C, f.v, .slice A len cap, .int .i64 (at' : Int)] w fun e w' => RdS S w (rdF M f (l.drop at')) at' e w' := by
  obtain ⟨⟨z, kk, er⟩, hg⟩ : ∃ g, Vi.get (l.drop at') = g := ⟨_, rfl⟩
  have hle := Vi.get_le (l.drop at')
  rw [hg, List.length_drop, hlen] at hle
  simp only at hle
  have hmo1 : f.mo = 64 ∨ f.mo = 16 := by
    rcases hso with h | h
    · exact .inl (hf.mo.2.2.1 h)
    · exact .inr (hf.mo.2.2.2 h)
  by_cases hb : er = 0 ∧ (z : Int) ≤ f.mo ∧ at' + kk + z ≤ len
  · obtain ⟨rfl, hm, hfit⟩ := hb
    by_cases hz : z = 0
    · subst hz
      exact rfield_none S M f P C A len cap l at' w hf hso hlen hll hcap hby hA hat h1 hsh kk 0 hg rfl
    · exact rfield_some S M f P C A len cap l at' w hf hso hlen hll hcap hby hA hat h1 hsh kk z hg hz hm hfit
  · exact rfield_bad S M f P C A len cap l at' w hf hso hlen hll hcap hby hA hat h1 hsh (by rw [hg]; simp only; omega)
end Go.Proofs.YtlbfibnfmijahaaGreat

namespace Go.Proofs.YtlbfibnfmijahaaGreat
open Go.RowKit Go.Shelf
set_option maxRecDepth 100000
attribute [local go_sem] Oper.semAt_some

/-- a field that is read, of any sort -/
theorem rfield_any (S : Nat → Prop) (M : Mg) (f : Fd) (P C : Value) (A : Option Addr) (len cap : Nat) (l : List Int) (at' : Nat) (w : World) (hf : FdX f) (hm1 : f.so = 1 → 0 ≤ f.mo) (hs : Msm M) (hS : ∀ x, S x → x < w.heap.size) (hlen : l.length = len) (hll : len ≤ 1000000) (hcap : len ≤ cap) (hby : Bys l) (hA : Nums .u8 w w.heap.size A l) (hat : at' ≤ len) (h1 : MAt w w.heap.size M P C) (hsh : Shun S w M P C) :
    Calls Tryz.prog 63 #[mV M P C, f.v, .slice A len cap, .int .i64 (at' : Int)] w fun e w' => RdS S w (rdF M f (l.drop at')) at' e w' := by
  rcases so_ways hf with h | h | h | h | h | h
  · exact rfield_one S M f P C A len cap l at' w hf h (hm1 h) hlen hll hby hA hat h1 hsh
  · exact rfield_two S M f P C A len cap l at' w hf h hlen hll hby hA hat h1 hsh
  · exact rfield_path S M f P C A len cap l at' w hf h hs.p hS hlen hll hby hA hat h1 hsh
  · exact rfield_cells S M f P C A len cap l at' w hf h hs.c hS hlen hll hby hA hat h1 hsh
  · exact rfield_text S M f P C A len cap l at' w hf (.inl h) hlen hll hcap hby hA hat h1 hsh
  · exact rfield_text S M f P C A len cap l at' w hf (.inr h) hlen hll hcap hby hA hat h1 hsh
/-- lists that lie in no message's box lie not in this one -/
theorem NoM.nux {W : World} {g : Nat} {a : Option Addr} {zs : List Int} {cs : Array Value} (h : NoM W a zs) (hn : Nums .i64 W W.heap.size a zs) (hg : W.heap[g]? = some (.cells cs 38 (0, 0))) : NuX W g g a zs := fun hne => by
  obtain ⟨b, off, cs2, t, e, hh, ht⟩ := h hne
  obtain ⟨b2, off2, e2, -, hc⟩ := hn hne
  rw [e] at e2
  injection e2 with e2
  injection e2 with e3 e4
  subst e3
  subst e4
  have hne2 : b ≠ g := fun e => by
    subst e
    rw [hh] at hg
    injection hg with hg
    injection hg with _ hg
    exact ht hg
  exact ⟨b, off, e, hne2, hne2, hc⟩
/-- one block more that they shun -/
theorem Shun.box {S : Nat → Prop} {W : World} {M : Mg} {P C : Value} {g : Nat} {cs : Array Value} (h : Shun S W M P C) (hm : MAt W W.heap.size M P C) (hg : W.heap[g]? = some (.cells cs 38 (0, 0))) : Shun (fun q => S q ∨ q = g) W M P C := by
  obtain ⟨⟨a, c, e1, -, n1⟩, ⟨a', c', e2, -, n2⟩⟩ := hm
  refine ⟨fun x hx => ?_, h.2⟩
  rcases hx with hx | rfl
  · exact h.1 x hx
  · refine ⟨fun a3 n3 c3 e => ?_, fun a3 n3 c3 e => ?_⟩
    · have := h.2.1 _ _ _ e
      rw [e1] at e
      injection e with e
      subst e
      exact this.nux n1 hg
    · have := h.2.2 _ _ _ e
      rw [e2] at e
      injection e with e
      subst e
      exact this.nux n2 hg
/-- what region 12 knows of what it makes -/
def F12 (S : Nat → Prop) (lo : Nat) (E : Nat) (N' : Mg) (p' : Int) (s : Tmp) (x : Value) (W : World) : Prop :=
  match s with
  | 51 => ∃ (M' : Mg) (P C : Value) (a' : Int), x = .tuple #[mV M' P C, .int .i64 a', .int .i64 (E : Int)] ∧ MAt W W.heap.size M' P C ∧ Shun S W M' P C ∧ (E = 0 → M' = N' ∧ a' = p')
  | 43 => ∃ (M' : Mg) (P C : Value) (a' : Int), x = .tuple #[mV M' P C, .int .i64 a', .int .i64 (E : Int)] ∧ MAt W W.heap.size M' P C ∧ Shun S W M' P C ∧ (E = 0 → M' = N' ∧ a' = p')
  | 52 => ∃ (M' : Mg) (P C : Value), x = mV M' P C ∧ MAt W W.heap.size M' P C ∧ Shun S W M' P C ∧ (E = 0 → M' = N')
  | 53 => ∃ a' : Int, x = .int .i64 a' ∧ (E = 0 → a' = p')
  | _ => ∃ g, x = .pointer (some ⟨g, 0, none⟩) ∧ lo ≤ g ∧ W.heap[g]? = some (.cells #[.int .i64 0, .int .i64 0, .int .i64 0, .int .i64 0, .int .i64 0, .int .i64 0, .int .i64 0, .slice none 0 0, .slice none 0 0, .string ⟨#[]⟩, .string ⟨#[]⟩] 38 (0, 0))
theorem F12.later {S : Nat → Prop} {lo : Nat} {E : Nat} {N' : Mg} {p' : Int} {s : Tmp} {x : Value} {W W' : World} (h : F12 S lo E N' p' s x W) (hb : Below W.heap.size W W') : F12 S lo E N' p' s x W' := by
  unfold F12 at *
  split at h
  · obtain ⟨M', P, C, a', e, h1, h2, h3⟩ := h; exact ⟨M', P, C, a', e, h1.later hb, h2.later hb, h3⟩
  · obtain ⟨M', P, C, a', e, h1, h2, h3⟩ := h; exact ⟨M', P, C, a', e, h1.later hb, h2.later hb, h3⟩
  · obtain ⟨M', P, C, e, h1, h2, h3⟩ := h; exact ⟨M', P, C, e, h1.later hb, h2.later hb, h3⟩
  · exact h
  · obtain ⟨g, e, hg, h⟩ := h; exact ⟨g, e, hg, (hb.block _ (Array.getElem?_eq_some_iff.1 h).1).trans h⟩
/-- the document's Decode in a round: box b9 holds the message, box b6 the result's nothing -/
def RdI (w4 : World) (b6 b9 : Nat) (zs : List Int) (FL : List Fd) (k v : Int) (N : Mg) (P C : Value) (j p : Nat) (W : World) : Prop :=
  W.heap[b9]? = some (.cells (mC N P C) 38 (0, 0)) ∧ W.heap[b6]? = some (.cells (mC (Mg.zero 0) (.slice none 0 0) (.slice none 0 0)) 38 (0, 0)) ∧ MAt W W.heap.size N P C ∧ Shun (fun q => q = b9 ∨ q = b6) W N P C ∧ Below w4.heap.size w4 W ∧ Msm N ∧ Flds ((FL.drop j).filter fun f => decide (f.si ≤ v)) N ∧
  rdL (FL.filter fun f => decide (f.si ≤ v)) (Mg.zero k) zs = ((rdL ((FL.drop j).filter fun f => decide (f.si ≤ v)) N (zs.drop p)).1, p + (rdL ((FL.drop j).filter fun f => decide (f.si ≤ v)) N (zs.drop p)).2.1, (rdL ((FL.drop j).filter fun f => decide (f.si ≤ v)) N (zs.drop p)).2.2)
theorem rdecode_no (k v : Int) (A : Option Addr) (len cap : Nat) (l : List Int) (w : World) (hE : (v ≠ 1 ∧ v ≠ 2) ∨ FD k = []) : Calls Tryz.prog 40 #[.int .i64 k, .int .i64 v, .slice A len cap] w fun e w' => DecR w (bdec k v l) e w' := by
  obtain ⟨w2, hw2⟩ : ∃ w2, w.alloc (.cells #[.int .i64 0, .int .i64 0, .int .i64 0, .int .i64 0, .int .i64 0, .int .i64 0, .int .i64 0, .slice none 0 0, .slice none 0 0, .string ⟨#[]⟩, .string ⟨#[]⟩] 38) = w2 := ⟨_, rfl⟩
  have hb2 : Below w.heap.size w w2 := by rw [← hw2]; exact (Below.refl _ w).alloc (Nat.le_refl _) _
  have q6 : w2.heap[w.heap.size]? = some (.cells (mC (Mg.zero 0) (.slice none 0 0) (.slice none 0 0)) 38 (0, 0)) := by rw [← hw2]; exact World.alloc_heap_new _ _
  have HW2 := Lib.hid hw2
  have HB2 := Lib.hid hb2
  have HQ6 := Lib.hid q6
  have hZ : ∀ W E, Below w.heap.size w W → DecR w (E, Mg.zero 0) (.returned (.tuple #[.agg (mC (Mg.zero 0) (.slice none 0 0) (.slice none 0 0)), .int .i64 (E : Int)])) W := fun W E hW => ⟨_, rfl, ⟨.slice none 0 0, .slice none 0 0, rfl, ⟨none, 0, rfl, Nat.le_refl _, Nums.nil⟩, ⟨none, 0, rfl, Nat.le_refl _, Nums.nil⟩⟩, hW⟩
  obtain ⟨w3, hw3⟩ : ∃ w3, w2.setRow w.heap.size (mC (Mg.zero 0) (.slice none 0 0) (.slice none 0 0)) = w3 := ⟨_, rfl⟩
  by_cases hv : v ≠ 1 ∧ v ≠ 2
  · have hst := rm_store w2 w.heap.size _ (mC (Mg.zero 0) (.slice none 0 0) (.slice none 0 0)) q6 rfl rfl (mg_one _ _ _ _ _ _ _)
    have q7 := setRow_heap w2 _ _ (mC (Mg.zero 0) (.slice none 0 0) (.slice none 0 0)) _ _ q6
    have hof := Off.setRow (S := fun q => q = w.heap.size) (Off.refl _ w2) rfl (mC (Mg.zero 0) (.slice none 0 0) (.slice none 0 0))
    rw [hw3] at hst q7 hof
    have HST := Lib.hid hst
    have HQ7 := Lib.hid q7
    have HF := Lib.hid (hZ w3 10 (hb2.trans (hof.below (B := w.heap.size) (fun q hq => by omega) hb2.size)))
    have hr : bdec k v l = (10, Mg.zero 0) := by unfold bdec; rw [if_pos hv]
    rw [hr]
    obtain ⟨v1, v2⟩ := hv
    have e1 : (v != 1) = true := by simpa using v1
    have e2 : (v != 2) = true := by simpa using v2
    clear hw2 hb2 q6 hst q7 hof hw3 hZ
    go_enter Tryz.func40, Tryz.ntmps40
    go_wp2_with (rw [HW2.out]; refine wpList_store_run rfl 38 (.tmp 6) (.tmp 21) rfl (some ⟨w.heap.size, 0, none⟩) rfl (.agg (mC (Mg.zero 0) (.slice none 0 0) (.slice none 0 0))) rfl HST.out ?_)
    obtain ⟨y0, y1, y2, y3, y4, y5, y6, y7, y8, y9, y10⟩ := mg_block HQ7.out
    refine bodyPost_ret (v := .tuple #[.agg (mC (Mg.zero 0) (.slice none 0 0) (.slice none 0 0)), .int .i64 10]) (by simp [results, Tryz.results40, go_sem, y0, y1, y2, y3, y4, y5, y6, y7, y8, y9, y10, mC]) rfl ?_
    exact HF.out
  · have hk : FD k = [] := by rcases hE with h | h; exact absurd h hv; exact h
    have hr : bdec k v l = (9, Mg.zero 0) := by unfold bdec; rw [if_neg hv, if_pos hk]
    rw [hr]
    have K2 := Lib.hid (rall_any k)
    have HK := Lib.hid hk
    have hv' : v = 1 ∨ v = 2 := by omega
    clear hw2 hb2 q6 hw3 hv hE hr hk
    rcases hv' with rfl | rfl
    all_goals
      go_enter Tryz.func40, Tryz.ntmps40
      go_wp2_with fail
      rw [HW2.out]
      refine (K2.out w2).mono ?_
      rintro e w4 ⟨Ad, c, rfl, -, -, hb4⟩
      rw [HK.out]
      have q9 := (hb4.block _ (Array.getElem?_eq_some_iff.1 HQ6.out).1).trans HQ6.out
      have hst := rm_store w4 w.heap.size _ (mC (Mg.zero 0) (.slice none 0 0) (.slice none 0 0)) q9 rfl rfl (mg_one _ _ _ _ _ _ _)
      have q7 := setRow_heap w4 _ _ (mC (Mg.zero 0) (.slice none 0 0) (.slice none 0 0)) _ _ q9
      have hof := Off.setRow (S := fun q => q = w.heap.size) (Off.refl _ w4) rfl (mC (Mg.zero 0) (.slice none 0 0) (.slice none 0 0))
      obtain ⟨w5, hw5⟩ : ∃ w5, w4.setRow w.heap.size (mC (Mg.zero 0) (.slice none 0 0) (.slice none 0 0)) = w5 := ⟨_, rfl⟩
      rw [hw5] at hst q7 hof
      have hb24 := HB2.out.trans (hb4.mono HB2.out.size)
      have HST := Lib.hid hst
      have HQ7 := Lib.hid q7
      have HF := Lib.hid (hZ w5 9 (hb24.trans (hof.below (B := w.heap.size) (fun q hq => by omega) hb24.size)))
      clear hst q7 hof hb4 q9 hw5 hb24
      simp only [List.length_nil]
      go_wp2_with (refine wpList_store_run rfl 38 (.tmp 6) (.tmp 27) rfl (some ⟨w.heap.size, 0, none⟩) rfl (.agg (mC (Mg.zero 0) (.slice none 0 0) (.slice none 0 0))) rfl HST.out ?_)
      obtain ⟨y0, y1, y2, y3, y4, y5, y6, y7, y8, y9, y10⟩ := mg_block HQ7.out
      refine bodyPost_ret (v := .tuple #[.agg (mC (Mg.zero 0) (.slice none 0 0) (.slice none 0 0)), .int .i64 9]) (by simp [results, Tryz.results40, go_sem, y0, y1, y2, y3, y4, y5, y6, y7, y8, y9, y10, mC]) rfl ?_
      exact HF.out
end Go.Proofs.YtlbfibnfmijahaaGreat

namespace Go.Proofs.YtlbfibnfmijahaaGreat
open Go.RowKit
/-- nothing but the way through -/
def Qn (Q : Exit → Act → World → Prop) : Exit → Act → World → Prop := fun e a w => e = .normal ∧ Q .normal a w
theorem upon_imp {P : Program} {o : Oper} {a : Act} {K K' : Act → World → Prop} {Q Q' : Exit → Act → World → Prop} (hK : ∀ a w, K a w → K' a w) (hQ : ∀ e a w, Q e a w → Q' e a w) {r : Result Next} (h : o.upon P a K Q r) : o.upon P a K' Q' r := by
  cases r with
  | ok n w' =>
    cases n <;> simp only [Oper.upon] at h ⊢
    case value u => exact hK _ _ h
    case skip => exact hK _ _ h
    case defer d => exact hK _ _ h
    case enter f args =>
      refine Calls.mono h fun e w'' he => ?_
      cases e with
      | returned u => exact hK _ _ he
      | panicked c => exact hQ _ _ _ he
      | outgrown => obtain ⟨a, w, h⟩ := he; exact ⟨a, w, hQ _ _ _ h⟩
    case row row args => exact Rows.mono h fun u w'' he => hK _ _ he
  | halt x w' =>
    cases x <;> simp only [Oper.upon] at h ⊢
    case panic u => exact hQ _ _ _ h
theorem wpAny_imp {P : Program} {md : Region.Mode} {ops : Array Oper} {Q Q' : Exit → Act → World → Prop} (hQ : ∀ e a w, Q e a w → Q' e a w) : ∀ (fuel : Nat) (listed : Array Bool) (a : Act) (w : World), wpAny P md ops Q fuel listed a w → wpAny P md ops Q' fuel listed a w
  | 0, _, _, _, h => ⟨h.1, hQ _ _ _ h.2⟩
  | fuel + 1, listed, a, w, h => ⟨fun h0 => hQ _ _ _ (h.1 h0), fun i hi => by
      have h1 := h.2 i hi
      unfold Go.wpOp at *
      cases ho : ops[i]? with
      | none => rw [ho] at h1; exact wpAny_imp hQ fuel _ _ _ h1
      | some o =>
        rw [ho] at h1
        simp only at h1 ⊢
        split
        · rename_i hw
          rw [if_pos hw] at h1
          rcases h1 with h1 | ⟨h1, a', w', h2⟩
          · exact .inl (upon_imp (fun a w h => wpAny_imp hQ fuel _ _ _ h) hQ h1)
          · exact .inr ⟨h1, a', w', hQ _ _ _ h2⟩
        · rename_i hw
          rw [if_neg hw] at h1
          exact wpAny_imp hQ fuel _ _ _ h1⟩
/-- a move, or an extract, that nothing guards -/
def lateB (o : Oper) : Bool := (match o.op with | .move _ => true | .extract _ _ => true | _ => false) && o.guard.isNone
theorem late_run {o : Oper} (hl : lateB o = true) (ρ : Operand → Value) (P : Program) : (∃ v, ∀ W, (execOp ρ o).run P W = .ok (.value v) W) ∨ ∀ W, ∃ x W', (execOp ρ o).run P W = .halt x W' := by
  obtain ⟨dst, op, type, pos, after, guard⟩ := o
  unfold lateB at hl
  cases op <;> simp only [Bool.false_and, Bool.true_and, Bool.false_eq_true] at hl
  case move x =>
    refine .inl ⟨ρ x, fun W => ?_⟩
    simp [execOp, go_sem]
  case extract t k =>
    simp only [execOp, Instr.extract]
    cases ht : ρ t with
    | tuple vs =>
      cases hk : vs[k]? with
      | none => exact .inr fun W => by simp [hk, go_sem]
      | some u => exact .inl ⟨u, fun W => by simp [hk, go_sem]⟩
    | _ => exact .inr fun W => by simp [go_sem]
theorem qn_not {Q : Exit → Act → World → Prop} {e : Exit} {a : Act} {w : World} (h : Qn Q e a w) (he : e ≠ .normal) : False := he h.1
section
variable {P : Program} {l : List Oper} {vs : List Value} {fs : List Tmp} {FS : Tmp → Value → World → Prop} {I : World → Prop} {a0 : Act}
theorem any_of_FTL {N n fu : Nat} {late : Nat → Bool} {Q' : Exit → Act → World → Prop} (hR : RG .any l.toArray N) (hN : N ≤ a0.tmps.size) (hlen : vs.length = l.length) (hI : Closed I) (hF : ∀ s x w w', FS s x w → Below w.heap.size w w' → FS s x w')
    (hob : ∀ (j : Nat) o v, j < n → l[j]? = some o → vs[j]? = some v → Ob P l.toArray I fs FS o v (lex l vs a0 j)) (hn : n < l.length)
    (hreach : ∀ t j, n ≤ t → t < l.length → j < n → late j = false → reachB .any l.toArray fu t j = true) (hlate : ∀ j o, late j = true → l[j]? = some o → lateB o = true)
    (hQ : ∀ (listed : Array Bool) b w, (∀ j, j < n → listed.getD j true = true) → (∀ t, n ≤ t → t < l.length → listed.getD t true = false) → Inv l vs fs FS I a0 listed b w → wpAny P .any l.toArray (Qn Q') (l.length - n) listed b w) :
    ∀ (f : Nat) (listed : Array Bool) (b : Act) (w : World), (listed.toList.take n).count false = f → (∀ t, n ≤ t → t < l.length → listed.getD t true = false) → Inv l vs fs FS I a0 listed b w → wpAny P .any l.toArray (Qn Q') (f + (l.length - n)) listed b w
  | 0, listed, b, w, hcn, hh, h => by
    rw [Nat.zero_add]
    exact hQ listed b w (fun j hj => count_take_zero hcn j hj) hh h
  | f + 1, listed, b, w, hcn, hh, h => by
    obtain ⟨i0, hi0, hu0⟩ := count_take_pos hcn
    rw [show f + 1 + (l.length - n) = (f + (l.length - n)) + 1 by omega]
    by_cases hall : ∀ j, j < n → late j = false → listed.getD j true = true
    · -- only moves and extracts are left ahead of the tail: the first of them comes first
      obtain ⟨i, hin, hun, hmin⟩ : ∃ i, i < n ∧ listed.getD i true = false ∧ ∀ j, j < i → listed.getD j true = true := by
        have key : ∀ m, m ≤ n → (∀ j, j < m → listed.getD j true = true) ∨ ∃ i, i < m ∧ listed.getD i true = false ∧ ∀ j, j < i → listed.getD j true = true := by
          intro m
          induction m with
          | zero => exact fun _ => .inl fun j hj => absurd hj (Nat.not_lt_zero _)
          | succ m ih =>
            intro hm
            rcases ih (by omega) with h1 | ⟨i, h1, h2, h3⟩
            · cases hc : listed.getD m true with
              | true =>
                refine .inl fun j hj => ?_
                rcases Nat.lt_or_ge j m with h4 | h4
                · exact h1 j h4
                · obtain rfl : j = m := by omega
                  exact hc
              | false => exact .inr ⟨m, by omega, hc, h1⟩
            · exact .inr ⟨i, by omega, h2, h3⟩
        rcases key n (Nat.le_refl _) with h1 | ⟨i, h1, h2, h3⟩
        · rw [h1 i0 hi0] at hu0; cases hu0
        · exact ⟨i, h1, h2, h3⟩
      have hil : i < l.length := by omega
      obtain ⟨o, ho2⟩ : ∃ o, l[i]? = some o := ⟨_, List.getElem?_eq_getElem hil⟩
      have ho : l.toArray[i]? = some o := by simpa using ho2
      have hla : late i = true := by
        cases hc : late i with
        | true => rfl
        | false => rw [hall i hin hc] at hun; cases hun
      have hlo := hlate i o hla ho2
      obtain ⟨v, hv⟩ : ∃ v, vs[i]? = some v := ⟨_, List.getElem?_eq_getElem (by rw [hlen]; exact hil)⟩
      have hp : ∀ e ∈ o.after, Region.binds .any e = true → listed.getD e.on true = true := fun e he hb => hmin _ (hR.back i o ho e he hb)
      have hls := h.lsize
      have hr : i ∈ Region.ready .any l.toArray listed := mem_ready.2 ⟨hun, o, ho, fun e he hb => by
        have h1 := hp e he hb
        have h2 := hR.back i o ho e he hb
        rw [Array.getD_eq_getD_getElem?] at h1 ⊢
        rw [Array.getElem?_eq_getElem (by omega)] at h1 ⊢
        exact h1⟩
      have hw : Region.wanted o (yielded l.toArray b.tmps) = true := by
        unfold lateB at hlo
        rw [Bool.and_eq_true] at hlo
        unfold Region.wanted
        rw [Option.isNone_iff_eq_none.1 hlo.2]
      have hop := op_of_F (Q' := Qn Q') (K := fun a' w' => w' = w → ∀ d, o.dst = some d → (d ∈ fs → ∃ x, a'.tmps[d]? = some x ∧ FS d x w) ∧ (d ∉ fs → a'.tmps[d]? = vs[i]?)) hR hN hlen h ho2 hun hp hv (hob i o v hin ho2 hv) (fun u w' _ hu e d hd => by
        subst e
        have hlt : d < b.tmps.size := by
          rw [h.size]
          exact Nat.lt_of_lt_of_le (hR.small i o d ho hd) hN
        rw [hd]
        exact ⟨fun hf => ⟨u, put_same u hlt, (hu d hd).1 hf⟩, fun hf => (put_same u hlt).trans ((hu d hd).2 hf).symm⟩)
      unfold Go.wpOp at hop
      simp only [ho] at hop
      rw [if_pos hw] at hop
      obtain ⟨u, hval⟩ : ∃ u, ∀ W, (execOp b.eval o).run P W = .ok (.value u) W := by
        rcases late_run hlo b.eval P with h1 | h1
        · exact h1
        · obtain ⟨x, W', h2⟩ := h1 w
          rcases hop with hop | ⟨_, a', w', hq⟩
          · unfold Oper.wp at hop
            rw [h2] at hop
            cases x <;> simp only [Oper.upon] at hop
            exact (qn_not hop (by simp)).elim
          · exact (qn_not hq (by simp)).elim
      have hu : ∀ d, o.dst = some d → (d ∈ fs → FS d u w) ∧ (d ∉ fs → vs[i]? = some u) := by
        rcases hop with hop | ⟨_, a', w', hq⟩
        · unfold Oper.wp at hop
          rw [hval w] at hop
          simp only [Oper.upon] at hop
          intro d hd
          have hlt : d < b.tmps.size := by
            rw [h.size]
            exact Nat.lt_of_lt_of_le (hR.small i o d ho hd) hN
          obtain ⟨h1, h2⟩ := hop trivial d hd
          rw [hd, put_same u hlt] at h1 h2
          refine ⟨fun hf => ?_, fun hf => (h2 hf).symm⟩
          obtain ⟨x, hx, hfx⟩ := h1 hf
          rw [Option.some.inj hx]; exact hfx
        · exact (qn_not hq (by simp)).elim
      refine wpAny_first (v := u) ho hR.sel (fun c a w hq => (qn_not hq (by simp)).elim) _ listed b w (fun j oj hj hji hunj hno => ?_) hr (.inl ⟨hw, hval⟩) ?_
      · -- apart
        have hnj : ∀ e ∈ o.after, Region.binds .any e = true → e.on ≠ j := fun e he hb heq => by
          rw [← heq, hp e he hb] at hunj; cases hunj
        have h1 : ∀ d, o.dst = some d → d ∉ oj.looksAt l.toArray := fun d hd hdl => by
          rcases hR.look j i oj o d hj ho hd hdl with ⟨_, e, he, hb, heq⟩ | ⟨_, e, he, hb, heq⟩
          · exact hno e he hb heq
          · exact hnj e he hb heq
        have h2 : ∀ d, o.dst = some d → oj.dst ≠ some d := fun d hd => hR.once j i oj o d hj ho hd hji
        have h3 : ∀ d, oj.dst = some d → d ∉ o.looksAt l.toArray := fun d hd hdl => by
          rcases hR.look i j o oj d ho hj hd hdl with ⟨_, e, he, hb, heq⟩ | ⟨_, e, he, hb, heq⟩
          · exact hnj e he hb heq
          · exact hno e he hb heq
        unfold Oper.apart
        rw [Bool.and_eq_true]
        constructor
        · cases hd : o.dst with
          | none => rfl
          | some d => simpa using ⟨h1 d hd, h2 d hd⟩
        · cases hd : oj.dst with
          | none => rfl
          | some d => simpa using h3 d hd
      · have hcnt := count_take hin hun
        exact any_of_FTL hR hN hlen hI hF hob hn hreach hlate hQ f _ _ w (by omega) (fun t h1 h2 => by rw [getD_set_far _ (by omega)]; exact hh t h1 h2) (h.next hR hN hI hF ho2 hp (Below.refl _ _) hu)
    · obtain ⟨j0, hj0, hl0, hu1⟩ : ∃ j, j < n ∧ late j = false ∧ listed.getD j true = false := by
        simp only [Classical.not_forall] at hall
        obtain ⟨j, h1, h2, h3⟩ := hall
        exact ⟨j, h1, h2, by simpa using h3⟩
      refine ⟨fun h0 => ?_, fun i hi => ?_⟩
      · have hall := ready_all hR h.lsize h0
        rw [hall i0] at hu0
        cases hu0
      obtain ⟨hun, o, ho, hall⟩ := mem_ready.1 hi
      have ho2 : l[i]? = some o := by simpa using ho
      have hp : ∀ e ∈ o.after, Region.binds .any e = true → listed.getD e.on true = true := fun e he hb => by
        have h1 := hall e he hb
        rw [Array.getD_eq_getD_getElem?] at h1 ⊢
        cases hx : listed[e.on]? with
        | none => rfl
        | some y => rw [hx] at h1; simpa using h1
      have hin : i < n := by
        rcases Nat.lt_or_ge i n with h1 | h1
        · exact h1
        · have h2 := reach_ready h ho2 hp fu j0 (hreach i j0 h1 (List.getElem?_eq_some_iff.1 ho2).1 hj0 hl0)
          rw [h2] at hu1; cases hu1
      obtain ⟨v, hv⟩ : ∃ v, vs[i]? = some v := ⟨_, List.getElem?_eq_getElem (by rw [hlen]; exact (List.getElem?_eq_some_iff.1 ho2).1)⟩
      have hcnt := count_take hin hun
      exact op_of_F hR hN hlen h ho2 hun hp hv (hob i o v hin ho2 hv) fun u w' hb hu =>
        any_of_FTL hR hN hlen hI hF hob hn hreach hlate hQ f _ _ w' (by omega) (fun t h1 h2 => by rw [getD_set_far _ (by omega)]; exact hh t h1 h2) (h.next hR hN hI hF ho2 hp hb hu)
/-- ONE WALK IN THE TEXT's ORDER SERVES EVERY ORDER; the tail, behind place n, as it stands; lates: moves and extracts that the tail need not wait for -/
theorem wp_region_FTL {id : Nat} {Q : Exit → Act → World → Prop} {a : Act} {w : World} {l : List Oper} (N n fu : Nat) (lates : List Nat) (fs : List Tmp) (FS : Tmp → Value → World → Prop) (I : World → Prop) (hm : P.follows .mixedOrders = true) (hB : rgB .any l.toArray N = true)
    (hn : decide (n < l.length) = true) (hre : ((List.range (l.length - n)).all fun t => (List.range n).all fun j => lates.contains j || reachB .any l.toArray fu (n + t) j) = true) (hla : (lates.all fun j => ((l[j]?).map lateB).getD false) = true)
    (hq : Region.seqB .any l.toArray (l.length - n) n (List.replicate n true ++ List.replicate (l.length - n) false).toArray = true)
    (hfs : (fs.all fun s => (l.take n).any fun o => o.dst == some s) = true) (hN : N ≤ a.tmps.size) (hI : Closed I) (hF : ∀ s x w w', FS s x w → Below w.heap.size w w' → FS s x w') (hC : I w.drew)
    (h : wpF P l.toArray I fs FS (fun a' => ∀ xs w', I w' → (∀ s ∈ fs, FS s (xs s) w') → wpList P l.toArray (Qn Q) (l.drop n) (fill fs xs a') w') (l.take n) a) : (Code.region id l.toArray true).wp P Q a w := by
  have hR := rgB_spec hB
  have hn' : n < l.length := by simpa using hn
  obtain ⟨vs0, hlen0, hob0, hE0⟩ := wpF_vals (l.take n) a h
  have htl : (l.take n).length = n := by rw [List.length_take]; omega
  rw [htl] at hlen0 hE0
  obtain ⟨vs, hvs⟩ : ∃ vs, vs0 ++ List.replicate (l.length - n) undef = vs := ⟨_, rfl⟩
  have hlen : vs.length = l.length := by rw [← hvs, List.length_append, List.length_replicate]; omega
  have hlex : ∀ j, j ≤ n → lex (l.take n) vs0 a j = lex l vs a j := fun j hj => by rw [← hvs]; exact lex_take l vs0 _ a n j hj (by rw [hlen0, htl])
  have hob : ∀ (j : Nat) o v, j < n → l[j]? = some o → vs[j]? = some v → Ob P l.toArray I fs FS o v (lex l vs a j) := fun j o v hj ho hv => by
    rw [← hlex j (by omega)]
    refine hob0 j o v (by rw [List.getElem?_take, if_pos hj]; exact ho) ?_
    rw [← hvs, List.getElem?_append_left (by omega)] at hv
    exact hv
  rw [hlex n (Nat.le_refl _)] at hE0
  refine wp_region_any hm (wpAny_imp (Q := Qn Q) (fun e a w h => ?_) _ _ _ _ ?_)
  · obtain ⟨rfl, h⟩ := h
    exact h
  have hre' : ∀ t j, n ≤ t → t < l.length → j < n → lates.contains j = false → reachB .any l.toArray fu t j = true := fun t j h1 h2 h3 h4 => by
    rw [List.all_eq_true] at hre
    have h5 := hre (t - n) (List.mem_range.2 (by omega))
    rw [List.all_eq_true] at h5
    have h6 := h5 j (List.mem_range.2 h3)
    rw [h4, Bool.false_or, show n + (t - n) = t by omega] at h6
    exact h6
  have hla' : ∀ j o, lates.contains j = true → l[j]? = some o → lateB o = true := fun j o h1 h2 => by
    rw [List.all_eq_true] at hla
    have h3 := hla j (by simpa using h1)
    rw [h2] at h3
    exact h3
  have key := any_of_FTL (Q' := Q) (late := fun j => lates.contains j) (fu := fu) (l := l) (vs := vs) (fs := fs) (FS := FS) (I := I) (a0 := a) (n := n) hR hN hlen hI hF hob hn' hre' hla' ?_ n (Array.replicate l.toArray.size false) a w.drew (by
      simp only [List.size_toArray, Array.toList_replicate, List.take_replicate, List.count_replicate_self]; omega) (fun t _ ht => getD_in (by simpa using ht) (getD_replicate_false _ _)) ?_
  · rw [show n + (l.length - n) = l.toArray.size by simp; omega] at key
    exact key
  · intro listed b W hall hno hinv
    have hw : ∀ s ∈ fs, ∃ x, b.tmps[s]? = some x ∧ FS s x W := fun s hs => by
      rw [List.all_eq_true] at hfs
      have h1 := hfs s hs
      rw [List.any_eq_true] at h1
      obtain ⟨o, ho, hd⟩ := h1
      obtain ⟨j, hj, rfl⟩ := List.getElem_of_mem ho
      have hj1 : j < n := by rw [List.length_take] at hj; omega
      have hj2 : j < l.length := by omega
      have hd' : (l[j]).dst = some s := by simpa using hd
      obtain ⟨v, hv⟩ : ∃ v, vs[j]? = some v := ⟨_, List.getElem?_eq_getElem (by rw [hlen]; exact hj2)⟩
      exact (hinv.ins j l[j] s v (List.getElem?_eq_getElem hj2) (hall j hj1) hd' hv).1 hs
    have hb : b = fill fs (fun s => b.tmps.getD s undef) (lex l vs a n) := by
      have ht : b.tmps = (fill fs (fun s => b.tmps.getD s undef) (lex l vs a n)).tmps := by
        apply Array.ext_getElem?
        intro d
        by_cases hd : d ∈ fs
        · obtain ⟨x, hx, _⟩ := hw d hd
          have hlt : d < (lex l vs a n).tmps.size := by
            rw [(lex_size l vs a n).1, ← hinv.size]
            exact (Array.getElem?_eq_some_iff.1 hx).1
          rw [fill_in fs _ _ d hd hlt, hx]
          simp [hx]
        · rw [fill_out fs _ _ d hd]
          by_cases hwr : ∃ (j : Nat) (oj : Oper), j < n ∧ l[j]? = some oj ∧ oj.dst = some d
          · obtain ⟨j, oj, hjn, hj, hdj⟩ := hwr
            obtain ⟨v, hv⟩ : ∃ v, vs[j]? = some v := ⟨_, List.getElem?_eq_getElem (by rw [hlen]; exact (List.getElem?_eq_some_iff.1 hj).1)⟩
            have hj' : l.toArray[j]? = some oj := by simpa using hj
            rw [(hinv.ins j oj d v hj (hall j hjn) hdj hv).2 hd]
            exact (lex_in l vs a n j oj d v hj hjn hv hdj (Nat.lt_of_lt_of_le (hR.small _ _ _ hj' hdj) hN) fun i oi hi _ hne => hR.once i j oi oj d (by simpa using hi) hj' hdj hne).symm
          · rw [lex_out l vs a n d fun i oi hi hin hdi => hwr ⟨i, oi, hin, hi, hdi⟩]
            refine hinv.out d fun i oi hi hli hdi => hwr ⟨i, oi, ?_, hi, hdi⟩
            rcases Nat.lt_or_ge i n with h1 | h1
            · exact h1
            · rw [hno i h1 (List.getElem?_eq_some_iff.1 hi).1] at hli; cases hli
      have hd : b.defers = (fill fs (fun s => b.tmps.getD s undef) (lex l vs a n)).defers := by
        rw [(fill_size ..).2, (lex_size ..).2]
        exact hinv.defers
      cases b
      simp only at ht hd
      rw [Act.mk.injEq]
      exact ⟨ht, hd⟩
    have hL : listed = (List.replicate n true ++ List.replicate (l.length - n) false).toArray := by
      apply Array.ext
      · simp [hinv.lsize]; omega
      · intro j h1 h2
        have hj : j < l.length := by rw [← hinv.lsize]; exact h1
        by_cases hjn : j < n
        · have h3 := hall j hjn
          rw [Array.getD_eq_getD_getElem?, Array.getElem?_eq_getElem h1] at h3
          simp only [List.getElem_toArray]
          rw [List.getElem_append_left (by simpa using hjn)]
          simpa using h3
        · have h3 := hno j (by omega) hj
          rw [Array.getD_eq_getD_getElem?, Array.getElem?_eq_getElem h1] at h3
          simp only [List.getElem_toArray]
          rw [List.getElem_append_right (by simpa using Nat.le_of_not_lt hjn)]
          simpa using h3
    have hE := hE0 (fun s => b.tmps.getD s undef) W hinv.cls fun s hs => by
      obtain ⟨x, hx, hf⟩ := hw s hs
      simpa [hx] using hf
    rw [← hb] at hE
    have := wpAny_of_seq (md := .any) (Q' := Qn Q) (l.drop n) n listed b W (fun j => by simp [List.getElem?_drop]) (by rw [List.length_drop, hL]; exact hq) hE
    rwa [List.length_drop] at this
  · refine ⟨hC, rfl, rfl, fun _ _ => rfl, fun j o d v hj hlj => ?_, fun j o hj hlj => ?_, by simp⟩
    all_goals
      have hlt := (List.getElem?_eq_some_iff.1 hj).1
      rw [Array.getD_eq_getD_getElem?] at hlj
      simp [hlt] at hlj
/-- in the tail: an operation that looks at no memory -/
theorem wpList_val {ops : Array Oper} {rest : List Oper} {o : Oper} {a : Act} {w : World} {Q : Exit → Act → World → Prop} (hgd : o.guard = none) (v : Value) (hrun : ∀ W, (execOp a.eval o).run P W = .ok (.value v) W) (h : wpList P ops Q rest (a.put o.dst v) w) : wpList P ops Q (o :: rest) a w := by
  unfold wpList
  rw [if_pos (by simp [Region.wanted, hgd])]
  left
  unfold Oper.wp
  rw [hrun w]
  exact h
end
end Go.Proofs.YtlbfibnfmijahaaGreat

namespace Go.Proofs.YtlbfibnfmijahaaGreat
open Go.RowKit Go.Shelf
set_option maxRecDepth 100000
attribute [local go_sem] Oper.semAt_some

set_option maxHeartbeats 16000000 in
theorem rdecode_1 (k : Int) (A : Option Addr) (len cap : Nat) (zs : List Int) (w : World) (hlen : zs.length = len) (hll : len ≤ 1000000) (hcap : len ≤ cap) (hby : Bys zs) (hA : Nums .u8 w w.heap.size A zs) (hk : FD k ≠ []) : Calls Tryz.prog 40 #[.int .i64 k, .int .i64 1, .slice A len cap] w fun e w' => DecR w (bdec k 1 zs) e w' := by
  obtain ⟨w2, hw2⟩ : ∃ w2, w.alloc (.cells #[.int .i64 0, .int .i64 0, .int .i64 0, .int .i64 0, .int .i64 0, .int .i64 0, .int .i64 0, .slice none 0 0, .slice none 0 0, .string ⟨#[]⟩, .string ⟨#[]⟩] 38) = w2 := ⟨_, rfl⟩
  have hb2 : Below w.heap.size w w2 := by rw [← hw2]; exact (Below.refl _ w).alloc (Nat.le_refl _) _
  have q6 : w2.heap[w.heap.size]? = some (.cells (mC (Mg.zero 0) (.slice none 0 0) (.slice none 0 0)) 38 (0, 0)) := by rw [← hw2]; exact World.alloc_heap_new _ _
  have HW2 := Lib.hid hw2
  have HB2 := Lib.hid hb2
  have HQ6 := Lib.hid q6
  have HZ : Hid (∀ W E, Below w.heap.size w W → DecR w (E, Mg.zero 0) (.returned (.tuple #[.agg (mC (Mg.zero 0) (.slice none 0 0) (.slice none 0 0)), .int .i64 (E : Int)])) W) := Lib.hid fun W E hW => ⟨_, rfl, ⟨.slice none 0 0, .slice none 0 0, rfl, ⟨none, 0, rfl, Nat.le_refl _, Nums.nil⟩, ⟨none, 0, rfl, Nat.le_refl _, Nums.nil⟩⟩, hW⟩
  have hfl := FDv_flds k 1
  have HX1 := Lib.hid (show ∀ f ∈ FD k, f.so = 1 → 0 ≤ f.mo from FD_mo1 k)
  obtain ⟨R, hR⟩ : ∃ R, rdL (FDv k 1) (Mg.zero k) zs = R := ⟨_, rfl⟩
  obtain ⟨D, hD⟩ : ∃ D, bdec k 1 zs = D := ⟨_, rfl⟩
  have hbd : D = if R.1 ≠ 0 then (R.1, Mg.zero 0) else if R.2.1 < len then (3, Mg.zero 0) else (0, mproj R.2.2 1) := by
    rw [← hD]
    unfold bdec
    rw [if_neg (by omega), if_neg hk, hR, hlen]
  rw [hD]
  unfold FDv at hfl hR
  have K2 := Lib.hid (rall_any k)
  have h6 := FD_few k
  obtain ⟨L, hL⟩ : ∃ L, FD k = L := ⟨_, rfl⟩
  rw [hL] at hfl hR hk HX1 h6
  have HL := Lib.hid hL
  obtain ⟨n, hn⟩ : ∃ n, L.length = n := ⟨_, rfl⟩
  have hn0 : ¬ (n : Int) = 0 := fun h => hk (List.eq_nil_of_length_eq_zero (by omega))
  have h66 : n ≤ 6 := by omega
  have HN := Lib.hid hn
  have HFL := Lib.hid hfl
  have HRL := Lib.hid hR
  have HBD := Lib.hid hbd
  have HLEN := Lib.hid hlen
  have HBY := Lib.hid hby
  have HA := Lib.hid hA
  clear h6 hw2 hb2 q6 hfl hR hD hbd hL hn hk hlen hby hA
  go_enter Tryz.func40, Tryz.ntmps40
  go_wp2_with fail
  rw [HW2.out]
  refine (K2.out w2).mono ?_
  rintro e w4 ⟨Ad, c, rfl, hcap8, hrow, hb4⟩
  rw [HL.out] at hcap8 hrow ⊢
  rw [HN.out] at hcap8 ⊢
  have hs2 := HB2.out.size
  have hs6 := (Array.getElem?_eq_some_iff.1 HQ6.out).1
  have HB4 := Lib.hid (HB2.out.trans (hb4.mono hs2))
  have HR := Lib.hid hrow
  have hs4 := hb4.size
  have q64 := (hb4.block _ hs6).trans HQ6.out
  obtain ⟨w5, hw5⟩ : ∃ w5, w4.alloc (.cells #[.int .i64 0, .int .i64 0, .int .i64 0, .int .i64 0, .int .i64 0, .int .i64 0, .int .i64 0, .slice none 0 0, .slice none 0 0, .string ⟨#[]⟩, .string ⟨#[]⟩] 38) = w5 := ⟨_, rfl⟩
  have hb5 : Below w4.heap.size w4 w5 := by rw [← hw5]; exact (Below.refl _ w4).alloc (Nat.le_refl _) _
  have q5 : w5.heap[w4.heap.size]? = some (.cells (mC (Mg.zero 0) (.slice none 0 0) (.slice none 0 0)) 38 (0, 0)) := by rw [← hw5]; exact World.alloc_heap_new _ _
  have hst5 := rm_store w5 w4.heap.size _ (mC (Mg.zero k) (.slice none 0 0) (.slice none 0 0)) q5 rfl rfl (mg_one _ _ _ _ _ _ _)
  have q96 := setRow_heap w5 _ _ (mC (Mg.zero k) (.slice none 0 0) (.slice none 0 0)) _ _ q5
  have hof5 := Off.setRow (S := fun q => q = w4.heap.size) (Off.refl _ w5) rfl (mC (Mg.zero k) (.slice none 0 0) (.slice none 0 0))
  obtain ⟨w6, hw6⟩ : ∃ w6, w5.setRow w4.heap.size (mC (Mg.zero k) (.slice none 0 0) (.slice none 0 0)) = w6 := ⟨_, rfl⟩
  rw [hw6] at hst5 q96 hof5
  have hb46 : Below w4.heap.size w4 w6 := hb5.trans (hof5.below (B := w4.heap.size) (fun q hq => by omega) hb5.size)
  have q66 := (hb46.block _ (by omega)).trans q64
  have HI0 : Hid (RdI w4 w.heap.size w4.heap.size zs L k 1 (Mg.zero k) (.slice none 0 0) (.slice none 0 0) 0 0 w6) := Lib.hid ⟨q96, q66, ⟨⟨none, 0, rfl, Nat.le_refl _, Nums.nil⟩, ⟨none, 0, rfl, Nat.le_refl _, Nums.nil⟩⟩, ⟨fun _ _ => ⟨fun _ _ _ _ h => absurd rfl h, fun _ _ _ _ h => absurd rfl h⟩, fun _ _ _ _ h => absurd rfl h, fun _ _ _ _ h => absurd rfl h⟩, hb46, ⟨by simp [Mg.zero], by simp [Mg.zero], by show (ByteArray.mk #[]).size ≤ 80; decide, by show (ByteArray.mk #[]).size ≤ 80; decide⟩, by rw [List.drop_zero]; exact HFL.out, by simp⟩
  have HW5 := Lib.hid hw5
  have HST5 := Lib.hid hst5
  have hcap' : (n : Int) ≤ (c : Int) := by omega
  clear hrow hb4 hw5 hb5 q5 hst5 q96 hof5 hw6 hb46 q66 q64 K2 HFL HQ6
  go_wp2_with (rw [HW5.out]; refine wpList_store_run rfl 38 (.tmp 9) (.tmp 29) rfl (some ⟨w4.heap.size, 0, none⟩) rfl (.agg (mC (Mg.zero k) (.slice none 0 0) (.slice none 0 0))) rfl HST5.out ?_)
  go_loopw [10, 11, 12, 13, 14] (fun av iv _ _ _ wr => ∃ (j p : Nat) (N : Mg) (P C : Value), j ≤ n ∧ iv = .int .i64 (j : Int) ∧ av = .int .i64 (p : Int) ∧ p ≤ len ∧ Hid (RdI w4 w.heap.size w4.heap.size zs L k 1 N P C j p wr)) (fun _ iv _ _ _ _ => n - (intOf iv).toNat)
  case atStart => exact ⟨0, 0, _, _, _, by omega, rfl, rfl, by omega, HI0⟩
  case round =>
    obtain ⟨j, p, N, P, C, hj, rfl, rfl, hp, HI⟩ := hrel
    clear HI0
    have hi := HI.out
    unfold RdI at hi
    obtain ⟨i1, i2, i3, i4, i5, i6, i7, i8⟩ := hi
    have hsw := i5.size
    have hbw := HB4.out.trans (i5.mono HB4.out.size)
    rcases Nat.lt_or_ge j n with hlt | hge
    · obtain ⟨f, hf⟩ : ∃ f, L[j]? = some f := ⟨_, List.getElem?_eq_getElem (by rw [HN.out]; exact hlt)⟩
      obtain ⟨gr, rfl, hg1, hg2, e0, e1, e2, e3, e4, e5, e6⟩ := (FdsIn.up HR.out i5).seven hf
      have hj2 : (j : Int) < (n : Int) := by omega
      have hd : L.drop j = f :: L.drop (j + 1) := by
        obtain ⟨hlt, he⟩ := List.getElem?_eq_some_iff.1 hf
        rw [List.drop_eq_getElem_cons hlt, he]
      rw [hd] at i7 i8
      by_cases hsi : f.si ≤ 1
      · rw [List.filter_cons_of_pos (by simpa using hsi)] at i7 i8
        have hfx := i7.fdx f (List.mem_cons_self ..)
        have hst := rdL_step f ((L.drop (j + 1)).filter fun f => decide (f.si ≤ 1)) N (zs.drop p)
        have hok : ∀ u N', rdF N f (zs.drop p) = (0, u, N') → u ≤ (zs.drop p).length ∧ fE N' f = 0 ∧ N' = cp N N' f := fun u N' h => by
          have := rdFld_ok hfx (HBY.out.drop p) (i7.p f (List.mem_cons_self ..)) (i7.c f (List.mem_cons_self ..)) h
          exact ⟨this.1, this.2.2⟩
        have KF : Hid (∀ W, Below wr.heap.size wr W → Calls Tryz.prog 63 #[.agg (mC N P C), .agg #[.string f.nm, .int .i64 f.so, .int .i64 f.pl, .int .i64 f.le, .int .i64 f.mo, .int .i64 f.si, .int .i64 f.ab], .slice A len cap, .int .i64 (p : Int)] W fun e w' => RdS (fun q => q = w4.heap.size ∨ q = w.heap.size) W (rdF N f (zs.drop p)) p e w') := Lib.hid fun W hW => by
          have hsW := hW.size
          exact rfield_any (fun q => q = w4.heap.size ∨ q = w.heap.size) N f P C A len cap zs p W hfx (HX1.out f (List.mem_of_getElem? hf)) i6 (fun x hx => by have := (Array.getElem?_eq_some_iff.1 i1).1; omega) HLEN.out hll hcap HBY.out (((HA.out.below hbw).mono hbw.size).below hW |>.mono hW.size) hp (i3.later hW) (i4.later hW)
        obtain ⟨⟨E, u, N'⟩, hrd⟩ : ∃ r, rdF N f (zs.drop p) = r := ⟨_, rfl⟩
        rw [hrd] at KF hst hok
        simp only at hst
        rw [hst] at i8
        have LM : ∀ W, Below wr.heap.size wr W → (Instr.loadAt 38 (.pointer (some ⟨w4.heap.size, 0, none⟩))).run Tryz.prog W = .ok (.agg (mC N P C)) W := fun W hW => mr_look ((hW.block _ (Array.getElem?_eq_some_iff.1 i1).1).trans i1)
        have LG : ∀ W, Below wr.heap.size wr W → (Instr.loadAt 81 (.pointer (some ⟨gr, j * 7, none⟩))).run Tryz.prog W = .ok (.agg #[.string f.nm, .int .i64 f.so, .int .i64 f.pl, .int .i64 f.le, .int .i64 f.mo, .int .i64 f.si, .int .i64 f.ab]) W := fun W hW => by
          have t0 := (hW.cell (p := ⟨gr, j * 7, none⟩) hg2).trans e0
          have t1 := (hW.cell (p := ⟨gr, j * 7 + 1, none⟩) hg2).trans e1
          have t2 := (hW.cell (p := ⟨gr, j * 7 + 2, none⟩) hg2).trans e2
          have t3 := (hW.cell (p := ⟨gr, j * 7 + 3, none⟩) hg2).trans e3
          have t4 := (hW.cell (p := ⟨gr, j * 7 + 4, none⟩) hg2).trans e4
          have t5 := (hW.cell (p := ⟨gr, j * 7 + 5, none⟩) hg2).trans e5
          have t6 := (hW.cell (p := ⟨gr, j * 7 + 6, none⟩) hg2).trans e6
          simp [Instr.loadAt, go_sem, t0, t1, t2, t3, t4, t5, t6]
        have I1 := Lib.hid i1
        have I2 := Lib.hid i2
        have I5 := Lib.hid i5
        have I6 := Lib.hid i6
        have I7 := Lib.hid i7
        have I8 := Lib.hid i8
        have HOK := Lib.hid hok
        have HFX := Lib.hid hfx
        have HBW := Lib.hid hbw
        have h9l := (Array.getElem?_eq_some_iff.1 i1).1
        clear hst hok hrd hd hf hfx i1 i2 i3 i4 i5 i6 i7 i8 e0 e1 e2 e3 e4 e6 HI hbw
        go_wp2_with fail
        refine wp_region_FTL 69 13 6 [10, 11] [51, 43, 52, 53, 12] (F12 (fun q => q = w4.heap.size ∨ q = w.heap.size) wr.heap.size E N' ((p + u : Nat) : Int)) (fun W => Below wr.heap.size wr W) (by kernel_rfl) (by kernel_rfl) (by rfl) (by kernel_rfl) (by kernel_rfl) (by kernel_rfl) (by rfl) (by simp) (fun W W' h hb => h.trans (hb.mono h.size)) (fun q x W W' h hb => h.later hb) (Below.refl _ _).drew ?_
        simp only [List.take_succ_cons, List.take_zero, List.drop_succ_cons, List.drop_zero]
        refine wpF_load (ad := ⟨w4.heap.size, 0, none⟩) (.agg (mC N P C)) rfl (by rfl) (by rfl) (by rfl) LM ?_
        simp only [Act.put, List.setIfInBounds_toArray, List.set_cons_succ, List.set_cons_zero]
        repeat (refine wpF_pure rfl rfl ?_; go_big_quiet_step (fail); refine wpQuiet_nil ?_)
        refine wpF_load (ad := ⟨gr, j * 7, none⟩) (.agg #[.string f.nm, .int .i64 f.so, .int .i64 f.pl, .int .i64 f.le, .int .i64 f.mo, .int .i64 f.si, .int .i64 f.ab]) rfl (by rfl) (by rfl) (by rfl) LG ?_
        simp only [Act.put, List.setIfInBounds_toArray, List.set_cons_succ, List.set_cons_zero]
        repeat (refine wpF_pure rfl rfl ?_; go_big_quiet_step (fail); refine wpQuiet_nil ?_)
        refine wpF_callsrc 51 (f := 63) (args := #[.agg (mC N P C), .agg #[.string f.nm, .int .i64 f.so, .int .i64 f.pl, .int .i64 f.le, .int .i64 f.mo, .int .i64 f.si, .int .i64 f.ab], .slice A len cap, .int .i64 (p : Int)]) (by simp) rfl rfl rfl (fun x => by first | rfl | (simp [go_sem]; done)) (fun W hW => (KF.out W hW).mono fun e w' h => by
          obtain ⟨M', P', C', a', e, h1, h2, h3, h4⟩ := h
          exact ⟨_, e, ⟨M', P', C', a', rfl, h1, h3, h4⟩, h2⟩) ?_
        simp only [Act.put, List.setIfInBounds_toArray, List.set_cons_succ, List.set_cons_zero]
        refine wpF_mix 43 [51] (by simp) rfl (by kernel_rfl) (by kernel_rfl) (fun xs => by rfl) (fun xs V hV hx => ⟨xs 51, V, by simp [execOp, fill, Act.put, Act.eval, go_sem], hx 51 (by simp), Below.refl _ _⟩) ?_
        simp only [Act.put, List.setIfInBounds_toArray, List.set_cons_succ, List.set_cons_zero]
        refine wpF_mix 52 [43] (by simp) rfl (by kernel_rfl) (by kernel_rfl) (fun xs => by rfl) (fun xs V hV hx => ?_) ?_
        · obtain ⟨M', P', C', a', e, h1, h3, h4⟩ := hx 43 (by simp)
          exact ⟨mV M' P' C', V, by simp [execOp, fill, Act.put, Act.eval, e, go_sem], ⟨M', P', C', rfl, h1, h3, fun h => (h4 h).1⟩, Below.refl _ _⟩
        simp only [Act.put, List.setIfInBounds_toArray, List.set_cons_succ, List.set_cons_zero]
        refine wpF_mix 53 [43] (by simp) rfl (by kernel_rfl) (by kernel_rfl) (fun xs => by rfl) (fun xs V hV hx => ?_) ?_
        · obtain ⟨M', P', C', a', e, h1, h3, h4⟩ := hx 43 (by simp)
          exact ⟨.int .i64 a', V, by simp [execOp, fill, Act.put, Act.eval, e, go_sem], ⟨a', rfl, fun h => (h4 h).2⟩, Below.refl _ _⟩
        simp only [Act.put, List.setIfInBounds_toArray, List.set_cons_succ, List.set_cons_zero]
        refine wpF_useval 43 8 (.int .i64 (E : Int)) (by simp) (by rfl) (by kernel_rfl) (by kernel_rfl) (by rfl) (fun x => by rfl) (fun x V hV hx => ?_) ?_
        · obtain ⟨M', P', C', a', e, h1, h3, h4⟩ := hx
          simp [execOp, Act.put, Act.eval, e, go_sem]
        simp only [Act.put, List.setIfInBounds_toArray, List.set_cons_succ, List.set_cons_zero]
        refine wpF_src 12 (by simp) rfl (by kernel_rfl) (by kernel_rfl) (fun V hV => ⟨.pointer (some ⟨V.heap.size, 0, none⟩), V.alloc (.cells #[.int .i64 0, .int .i64 0, .int .i64 0, .int .i64 0, .int .i64 0, .int .i64 0, .int .i64 0, .slice none 0 0, .slice none 0 0, .string ⟨#[]⟩, .string ⟨#[]⟩] 38), ?_, ⟨_, rfl, hV.size, World.alloc_heap_new _ _⟩, (Below.refl _ _).alloc (Nat.le_refl _) _⟩) ?_
        · have hzz : (zeroValue 38).run Tryz.prog V = .ok (.agg #[.int .i64 0, .int .i64 0, .int .i64 0, .int .i64 0, .int .i64 0, .int .i64 0, .int .i64 0, .slice none 0 0, .slice none 0 0, .string ⟨#[]⟩, .string ⟨#[]⟩]) V := by kernel_rfl
          simp [execOp, go_sem, hzz]
          try rfl
        simp only [Act.put, List.setIfInBounds_toArray, List.set_cons_succ, List.set_cons_zero]
        intro xs w7 hV hx
        obtain ⟨g12, e12, hg12, hc12⟩ := hx 12 (by simp)
        obtain ⟨M', P', C', e52, hm7, hs7, ho7⟩ := hx 52 (by simp)
        obtain ⟨a', e53, ha7⟩ := hx 53 (by simp)
        simp only [fill, Act.put, List.setIfInBounds_toArray, List.set_cons_succ, List.set_cons_zero]
        rw [e12, e52, e53]
        generalize xs 51 = x51
        generalize xs 43 = x43
        clear hx
        unfold mV
        obtain ⟨w8, hst8, q8, hm8, hof8, hs8⟩ := back_store (S := fun q => q = w4.heap.size ∨ q = w.heap.size) hc12 rfl hm7 (hs7.box hm7 hc12) (.inr rfl) (fun x hx => .inl hx)
        have h9g : g12 ≠ w4.heap.size := by omega
        have h6g : g12 ≠ w.heap.size := by omega
        have hb8 : Below wr.heap.size wr w8 := hV.trans (hof8.below (B := wr.heap.size) (fun q hq => by omega) hV.size)
        have q98 := (hb8.block _ h9l).trans I1.out
        have q68 := (hb8.block _ (by omega)).trans I2.out
        have HST8 := Lib.hid hst8
        have Q8 := Lib.hid q8
        have HM8 := Lib.hid hm8
        have HS8 := Lib.hid hs8
        have HB8 := Lib.hid hb8
        have Q98 := Lib.hid q98
        have Q68 := Lib.hid q68
        clear hst8 q8 hm8 hof8 hs8 hb8 q98 q68 hm7 hs7 e12 e52 e53 hc12 LM LG KF hV I1 I2
        refine wpList_store_run rfl 38 (.tmp 12) (.tmp 52) rfl (some ⟨g12, 0, none⟩) rfl (.agg (mC M' P' C')) rfl HST8.out ?_
        refine wpList_val rfl (.int .i64 a') (fun W => by simp [execOp, Act.put, Act.eval, go_sem]) ?_
        simp only [Act.put, List.setIfInBounds_toArray, List.set_cons_succ, List.set_cons_zero]
        refine wpList_val rfl (.int .i64 (E : Int)) (fun W => by simp [execOp, Act.eval, go_sem]) ?_
        simp only [Act.put, List.setIfInBounds_toArray, List.set_cons_succ, List.set_cons_zero]
        refine ⟨rfl, ?_⟩
        simp only [Exit.then]
        have hbw8 := HBW.out.trans (HB8.out.mono HBW.out.size)
        by_cases hE : E = 0
        · subst hE
          obtain rfl := ho7 rfl
          obtain rfl := ha7 rfl
          obtain ⟨o1, o2, o3⟩ := HOK.out u M' rfl
          have h8 := I8.out
          rw [if_neg (by simp)] at h8
          obtain ⟨w9, hst9, q9, hm9, hof9, hs9⟩ := back_store (S := fun q => q = w4.heap.size ∨ q = w.heap.size) Q98.out rfl HM8.out HS8.out (.inl rfl) (fun x hx => hx)
          have hb9 : Below w4.heap.size w4 w9 := (I5.out.trans (HB8.out.mono hsw)).trans (hof9.below (B := w4.heap.size) (fun q hq => by omega) (by have := HB8.out.size; omega))
          have q69 := (hof9.block _ (Array.getElem?_eq_some_iff.1 Q68.out).1 (by omega)).trans Q68.out
          have hlz : (zs.drop p).length = len - p := by rw [List.length_drop, HLEN.out]
          have HI9 : Hid (RdI w4 w.heap.size w4.heap.size zs L k 1 M' P' C' (j + 1) (p + u) w9) := Lib.hid ⟨q9, q69, hm9, hs9, hb9, rdF_small HFX.out o2 o3 I6.out, by rw [o3]; exact I7.out.next M', by rw [h8, List.drop_drop, Nat.add_assoc]⟩
          have HST9 := Lib.hid hst9
          have LD := Lib.hid (mr_look Q8.out)
          have hp2 : p + u ≤ len := by omega
          clear hst9 q9 hm9 hof9 hs9 hb9 q69 h8 o1 o2 o3 hlz hbw8 ho7 ha7
          go_wp2_with (first | refine wpList_load_run rfl 38 (.tmp 12) rfl (some ⟨g12, 0, none⟩) rfl (.agg (mC M' P' C')) LD.out ?_ | refine wpList_store_run rfl 38 (.tmp 9) (.tmp 59) rfl (some ⟨w4.heap.size, 0, none⟩) rfl (.agg (mC M' P' C')) rfl HST9.out ?_)
          go_roundw
          case rel => exact ⟨j + 1, p + u, M', P', C', by omega, by go_num, by go_num, hp2, HI9⟩
          case measure => simp [intOf]; omega
        · have h8 := I8.out
          rw [if_pos hE] at h8
          have hD : D = (E, Mg.zero 0) := by
            rw [HBD.out, ← HRL.out, h8]
            simp only
            rw [if_pos hE]
          have HDD := Lib.hid hD
          have hE' : ¬ (E : Int) = 0 := by omega
          clear h8 hD
          have q6 := Q68.out
          have hst6 := rm_store w8 w.heap.size _ (mC (Mg.zero 0) (.slice none 0 0) (.slice none 0 0)) q6 rfl rfl (mg_one _ _ _ _ _ _ _)
          have q66 := setRow_heap w8 _ _ (mC (Mg.zero 0) (.slice none 0 0) (.slice none 0 0)) _ _ q6
          have hof6 := Off.setRow (S := fun q => q = w.heap.size) (Off.refl _ w8) rfl (mC (Mg.zero 0) (.slice none 0 0) (.slice none 0 0))
          obtain ⟨w66, hw66⟩ : ∃ w66, w8.setRow w.heap.size (mC (Mg.zero 0) (.slice none 0 0) (.slice none 0 0)) = w66 := ⟨_, rfl⟩
          rw [hw66] at hst6 q66 hof6
          have HST6 := Lib.hid hst6
          have HQ66 := Lib.hid q66
          have HF := Lib.hid (HZ.out w66 E (hbw8.trans (hof6.below (B := w.heap.size) (fun q hq => by omega) hbw8.size)))
          clear hst6 q66 hof6 hw66
          go_wp2_with (refine wpList_store_run rfl 38 (.tmp 6) (.tmp 57) rfl (some ⟨w.heap.size, 0, none⟩) rfl (.agg (mC (Mg.zero 0) (.slice none 0 0) (.slice none 0 0))) rfl HST6.out ?_)
          obtain ⟨y0, y1, y2, y3, y4, y5, y6, y7, y8, y9, y10⟩ := mg_block HQ66.out
          refine bodyPost_ret (v := .tuple #[.agg (mC (Mg.zero 0) (.slice none 0 0) (.slice none 0 0)), .int .i64 (E : Int)]) (by simp [results, Tryz.results40, go_sem, y0, y1, y2, y3, y4, y5, y6, y7, y8, y9, y10, mC]) rfl ?_
          rw [HDD.out]
          exact HF.out
      · rw [List.filter_cons_of_neg (by simpa using hsi)] at i7 i8
        have HI9 : Hid (RdI w4 w.heap.size w4.heap.size zs L k 1 N P C (j + 1) p wr) := Lib.hid ⟨i1, i2, i3, i4, i5, i6, i7, i8⟩
        have hsi2 : (1 : Int) < f.si := by omega
        clear i1 i2 i3 i4 i5 i6 i7 i8 hd hf HI e0 e1 e2 e3 e4 e6 hbw
        go_wp2_with fail
        go_roundw
        case rel => exact ⟨j + 1, p, N, P, C, by omega, by go_num, rfl, hp, HI9⟩
        case measure => simp [intOf]; omega
    · obtain rfl : j = n := by omega
      rw [List.drop_eq_nil_of_le (by rw [HN.out]; exact Nat.le_refl _)] at i8
      have hR : R = (0, p, N) := by rw [← HRL.out, i8]; rfl
      have hbd := HBD.out
      rw [hR] at hbd
      simp only [ne_eq, not_true_eq_false, if_false] at hbd
      by_cases hpl : p < len
      · rw [if_pos hpl] at hbd
        have HDD := Lib.hid hbd
        have hpl2 : (p : Int) < (len : Int) := by omega
        have q6 := i2
        clear hbd hR i1 i3 i4 i6 i7 i8 HI
        have hst6 := rm_store wr w.heap.size _ (mC (Mg.zero 0) (.slice none 0 0) (.slice none 0 0)) q6 rfl rfl (mg_one _ _ _ _ _ _ _)
        have q66 := setRow_heap wr _ _ (mC (Mg.zero 0) (.slice none 0 0) (.slice none 0 0)) _ _ q6
        have hof6 := Off.setRow (S := fun q => q = w.heap.size) (Off.refl _ wr) rfl (mC (Mg.zero 0) (.slice none 0 0) (.slice none 0 0))
        obtain ⟨w66, hw66⟩ : ∃ w66, wr.setRow w.heap.size (mC (Mg.zero 0) (.slice none 0 0) (.slice none 0 0)) = w66 := ⟨_, rfl⟩
        rw [hw66] at hst6 q66 hof6
        have HST6 := Lib.hid hst6
        have HQ66 := Lib.hid q66
        have HF := Lib.hid (HZ.out w66 3 (hbw.trans (hof6.below (B := w.heap.size) (fun q hq => by omega) hbw.size)))
        clear hst6 q66 hof6 hw66
        go_wp2_with (refine wpList_store_run rfl 38 (.tmp 6) (.tmp 65) rfl (some ⟨w.heap.size, 0, none⟩) rfl (.agg (mC (Mg.zero 0) (.slice none 0 0) (.slice none 0 0))) rfl HST6.out ?_)
        obtain ⟨y0, y1, y2, y3, y4, y5, y6, y7, y8, y9, y10⟩ := mg_block HQ66.out
        refine bodyPost_ret (v := .tuple #[.agg (mC (Mg.zero 0) (.slice none 0 0) (.slice none 0 0)), .int .i64 3]) (by simp [results, Tryz.results40, go_sem, y0, y1, y2, y3, y4, y5, y6, y7, y8, y9, y10, mC]) rfl ?_
        rw [HDD.out]
        exact HF.out
      · rw [if_neg hpl] at hbd
        have HDD := Lib.hid hbd
        have hpl2 : ¬ (p : Int) < (len : Int) := by omega
        obtain ⟨⟨pa, pc, rfl, pl, pn⟩, ⟨ca, cc, rfl, cl, cn⟩⟩ := i3
        have KP := Lib.hid (rmproject_any N pa ca N.p.length N.c.length pc cc 1 wr)
        have LD := Lib.hid (mr_look i1)
        have I2 := Lib.hid i2
        have I4 := Lib.hid i4
        have HMN : Hid (MAt wr wr.heap.size N (.slice pa N.p.length pc) (.slice ca N.c.length cc)) := Lib.hid ⟨⟨pa, pc, rfl, pl, pn⟩, ⟨ca, cc, rfl, cl, cn⟩⟩
        have HBW := Lib.hid hbw
        clear hbd hR i1 i2 i4 i6 i7 i8 HI pn cn hbw pl cl
        go_wp2_with (refine wpList_load_run rfl 38 (.tmp 9) rfl (some ⟨w4.heap.size, 0, none⟩) rfl (.agg (mC N (.slice pa N.p.length pc) (.slice ca N.c.length cc))) LD.out ?_)
        refine KP.out.mono ?_
        rintro e w7 ⟨rfl, hb7⟩
        have hpp : (mproj N 1).p = N.p := mproj_p N 1
        have hpc : (mproj N 1).c = N.c := mproj_c N 1
        have hm7 : MAt w7 w7.heap.size (mproj N 1) (.slice pa N.p.length pc) (.slice ca N.c.length cc) := by
          have := HMN.out.later hb7
          exact ⟨by rw [hpp]; exact this.p, by rw [hpc]; exact this.c⟩
        have hs7 : Shun (fun q => q = w4.heap.size ∨ q = w.heap.size) w7 (mproj N 1) (.slice pa N.p.length pc) (.slice ca N.c.length cc) := by
          have := I4.out.later hb7
          unfold Shun at *
          rw [hpp, hpc]
          exact this
        have q67 := (hb7.block _ (Array.getElem?_eq_some_iff.1 I2.out).1).trans I2.out
        obtain ⟨w8, hst8, q8, hm8, hof8, -⟩ := back_store (S := fun q => q = w4.heap.size ∨ q = w.heap.size) q67 rfl hm7 hs7 (.inr rfl) (fun x hx => hx)
        have hb78 : Below w.heap.size w w8 := (HBW.out.trans (hb7.mono HBW.out.size)).trans (hof8.below (B := w.heap.size) (fun q hq => by omega) (by have := hb7.size; have := HBW.out.size; omega))
        have HF : Hid (DecR w (0, mproj N 1) (.returned (.tuple #[.agg (mC (mproj N 1) (.slice pa N.p.length pc) (.slice ca N.c.length cc)), .int .i64 0])) w8) := Lib.hid ⟨_, rfl, ⟨_, _, rfl, hm8⟩, hb78⟩
        have HST8 := Lib.hid hst8
        have Q8 := Lib.hid q8
        clear hpp hpc hm7 hs7 q67 hst8 q8 hm8 hof8 hb78 hb7 KP I2 I4 HMN LD
        unfold mV
        go_wp2_with (refine wpList_store_run rfl 38 (.tmp 6) (.tmp 68) rfl (some ⟨w.heap.size, 0, none⟩) rfl (.agg (mC (mproj N 1) (.slice pa N.p.length pc) (.slice ca N.c.length cc))) rfl HST8.out ?_)
        obtain ⟨y0, y1, y2, y3, y4, y5, y6, y7, y8, y9, y10⟩ := mg_block Q8.out
        refine bodyPost_ret (v := .tuple #[.agg (mC (mproj N 1) (.slice pa N.p.length pc) (.slice ca N.c.length cc)), .int .i64 0]) (by simp [results, Tryz.results40, go_sem, y0, y1, y2, y3, y4, y5, y6, y7, y8, y9, y10, mC]) rfl ?_
        rw [HDD.out]
        exact HF.out
end Go.Proofs.YtlbfibnfmijahaaGreat
