/-
  The walk of the law FieldOf: it returns true.
-/
import Derived.Test.YtnnpbakgjcjbaaaFldG
import Derived.Test.YtnnpbakgjcjbaaaQ8
import Derived.Test.YtnnpbakgjcjbaaaQ10
namespace Go.Proofs.Ytnnpbakgjcjbaaa
open Go.RowKit Go.Shelf
set_option maxRecDepth 100000
attribute [local go_sem] Oper.semAt_some

section
variable {P : Program} {l : List Oper} {fs : List Tmp} {FS : Tmp → Value → World → Prop} {I : World → Prop} {E : Act → Prop} {o : Oper} {rest : List Oper} {a : Act}
/-- an operation that its guard passes over -/
theorem wpF_skipF (hn : noB l.toArray fs o = true) (hw : Region.wanted o (yielded l.toArray a.tmps) = false) (h : wpF P l.toArray I fs FS E rest (a.put o.dst undef)) : wpF P l.toArray I fs FS E (o :: rest) a := by
  obtain ⟨h1, h2⟩ := noB_spec hn
  exact ⟨undef, .inl ⟨h1, h2, .inr ⟨hw, rfl⟩⟩, h⟩
end
/-- behind i fields: the number's box Bi, the flag's Bo -/
structure Fo (ti tb : TypeId) (Bi Bo : Nat) (w8 : World) (p : Nat) (V : World) : Prop where
  num : Boxed V Bi ti (.int .i64 (p : Int))
  ok : Boxed V Bo tb (.bool true)
  off : Off (fun q => q = Bi ∨ q = Bo) w8 V
section
variable {ti tb : TypeId} {Bi Bo p : Nat} {w8 V V' : World}
theorem Fo.later (h : Fo ti tb Bi Bo w8 p V) (hb : Below V.heap.size V V') : Fo ti tb Bi Bo w8 p V' := ⟨(hb.block _ h.num.lt).trans h.num, (hb.block _ h.ok.lt).trans h.ok, off_below h.off (hb.mono h.off.size)⟩
theorem Fo.putObj {l : Nat} {o o' : Obj} (h : Fo ti tb Bi Bo w8 p V) (hw : w8.heap.size ≤ l) (ho : V.heap[l]? = some o) (hc : o.isCells = false) : Fo ti tb Bi Bo w8 p (V.putObj l o') := by
  refine ⟨(World.putObj_heap_other (fun e => ?_)).trans h.num, (World.putObj_heap_other (fun e => ?_)).trans h.ok, off_below h.off (below_put V o' hw)⟩
  · subst e; rw [show V.heap[Bi]? = _ from h.num] at ho; injection ho with ho; subst ho; cases hc
  · subst e; rw [show V.heap[Bo]? = _ from h.ok] at ho; injection ho with ho; subst ho; cases hc
theorem Fo.num_set (h : Fo ti tb Bi Bo w8 p V) (hne : Bi ≠ Bo) : Fo ti tb Bi Bo w8 (p + 1) (V.setCell ⟨Bi, 0, none⟩ (.int .i64 ((p : Int) + 1))) :=
  ⟨by rw [Int.natCast_succ]; exact h.num.set _, h.ok.other (by omega) _, h.off.setCell (p := ⟨Bi, 0, none⟩) (.inl rfl) _⟩
theorem Fo.ok_set (h : Fo ti tb Bi Bo w8 p V) (hne : Bi ≠ Bo) : Fo ti tb Bi Bo w8 p (V.setCell ⟨Bo, 0, none⟩ (.bool true)) :=
  ⟨h.num.other hne _, h.ok.set _, h.off.setCell (p := ⟨Bo, 0, none⟩) (.inr rfl) _⟩
end
def boxN (b : Nat) (W : World) : Nat := (intOf ((W.cell? ⟨b, 0, none⟩).getD undef)).toNat
theorem Fo.boxN {ti tb : TypeId} {Bi Bo p : Nat} {w8 V : World} (h : Fo ti tb Bi Bo w8 p V) : boxN Bi V = p := by
  unfold Proofs.Ytnnpbakgjcjbaaa.boxN
  rw [h.num.cell]
  simp [intOf]
theorem FdsIn.below {lo : Nat} {w w' : World} {A : Option Addr} {L : List Fd} (h : FdsIn lo w A L) (hb : Below w.heap.size w w') : FdsIn lo w' A L := fun j f hj => by
  obtain ⟨g, hA, hlo, hlt, hc⟩ := h j f hj
  exact ⟨g, hA, hlo, Nat.lt_of_lt_of_le hlt hb.size, fun q u hq => (hb.cell (p := ⟨g, j * 7 + q, none⟩) hlt).trans (hc q u hq)⟩

theorem KeepsFrom.of_belowF {B : Nat} {V W : World} (h : Below V.heap.size V W) : KeepsFrom B V W := ⟨h.size, fun q _ _ ho _ => (h.block q (Array.getElem?_eq_some_iff.1 ho).1).trans ho⟩
theorem sel_lt {L : List Fd} {S : Fd → Bool} {d j : Nat} {f : Fd} (h : ((L.take d).filter S).length = j) (hf : (L.filter S)[j]? = some f) : d < L.length := by
  rcases Nat.lt_or_ge d L.length with h1 | h1
  · exact h1
  · rw [List.take_of_length_le h1] at h
    have := (List.getElem?_eq_some_iff.1 hf).1
    omega
theorem sel_hit {L : List Fd} {S : Fd → Bool} {d j : Nat} {f g : Fd} (hd : L[d]? = some g) (hS : S g = true) (h : ((L.take d).filter S).length = j) (hf : (L.filter S)[j]? = some f) : g = f := by
  have := filter_get hd hS
  rw [h, hf] at this
  exact (Option.some.inj this).symm
theorem sel_end {L : List Fd} {S : Fd → Bool} {d : Nat} {g : Fd} (hd : L[d]? = some g) (h : ((L.take d).filter S).length = (L.filter S).length) : S g = false := by
  rcases hS : S g with _ | _
  · rfl
  · have := filter_get hd hS
    have := (List.getElem?_eq_some_iff.1 this).1
    omega
theorem fnd_some {L : List Fd} {nm : ByteArray} {f : Fd} (h : fnd L nm = some f) : ∃ j : Nat, L[j]? = some f ∧ f.nm = nm ∧ ∀ g ∈ L.take j, g.nm ≠ nm := by
  unfold fnd at h
  rw [List.find?_eq_some_iff_append] at h
  obtain ⟨h1, l1, l2, h2, h3⟩ := h
  refine ⟨l1.length, by rw [h2]; simp, by simpa using h1, fun g hg => ?_⟩
  rw [h2, List.take_left] at hg
  simpa using h3 g hg
theorem fnd_no {L : List Fd} {nm : ByteArray} (h : fnd L nm = none) : ∀ g ∈ L, g.nm ≠ nm := fun g hg => by
  unfold fnd at h
  rw [List.find?_eq_none] at h
  simpa using h g hg
set_option maxHeartbeats 8000000 in
theorem of_go (k v : Int) (nm : ByteArray) (w : World) : Calls Try.prog 3 #[.int .i64 k, .int .i64 v, .string nm] w fun e w' => e = .returned (.bool true) ∧ Below w.heap.size w w' := by
  have hL6 : (FD k).length ≤ 6 := by unfold FD; rw [pls_len]; exact raw_few k
  have KO := Lib.hid (of_any k)
  have KR := Lib.hid (rall_any k)
  have KW := Lib.hid (word_any k)
  have KRW := Lib.hid (rword_any k)
  obtain ⟨wk, hwk⟩ : ∃ wk, wd k = wk := ⟨_, rfl⟩
  rw [hwk] at KW KRW
  clear hwk
  refine (callsIn_wide (n := 9)).1 ?_
  refine callsIn_of_wp_marks Try.func3 rfl trivial ?_ rfl
  simp only [Try.ntmps3, List.size_toArray, List.length_cons, List.length_nil, Nat.reduceAdd, Nat.reduceSub, Array.replicate_succ, Array.replicate_zero, List.push_toArray, List.append_toArray, List.nil_append, List.cons_append]
  gi_wp2_with fail
  have hp0 : Boxed (w.alloc (.cells #[.int .i64 v] 3)) w.heap.size 3 (.int .i64 v) := World.alloc_heap_new _ _
  have hb1 : Below w.heap.size w (w.alloc (.cells #[.int .i64 v] 3)) := (Below.refl _ w).alloc (Nat.le_refl _) _
  have hs1 : (w.alloc (.cells #[.int .i64 v] 3)).heap.size = w.heap.size + 1 := by simp
  generalize w.alloc (.cells #[.int .i64 v] 3) = w1 at *
  refine ⟨trivial, (callsIn_wide.2 (KO.out w1)).mono ?_⟩
  intro e w2 hR
  obtain ⟨A2, c2, rfl, hc2, hA2, hb2⟩ := hR.in
  clear hR KO
  gi_wp2_with fail
  refine ⟨trivial, (callsIn_wide.2 (KR.out w2)).mono ?_⟩
  intro e w3 hR
  obtain ⟨A3, c3, rfl, hc3, hA3, hb3⟩ := hR
  clear KR
  have KF := Lib.hid (FD_all k)
  have KV : Hid (FDv k v = (FD k).filter fun f => decide (f.si ≤ v)) := rfl
  have KN := Lib.hid (ffind_any k nm)
  have KALL := Lib.hid (fall_any k v)
  obtain ⟨L, hL⟩ : ∃ L, FD k = L := ⟨_, rfl⟩
  rw [hL] at hL6 hc2 hA2 hc3 hA3 KF KV KN ⊢
  obtain ⟨n, hn⟩ : ∃ n, L.length = n := ⟨_, rfl⟩
  rw [hn] at hL6 hc2 hc3 ⊢
  have HN := Lib.hid hn
  have hs2 := hb2.size
  have hs3 := hb3.size
  have hA23 := hA2.below hb3
  have hb03 := (hb1.trans (hb2.mono (by omega))).trans (hb3.mono (by omega))
  have hp3 : Boxed w3 w.heap.size 3 (.int .i64 v) := (hb3.block _ (by omega)).trans ((hb2.block _ (by omega)).trans hp0)
  clear hL hn hA2 hb1 hb2 hb3 hp0
  gi_wp2_with fail
  have hp8 : Boxed (w3.alloc (.cells #[.slice A3 n c3] 24)) w3.heap.size 24 (.slice A3 n c3) := World.alloc_heap_new _ _
  have hb34 : Below w3.heap.size w3 (w3.alloc (.cells #[.slice A3 n c3] 24)) := (Below.refl _ w3).alloc (Nat.le_refl _) _
  have hs4 : (w3.alloc (.cells #[.slice A3 n c3] 24)).heap.size = w3.heap.size + 1 := by simp
  generalize w3.alloc (.cells #[.slice A3 n c3] 24) = w4 at *
  refine ⟨trivial, (callsIn_wide.2 (KW.out w4)).mono ?_⟩
  rintro e w5 ⟨rfl, rfl⟩
  have c8 := hp8.cell
  gi_wp2_with fail
  refine ⟨trivial, (callsIn_wide.2 (KRW.out w4)).mono ?_⟩
  rintro e w5 ⟨rfl, hb5⟩
  have h35 : Below w3.heap.size w3 w5 := hb34.trans (hb5.mono (by omega))
  have hp5 : Boxed w5 w3.heap.size 24 (.slice A3 n c3) := (hb5.block _ (by omega)).trans hp8
  have hs5 := hb5.size
  clear hp8 hb34 hb5 c8 KW KRW
  gi_wp2_with fail
  have HA2 := Lib.hid (hA23.below h35)
  have HA3 := Lib.hid hA3
  have H35 := Lib.hid h35
  have HP3 := Lib.hid hp3
  have HP5 := Lib.hid hp5
  have HB03 := Lib.hid hb03
  clear hA23 hA3 h35 hp3 hp5 hb03
  gi_loopw [9] (fun iv wr => ∃ i : Nat, i ≤ n ∧ iv = .int .i64 (i : Int) ∧ Hid (Below w5.heap.size w5 wr)) (fun iv _ => n - (intOf iv).toNat)
  case atStart => exact ⟨0, by omega, rfl, Lib.hid (Below.refl _ _)⟩
  case round =>
    obtain ⟨i, hi, rfl, HBr⟩ := hrel
    rcases Nat.lt_or_ge i n with hlt | hge
    · obtain ⟨f, hf⟩ : ∃ f, L[i]? = some f := ⟨_, List.getElem?_eq_getElem (by rw [HN.out]; exact hlt)⟩
      obtain ⟨g2, rfl, _, _, d0, d1, d2, d3, d4, d5, d6⟩ := (HA2.out.below HBr.out).seven hf
      obtain ⟨g3, rfl, _, _, e0, e1, e2, e3, e4, e5, e6⟩ := ((HA3.out.below H35.out).below HBr.out).seven hf
      have e8 := (show Boxed wr w3.heap.size 24 (.slice (some ⟨g3, 0, none⟩) n c3) from (HBr.out.block _ HP5.out.lt).trans HP5.out).cell
      clear hf
      gi_wp2_with fail
      refine wpIn_wide.2 ?_
      go_quiet (fail)
      gi_wp2
      exact ⟨⟨i + 1, by omega, by go_num, Lib.hid (below_drewN HBr.out _)⟩, by simp only [intOf]; omega⟩
    · obtain rfl : n = i := by omega
      clear hi hge
      have hwl : w.heap.size < w3.heap.size := by omega
      have h3r : Below w3.heap.size w3 wr := H35.out.trans (HBr.out.mono H35.out.size)
      have hsr := h3r.size
      have hlr : w.heap.size < wr.heap.size := by omega
      have c4 := (show Boxed wr w.heap.size 3 (.int .i64 v) from (h3r.block _ hwl).trans HP3.out).cell
      have H3r := Lib.hid h3r
      have HP8 := Lib.hid (show Boxed wr w3.heap.size 24 (.slice A3 n c3) from (HBr.out.block _ HP5.out.lt).trans HP5.out)
      clear h3r HBr HP5 H35 HA2
      gi_wp2_with fail
      have hs6 : ((wr.alloc (.cells #[.int .i64 0] 3)).alloc (.cells #[.bool true] 4)).heap.size = wr.heap.size + 2 := by simp
      have h36 : Below w3.heap.size w3 ((wr.alloc (.cells #[.int .i64 0] 3)).alloc (.cells #[.bool true] 4)) := (H3r.out.alloc hsr _).alloc (by simp; omega) _
      have p8 : Boxed ((wr.alloc (.cells #[.int .i64 0] 3)).alloc (.cells #[.bool true] 4)) w3.heap.size 24 (.slice A3 n c3) := (Below.heap_alloc _ _ _ (by have := HP8.out.lt; simp; omega)).trans ((Below.heap_alloc _ _ _ HP8.out.lt).trans HP8.out)
      have pI : Boxed ((wr.alloc (.cells #[.int .i64 0] 3)).alloc (.cells #[.bool true] 4)) wr.heap.size 3 (.int .i64 0) := (Below.heap_alloc _ _ _ (by simp)).trans (World.alloc_heap_new _ _)
      have pO : Boxed ((wr.alloc (.cells #[.int .i64 0] 3)).alloc (.cells #[.bool true] 4)) (wr.heap.size + 1) 4 (.bool true) := by
        have := World.alloc_heap_new (wr.alloc (.cells #[.int .i64 0] 3)) (.cells #[.bool true] 4)
        rwa [World.size_alloc] at this
      have hl8 := HP8.out.lt
      obtain ⟨Bi, hBi⟩ : ∃ Bi, wr.heap.size = Bi := ⟨_, rfl⟩
      generalize (wr.alloc (.cells #[.int .i64 0] 3)).alloc (.cells #[.bool true] 4) = w6 at *
      rw [hBi] at hs6 pI pO hsr hlr hl8 ⊢
      clear H3r HP8 c4 hBi
      refine ⟨trivial, (callsIn_wide.2 (KALL.out w6)).mono ?_⟩
      rintro e w8 ⟨rfl, hg0, hg1, hb8⟩
      clear KALL
      rw [hs6] at hg0 hg1 hb8
      have b8 : Boxed w8 w3.heap.size 24 (.slice A3 n c3) := (hb8.block _ (by omega)).trans p8
      have bI : Boxed w8 Bi 3 (.int .i64 0) := (hb8.block _ (by omega)).trans pI
      have bO : Boxed w8 (Bi + 1) 4 (.bool true) := (hb8.block _ (by omega)).trans pO
      have h38 : Below w3.heap.size w3 w8 := h36.trans (hb8.mono (by omega))
      have hs8 := (Array.getElem?_eq_some_iff.1 hg1).1
      have hnn := fall_not_nil (Bi + 2) (Bi + 2 + 1)
      clear p8 pI pO h36 hb8
      gi_wp2_with fail
      refine range_stopb rfl (by omega) (gf := 20) (lb := #[.pointer (some ⟨Bi + 2, 0, none⟩), .pointer (some ⟨Bi + 2 + 1, 0, none⟩)]) rfl trivial (enters_of Try.func20 (by kernel_rfl) rfl)
        (fun f : Fd => #[f.v]) (fun _ => rfl)
        (fun j f V => (FDv k v)[j]? = some f ∧ ∃ p : Nat, p ≤ n ∧ ((L.take p).filter fun f => decide (f.si ≤ v)).length = j ∧ Fo 3 4 Bi (Bi + 1) w8 p V)
        (fun j f q V => ((FDv k v)[j]? = some f ∧ ∃ p : Nat, p ≤ n ∧ ((L.take p).filter fun f => decide (f.si ≤ v)).length = j ∧ Fo 3 4 Bi (Bi + 1) w8 p V) ∧ w8.heap.size ≤ q ∧ V.heap[q]? = some (.cells f.cs 29 (0, 0)))
        (fun j V => ∃ p : Nat, p ≤ n ∧ ((L.take p).filter fun f => decide (f.si ≤ v)).length = j ∧ Fo 3 4 Bi (Bi + 1) w8 p V)
        (fun cd V => False)
        (KeT 29 3 (Bi + 2)) (FDv k v).length
        (fun j f q V l o o' h hl ho hc' => by
          obtain ⟨⟨h1, p, h2, h3, h4⟩, h5, h6⟩ := h
          exact ⟨⟨h1, p, h2, h3, h4.putObj hl ho hc'⟩, h5, (World.putObj_heap_other (fun e => by subst e; rw [h6] at ho; injection ho with ho; subst ho; cases hc')).trans h6⟩)
        (fun j V l o o' h hl ho hc' => by
          obtain ⟨p, h2, h3, h4⟩ := h
          exact ⟨p, h2, h3, h4.putObj hl ho hc'⟩)
        (fun cd V l o o' h hl ho hc' => h)
        (fun _ _ _ h k => h.trans k) (fun V l o o' hl ho hc' => KeT.putObj ho hc')
        (fun o => ⟨0, by omega, by simp, Fo.later (V := w8) ⟨bI, bO, Off.refl _ _⟩ (((Below.refl w8.heap.size w8).alloc (Nat.le_refl _) _).alloc (by simp) _)⟩) ?round ?iter ?done ?stop
      case round =>
        rintro l j f V K ⟨hf, p, hp, hpj, hFo⟩ hj hK
        have HK := Lib.hid hK
        have hsz := hFo.off.size
        clear hK
        unfold Fd.v Fd.cs
        gi_wp2_with fail
        refine HK.out _ V.heap.size _ ⟨⟨hf, p, hp, hpj, hFo.later ((Below.refl _ V).alloc (Nat.le_refl _) _)⟩, hsz, World.alloc_heap_new _ _⟩ ⟨by simp, fun q o _ ho _ => (Below.heap_alloc _ _ _ (Array.getElem?_eq_some_iff.1 ho).1).trans ho⟩ (KeT.of_below ((Below.refl _ V).alloc (Nat.le_refl _) _)) ?_
        clear HK hFo hpj hp p
        rintro l V2 hl ⟨⟨_, p, hp, hpj, hFo⟩, hq, hcq⟩
        have hfS := hf
        rw [KV.out] at hfS
        have hpn := sel_lt hpj hfS
        rw [HN.out] at hpn
        have HJ := Lib.hid hfS
        have HP := Lib.hid hpj
        have HFo := Lib.hid hFo
        have HC := Lib.hid hcq
        clear hf hfS hpj hFo hcq
        gi_wp2_with fail
        gi_loopw [] (fun wr => ∃ d : Nat, d < n ∧ Hid (((L.take d).filter fun f => decide (f.si ≤ v)).length = j) ∧ Hid (Fo 3 4 Bi (Bi + 1) w8 d wr) ∧ Hid (wr.heap[V.heap.size]? = some (.cells f.cs 29 (0, 0))) ∧ Hid (KeepsFrom w8.heap.size V2 wr ∧ KeT 29 3 (Bi + 2) V2 wr)) (fun wr => n - boxN Bi wr)
        case atStart => exact ⟨p, hpn, HP, HFo, HC, Lib.hid ⟨⟨Nat.le_refl _, fun _ _ _ ho _ => ho⟩, KeT.refl _⟩⟩
        case round =>
          obtain ⟨d, hd, HPd, HFd, HCd, HKd⟩ := hrel
          obtain ⟨gd, hgd⟩ : ∃ gd, L[d]? = some gd := ⟨_, List.getElem?_eq_getElem (by rw [HN.out]; exact hd)⟩
          have h3d : Below w3.heap.size w3 wr := h38.trans (HFd.out.off.below (fun k hk => by omega) (by have := h38.size; omega))
          obtain ⟨g3, rfl, _, hg3, e0, e1, e2, e3, e4, e5, e6⟩ := (HA3.out.below h3d).seven hgd
          have hI := HFd.out.num
          have hOk := HFd.out.ok
          have h8 := (show Boxed wr w3.heap.size 24 (.slice (some ⟨g3, 0, none⟩) n c3) from (HFd.out.off.block _ (by omega) (by omega)).trans b8)
          have h4 := (show Boxed wr w.heap.size 3 (.int .i64 v) from (h3d.block _ hwl).trans HP3.out)
          have LI : ∀ V', Below wr.heap.size wr V' → (Instr.loadAt 3 (.pointer (some ⟨Bi, 0, none⟩))).run Try.prog V' = .ok (.int .i64 (d : Int)) V' := fun V' hV => by
            have := (show Boxed V' Bi 3 (.int .i64 (d : Int)) from (hV.block _ hI.lt).trans hI).cell
            simp [Instr.loadAt, go_sem, this]
          have LO : ∀ V', Below wr.heap.size wr V' → (Instr.loadAt 4 (.pointer (some ⟨Bi + 1, 0, none⟩))).run Try.prog V' = .ok (.bool true) V' := fun V' hV => by
            have := (show Boxed V' (Bi + 1) 4 (.bool true) from (hV.block _ hOk.lt).trans hOk).cell
            simp [Instr.loadAt, go_sem, this]
          have LS : ∀ V', Below wr.heap.size wr V' → (Instr.loadAt 24 (.pointer (some ⟨w3.heap.size, 0, none⟩))).run Try.prog V' = .ok (.slice (some ⟨g3, 0, none⟩) n c3) V' := fun V' hV => by
            have := (show Boxed V' w3.heap.size 24 (.slice (some ⟨g3, 0, none⟩) n c3) from (hV.block _ h8.lt).trans h8).cell
            simp [Instr.loadAt, go_sem, this]
          have LV : ∀ V', Below wr.heap.size wr V' → (Instr.loadAt 3 (.pointer (some ⟨w.heap.size, 0, none⟩))).run Try.prog V' = .ok (.int .i64 v) V' := fun V' hV => by
            have := (show Boxed V' w.heap.size 3 (.int .i64 v) from (hV.block _ h4.lt).trans h4).cell
            simp [Instr.loadAt, go_sem, this]
          have Lsi : ∀ V', Below wr.heap.size wr V' → (Instr.loadAt 3 (.pointer (some ⟨g3, d * 7 + 5, none⟩))).run Try.prog V' = .ok (.int .i64 gd.si) V' := fun V' hV => by
            have := (hV.cell (p := ⟨g3, d * 7 + 5, none⟩) hg3).trans e5
            simp [Instr.loadAt, go_sem, this]
          have LG : ∀ V', Below wr.heap.size wr V' → (Instr.loadAt 28 (.pointer (some ⟨g3, d * 7, none⟩))).run Try.prog V' = .ok (.agg #[.string gd.nm, .int .i64 gd.so, .int .i64 gd.pl, .int .i64 gd.le, .int .i64 gd.mo, .int .i64 gd.si, .int .i64 gd.ab]) V' := fun V' hV => by
            have t0 := (hV.cell (p := ⟨g3, d * 7, none⟩) hg3).trans e0
            have t1 := (hV.cell (p := ⟨g3, d * 7 + 1, none⟩) hg3).trans e1
            have t2 := (hV.cell (p := ⟨g3, d * 7 + 2, none⟩) hg3).trans e2
            have t3 := (hV.cell (p := ⟨g3, d * 7 + 3, none⟩) hg3).trans e3
            have t4 := (hV.cell (p := ⟨g3, d * 7 + 4, none⟩) hg3).trans e4
            have t5 := (hV.cell (p := ⟨g3, d * 7 + 5, none⟩) hg3).trans e5
            have t6 := (hV.cell (p := ⟨g3, d * 7 + 6, none⟩) hg3).trans e6
            simp [Instr.loadAt, go_sem, t0, t1, t2, t3, t4, t5, t6]
          have hqlt := (Array.getElem?_eq_some_iff.1 HCd.out).1
          have LF : ∀ V', Below wr.heap.size wr V' → (Instr.loadAt 29 (.pointer (some ⟨V.heap.size, 0, none⟩))).run Try.prog V' = .ok (.agg #[.string f.nm, .int .i64 f.so, .int .i64 f.pl, .int .i64 f.le, .int .i64 f.mo, .int .i64 f.si, .int .i64 f.ab]) V' := fun V' hV => by
            obtain ⟨t0, t1, t2, t3, t4, t5, t6⟩ := fd_block ((hV.block _ hqlt).trans HCd.out)
            simp [Instr.loadAt, go_sem, t0, t1, t2, t3, t4, t5, t6]
          have hft := filter_take (p := fun f => decide (f.si ≤ v)) hgd
          rw [HPd.out] at hft
          have hdn : (d : Int) < (n : Int) := by omega
          have hnc : (n : Int) ≤ (c3 : Int) := by omega
          by_cases hS : gd.si ≤ v
          · obtain rfl : gd = f := sel_hit hgd (by simpa using hS) HPd.out HJ.out
            rw [if_pos (by simpa using hS)] at hft
            have HT := Lib.hid hft
            clear hft e0 e1 e2 e3 e4 e5 e6 hgd h3d hI hOk h8 h4
            gi_wp2_with fail
            refine wpIn_region_F 142 [] (fun _ _ _ => True) (fun V' => Below wr.heap.size wr V') (by kernel_rfl) (by kernel_rfl) (by rfl) (by simp) (fun W W' h hb => h.trans (hb.mono h.size)) (fun q x W W' h hb => trivial) (Below.refl _ _).drew (by rfl) ?_
            refine wpF_load (.int .i64 (d : Int)) rfl (by rfl) (by rfl) (by rfl) LI ?_
            simp only [Act.put, List.setIfInBounds_toArray, List.set_cons_succ, List.set_cons_zero]
            refine wpF_load (.slice (some ⟨g3, 0, none⟩) n c3) rfl (by rfl) (by rfl) (by rfl) LS ?_
            simp only [Act.put, List.setIfInBounds_toArray, List.set_cons_succ, List.set_cons_zero]
            repeat (refine wpF_pure rfl rfl ?_; go_big_quiet_step (fail); refine wpQuiet_nil ?_)
            refine wpF_load (.slice (some ⟨g3, 0, none⟩) n c3) rfl (by rfl) (by rfl) (by rfl) LS ?_
            simp only [Act.put, List.setIfInBounds_toArray, List.set_cons_succ, List.set_cons_zero]
            refine wpF_load (.int .i64 (d : Int)) rfl (by rfl) (by rfl) (by rfl) LI ?_
            simp only [Act.put, List.setIfInBounds_toArray, List.set_cons_succ, List.set_cons_zero]
            repeat (refine wpF_pure rfl rfl ?_; go_big_quiet_step (fail); refine wpQuiet_nil ?_)
            refine wpF_load (.int .i64 gd.si) rfl (by rfl) (by rfl) (by rfl) Lsi ?_
            simp only [Act.put, List.setIfInBounds_toArray, List.set_cons_succ, List.set_cons_zero]
            refine wpF_load (.int .i64 v) rfl (by rfl) (by rfl) (by rfl) LV ?_
            simp only [Act.put, List.setIfInBounds_toArray, List.set_cons_succ, List.set_cons_zero]
            repeat (refine wpF_pure rfl rfl ?_; go_big_quiet_step (fail); refine wpQuiet_nil ?_)
            intro xs W hW _
            simp only [fill]
            gi_wp2_with fail
            refine wpIn_region_FS 142 15 16 [] (fun _ _ _ => True) (fun V' => Below wr.heap.size wr V') (fun _ W W' => W' = W.setCell ⟨Bi + 1, 0, none⟩ (.bool true)) (by kernel_rfl) (fun ⟨_, _, h⟩ => h) (by kernel_rfl) (by rfl) (by kernel_rfl) (by rfl) (by simp) (fun W W' h hb => h.trans (hb.mono h.size)) (fun _ _ _ _ _ _ => trivial) hW.drew (by rfl) ?_
            refine wpFS_step (wpF_load (.bool true) rfl (by rfl) (by rfl) (by rfl) LO ?_)
            simp only [wpF, Act.put, List.setIfInBounds_toArray, List.set_cons_succ, List.set_cons_zero]
            repeat (refine wpFS_step (wpF_pure rfl rfl ?_); go_big_quiet_step (fail); refine wpQuiet_nil ?_; simp only [wpF])
            refine wpFS_step (wpF_load (.int .i64 (d : Int)) rfl (by rfl) (by rfl) (by rfl) LI ?_)
            simp only [wpF, Act.put, List.setIfInBounds_toArray, List.set_cons_succ, List.set_cons_zero]
            refine wpFS_step (wpF_load (.slice (some ⟨g3, 0, none⟩) n c3) rfl (by rfl) (by rfl) (by rfl) LS ?_)
            simp only [wpF, Act.put, List.setIfInBounds_toArray, List.set_cons_succ, List.set_cons_zero]
            repeat (refine wpFS_step (wpF_pure rfl rfl ?_); go_big_quiet_step (fail); refine wpQuiet_nil ?_; simp only [wpF])
            refine wpFS_step (wpF_load (.agg #[.string gd.nm, .int .i64 gd.so, .int .i64 gd.pl, .int .i64 gd.le, .int .i64 gd.mo, .int .i64 gd.si, .int .i64 gd.ab]) rfl (by rfl) (by rfl) (by rfl) LF ?_)
            simp only [wpF, Act.put, List.setIfInBounds_toArray, List.set_cons_succ, List.set_cons_zero]
            refine wpFS_step (wpF_load (.slice (some ⟨g3, 0, none⟩) n c3) rfl (by rfl) (by rfl) (by rfl) LS ?_)
            simp only [wpF, Act.put, List.setIfInBounds_toArray, List.set_cons_succ, List.set_cons_zero]
            refine wpFS_step (wpF_load (.int .i64 (d : Int)) rfl (by rfl) (by rfl) (by rfl) LI ?_)
            simp only [wpF, Act.put, List.setIfInBounds_toArray, List.set_cons_succ, List.set_cons_zero]
            repeat (refine wpFS_step (wpF_pure rfl rfl ?_); go_big_quiet_step (fail); refine wpQuiet_nil ?_; simp only [wpF])
            refine wpFS_step (wpF_load (.agg #[.string gd.nm, .int .i64 gd.so, .int .i64 gd.pl, .int .i64 gd.le, .int .i64 gd.mo, .int .i64 gd.si, .int .i64 gd.ab]) rfl (by rfl) (by rfl) (by rfl) LG ?_)
            simp only [wpF, Act.put, List.setIfInBounds_toArray, List.set_cons_succ, List.set_cons_zero]
            repeat (refine wpFS_step (wpF_pure rfl rfl ?_); go_big_quiet_step (fail); refine wpQuiet_nil ?_; simp only [wpF])
            refine wpFS_store rfl rfl rfl ⟨Bi + 1, 0, none⟩ (fun _ => .bool true) (fun _ => rfl) (fun _ => by rfl) (fun xs W' hW' _ => ?_) ?_
            · have hb := (show Boxed W' (Bi + 1) 4 (.bool true) from (hW'.block _ HFd.out.ok.lt).trans HFd.out.ok)
              have k1 := hb.cell
              have k2 := hb.frozen
              exact ⟨_, by simp [Instr.storeAt, go_sem, k1, k2], rfl⟩
            simp only [wpFS]
            rintro xs W1 W2 hW1 _ rfl
            simp only [fill]
            have hF1 := (HFd.out.later hW1).ok_set (Nat.ne_of_lt (Nat.lt_succ_self Bi))
            have k1 := hF1.num.cell
            have k2 := hF1.num.frozen
            have HF2 := Lib.hid (hF1.num_set (Nat.ne_of_lt (Nat.lt_succ_self Bi)))
            have HKF : Hid (KeepsFrom w8.heap.size V2 ((W1.setCell ⟨Bi + 1, 0, none⟩ (.bool true)).setCell ⟨Bi, 0, none⟩ (.int .i64 ((d : Int) + 1))) ∧ KeT 29 3 (Bi + 2) V2 ((W1.setCell ⟨Bi + 1, 0, none⟩ (.bool true)).setCell ⟨Bi, 0, none⟩ (.int .i64 ((d : Int) + 1)))) :=
              ⟨HKd.out.1.trans ((KeepsFrom.of_belowF hW1).trans (((KeepsOthers.setCell _ _ _).from _).trans ((KeepsOthers.setCell _ _ _).from _))), (((HKd.out.2.trans (KeT.of_below hW1)).setCell (p := ⟨Bi + 1, 0, none⟩) (by show Bi + 1 < _; omega) _).setCell (p := ⟨Bi, 0, none⟩) (by show Bi < _; omega) _)⟩
            clear hF1 hW1 hW LI LO LS LV Lsi LG LF
            gi_wp2
            exact ⟨HKF.out.1, ⟨d + 1, by omega, HT.out, HF2.out⟩, HKF.out.2⟩
          · rw [if_neg (by simpa using hS)] at hft
            have hF1 := fun W1 (hW1 : Below wr.heap.size wr W1) => HFd.out.later hW1
            have HKF : ∀ W1, Below wr.heap.size wr W1 → KeepsFrom w8.heap.size V2 (W1.setCell ⟨Bi, 0, none⟩ (.int .i64 ((d : Int) + 1))) ∧ KeT 29 3 (Bi + 2) V2 (W1.setCell ⟨Bi, 0, none⟩ (.int .i64 ((d : Int) + 1))) := fun W1 hW1 =>
              ⟨HKd.out.1.trans ((KeepsFrom.of_belowF hW1).trans ((KeepsOthers.setCell _ _ _).from _)), ((HKd.out.2.trans (KeT.of_below hW1)).setCell (p := ⟨Bi, 0, none⟩) (by show Bi < _; omega) _)⟩
            have HT := Lib.hid hft
            have hdn2 : d + 1 < n := by
              have := sel_lt (hft.trans (Nat.add_zero j)) HJ.out
              rw [HN.out] at this
              exact this
            clear hft e0 e1 e2 e3 e4 e5 e6 hgd h3d hI hOk h8 h4
            gi_wp2_with fail
            refine wpIn_region_F 142 [] (fun _ _ _ => True) (fun V' => Below wr.heap.size wr V') (by kernel_rfl) (by kernel_rfl) (by rfl) (by simp) (fun W W' h hb => h.trans (hb.mono h.size)) (fun q x W W' h hb => trivial) (Below.refl _ _).drew (by rfl) ?_
            refine wpF_load (.int .i64 (d : Int)) rfl (by rfl) (by rfl) (by rfl) LI ?_
            simp only [Act.put, List.setIfInBounds_toArray, List.set_cons_succ, List.set_cons_zero]
            refine wpF_load (.slice (some ⟨g3, 0, none⟩) n c3) rfl (by rfl) (by rfl) (by rfl) LS ?_
            simp only [Act.put, List.setIfInBounds_toArray, List.set_cons_succ, List.set_cons_zero]
            repeat (refine wpF_pure rfl rfl ?_; go_big_quiet_step (fail); refine wpQuiet_nil ?_)
            refine wpF_load (.slice (some ⟨g3, 0, none⟩) n c3) rfl (by rfl) (by rfl) (by rfl) LS ?_
            simp only [Act.put, List.setIfInBounds_toArray, List.set_cons_succ, List.set_cons_zero]
            refine wpF_load (.int .i64 (d : Int)) rfl (by rfl) (by rfl) (by rfl) LI ?_
            simp only [Act.put, List.setIfInBounds_toArray, List.set_cons_succ, List.set_cons_zero]
            repeat (refine wpF_pure rfl rfl ?_; go_big_quiet_step (fail); refine wpQuiet_nil ?_)
            refine wpF_load (.int .i64 gd.si) rfl (by rfl) (by rfl) (by rfl) Lsi ?_
            simp only [Act.put, List.setIfInBounds_toArray, List.set_cons_succ, List.set_cons_zero]
            refine wpF_load (.int .i64 v) rfl (by rfl) (by rfl) (by rfl) LV ?_
            simp only [Act.put, List.setIfInBounds_toArray, List.set_cons_succ, List.set_cons_zero]
            repeat (refine wpF_pure rfl rfl ?_; go_big_quiet_step (fail); refine wpQuiet_nil ?_)
            intro xs W hW _
            simp only [fill]
            have k0 := hF1 W hW
            have k1 := k0.num.cell
            have k2 := k0.num.frozen
            have HF2 := Lib.hid (k0.num_set (Nat.ne_of_lt (Nat.lt_succ_self Bi)))
            have HK2 := Lib.hid (HKF W hW)
            have HC2 : Hid ((W.setCell ⟨Bi, 0, none⟩ (.int .i64 ((d : Int) + 1))).heap[V.heap.size]? = some (.cells f.cs 29 (0, 0))) := (Below.heap_setCell _ _ _ _ (by show V.heap.size ≠ Bi; omega)).trans ((hW.block _ hqlt).trans HCd.out)
            clear k0 hF1 HKF hW LI LO LS LV Lsi LG LF
            gi_wp2
            exact ⟨⟨d + 1, hdn2, Lib.hid (HT.out.trans (Nat.add_zero j)), HF2, HC2, HK2⟩, by rw [HF2.out.boxN, HFd.out.boxN]; omega⟩
      case iter =>
        intro Bk X l V hBk hBlt hX hl hD hB hY
        have hD' := hD
        obtain ⟨p0, _, _, hF0⟩ := hD
        exact fall_in 8 (by omega) 7 l (Bi + 2) k v (fun j V => (∃ p : Nat, p ≤ n ∧ ((L.take p).filter fun f => decide (f.si ≤ v)).length = j ∧ Fo 3 4 Bi (Bi + 1) w8 p V) ∧ Bk V) X
          (fun j A B h hb => by
            obtain ⟨⟨p, h1, h2, h3⟩, h4⟩ := h
            exact ⟨⟨p, h1, h2, h3.later hb⟩, hBk A _ h4 hb.size (fun q h1 h2 => by have := hBlt A h4; exact hb.block q (by omega))⟩)
          (fun j f W h hf => (hY j f W ⟨hf, h.1⟩ h.2 (List.getElem?_eq_some_iff.1 hf).1).mono (fun e W2 h => h.elim (fun h => .inl ⟨h.1, h.2.1, h.2.2.1⟩) (fun h => .inr ⟨h.1, h.2.1⟩)))
          V ((hF0.off.block _ (by omega) (by omega)).trans hg0) ((hF0.off.block _ (by omega) (by omega)).trans hg1) ⟨hD', hB⟩
      case done =>
        rintro D V hD ⟨p, hp, hpj, hFo⟩ hK
        rw [KV.out] at hpj
        have HP := Lib.hid hpj
        have HFo := Lib.hid hFo
        have HK := Lib.hid hK
        have h8s := h38.size
        clear hpj hFo hK
        gi_wp2_with fail
        gi_loopw [] (fun wr => ∃ d : Nat, d ≤ n ∧ Hid (((L.take d).filter fun f => decide (f.si ≤ v)).length = (L.filter fun f => decide (f.si ≤ v)).length) ∧ Hid (Fo 3 4 Bi (Bi + 1) w8 d wr) ∧ Hid (wr.heap[D]? = some (.deferred (some [])))) (fun wr => n - boxN Bi wr)
        case atStart => exact ⟨p, hp, HP, HFo, HK⟩
        case round =>
          obtain ⟨d, hd, HPd, HFd, HKd⟩ := hrel
          have h3d : Below w3.heap.size w3 wr := h38.trans (HFd.out.off.below (fun k hk => by omega) (by have := h38.size; omega))
          have hI := HFd.out.num
          have hOk := HFd.out.ok
          have LI : ∀ V', Below wr.heap.size wr V' → (Instr.loadAt 3 (.pointer (some ⟨Bi, 0, none⟩))).run Try.prog V' = .ok (.int .i64 (d : Int)) V' := fun V' hV => by
            have := (show Boxed V' Bi 3 (.int .i64 (d : Int)) from (hV.block _ hI.lt).trans hI).cell
            simp [Instr.loadAt, go_sem, this]
          have LO : ∀ V', Below wr.heap.size wr V' → (Instr.loadAt 4 (.pointer (some ⟨Bi + 1, 0, none⟩))).run Try.prog V' = .ok (.bool true) V' := fun V' hV => by
            have := (show Boxed V' (Bi + 1) 4 (.bool true) from (hV.block _ hOk.lt).trans hOk).cell
            simp [Instr.loadAt, go_sem, this]
          have c1 := hI.cell
          have c8 := (show Boxed wr w3.heap.size 24 (.slice A3 n c3) from (HFd.out.off.block _ (by omega) (by omega)).trans b8).cell
          rcases Nat.lt_or_ge d n with hdn0 | hdn0
          · obtain ⟨gd, hgd⟩ : ∃ gd, L[d]? = some gd := ⟨_, List.getElem?_eq_getElem (by rw [HN.out]; exact hdn0)⟩
            obtain ⟨g3, rfl, _, hg3, e0, e1, e2, e3, e4, e5, e6⟩ := (HA3.out.below h3d).seven hgd
            have h8 := (show Boxed wr w3.heap.size 24 (.slice (some ⟨g3, 0, none⟩) n c3) from (HFd.out.off.block _ (by omega) (by omega)).trans b8)
            have h4 := (show Boxed wr w.heap.size 3 (.int .i64 v) from (h3d.block _ hwl).trans HP3.out)
            have LS : ∀ V', Below wr.heap.size wr V' → (Instr.loadAt 24 (.pointer (some ⟨w3.heap.size, 0, none⟩))).run Try.prog V' = .ok (.slice (some ⟨g3, 0, none⟩) n c3) V' := fun V' hV => by
              have := (show Boxed V' w3.heap.size 24 (.slice (some ⟨g3, 0, none⟩) n c3) from (hV.block _ h8.lt).trans h8).cell
              simp [Instr.loadAt, go_sem, this]
            have LV : ∀ V', Below wr.heap.size wr V' → (Instr.loadAt 3 (.pointer (some ⟨w.heap.size, 0, none⟩))).run Try.prog V' = .ok (.int .i64 v) V' := fun V' hV => by
              have := (show Boxed V' w.heap.size 3 (.int .i64 v) from (hV.block _ h4.lt).trans h4).cell
              simp [Instr.loadAt, go_sem, this]
            have Lsi : ∀ V', Below wr.heap.size wr V' → (Instr.loadAt 3 (.pointer (some ⟨g3, d * 7 + 5, none⟩))).run Try.prog V' = .ok (.int .i64 gd.si) V' := fun V' hV => by
              have := (hV.cell (p := ⟨g3, d * 7 + 5, none⟩) hg3).trans e5
              simp [Instr.loadAt, go_sem, this]
            have hdn : (d : Int) < (n : Int) := by omega
            have hnc : (n : Int) ≤ (c3 : Int) := by omega
            have hft := filter_take (p := fun f => decide (f.si ≤ v)) hgd
            have hSe := sel_end hgd HPd.out
            rw [if_neg (by rw [hSe]; decide), Nat.add_zero, HPd.out] at hft
            have hSv : v < gd.si := by simpa using hSe
            have HT := Lib.hid hft
            have hDlt := (Array.getElem?_eq_some_iff.1 HKd.out).1
            clear hft hSe e0 e1 e2 e3 e4 e5 e6 hgd h3d hI hOk h8 h4
            gi_wp2_with fail
            refine wpIn_wide.2 ?_
            refine wp_region_FS 142 10 11 [] (fun _ _ _ => True) (fun V' => Below wr.heap.size wr V') (fun _ W W' => W' = W.setCell ⟨Bi + 1, 0, none⟩ (.bool true)) (by kernel_rfl) (by kernel_rfl) (by rfl) (by kernel_rfl) (by rfl) (by simp) (fun W W' h hb => h.trans (hb.mono h.size)) (fun _ _ _ _ _ _ => trivial) (Below.refl _ _).drew ?_
            refine wpFS_step (wpF_load (.bool true) rfl (by rfl) (by rfl) (by rfl) LO ?_)
            simp only [wpF, Act.put, List.setIfInBounds_toArray, List.set_cons_succ, List.set_cons_zero]
            repeat (refine wpFS_step (wpF_pure rfl rfl ?_); go_big_quiet_step (fail); refine wpQuiet_nil ?_; simp only [wpF])
            refine wpFS_step (wpF_load (.slice (some ⟨g3, 0, none⟩) n c3) rfl (by rfl) (by rfl) (by rfl) LS ?_)
            simp only [wpF, Act.put, List.setIfInBounds_toArray, List.set_cons_succ, List.set_cons_zero]
            refine wpFS_step (wpF_load (.int .i64 (d : Int)) rfl (by rfl) (by rfl) (by rfl) LI ?_)
            simp only [wpF, Act.put, List.setIfInBounds_toArray, List.set_cons_succ, List.set_cons_zero]
            repeat (refine wpFS_step (wpF_pure rfl rfl ?_); go_big_quiet_step (fail); refine wpQuiet_nil ?_; simp only [wpF])
            refine wpFS_step (wpF_load (.int .i64 gd.si) rfl (by rfl) (by rfl) (by rfl) Lsi ?_)
            simp only [wpF, Act.put, List.setIfInBounds_toArray, List.set_cons_succ, List.set_cons_zero]
            refine wpFS_step (wpF_load (.int .i64 v) rfl (by rfl) (by rfl) (by rfl) LV ?_)
            simp only [wpF, Act.put, List.setIfInBounds_toArray, List.set_cons_succ, List.set_cons_zero]
            repeat (refine wpFS_step (wpF_pure rfl rfl ?_); go_big_quiet_step (fail); refine wpQuiet_nil ?_; simp only [wpF])
            refine wpFS_store rfl rfl rfl ⟨Bi + 1, 0, none⟩ (fun _ => .bool true) (fun _ => rfl) (fun _ => by rfl) (fun xs W' hW' _ => ?_) ?_
            · have hb := (show Boxed W' (Bi + 1) 4 (.bool true) from (hW'.block _ HFd.out.ok.lt).trans HFd.out.ok)
              have k1 := hb.cell
              have k2 := hb.frozen
              exact ⟨_, by simp [Instr.storeAt, go_sem, k1, k2], rfl⟩
            simp only [wpFS]
            rintro xs W1 W2 hW1 _ rfl
            simp only [fill]
            have hF1 := (HFd.out.later hW1).ok_set (Nat.ne_of_lt (Nat.lt_succ_self Bi))
            have k1 := hF1.num.cell
            have k2 := hF1.num.frozen
            have HF2 := Lib.hid (hF1.num_set (Nat.ne_of_lt (Nat.lt_succ_self Bi)))
            have HK2 : Hid (((W1.setCell ⟨Bi + 1, 0, none⟩ (.bool true)).setCell ⟨Bi, 0, none⟩ (.int .i64 ((d : Int) + 1))).heap[D]? = some (.deferred (some []))) :=
              (Below.heap_setCell _ _ _ _ (by show D ≠ Bi; omega)).trans ((Below.heap_setCell _ _ _ _ (by show D ≠ Bi + 1; omega)).trans ((hW1.block _ hDlt).trans HKd.out))
            clear hF1 hW1 LI LO LS LV Lsi c1 c8
            gi_wp2
            exact ⟨⟨d + 1, by omega, HT, HF2, HK2⟩, by rw [HF2.out.boxN, HFd.out.boxN]; omega⟩
          · obtain rfl : n = d := by omega
            gi_wp2_with fail
            have h8wr := (show Boxed wr w3.heap.size 24 (.slice A3 n c3) from (HFd.out.off.block _ (by omega) (by omega)).trans b8)
            have hDw : w.heap.size ≤ D := by omega
            rcases hfn : fnd L nm with _ | f
            · have KNf := KN.out
              rw [hfn] at KNf
              simp only [finR, Fd.v, Fd.cs, Option.getD_none, Option.isSome_none, Fd.zero] at KNf
              refine ⟨trivial, (callsIn_wide.2 (KNf wr)).mono ?_⟩
              rintro e X ⟨rfl, hbX⟩
              have hs3r := h3d.size
              have hsX := hbX.size
              have h3X : Below w3.heap.size w3 X := h3d.trans (hbX.mono hs3r)
              have p8X : Boxed X w3.heap.size 24 (.slice A3 n c3) := (hbX.block _ h8wr.lt).trans h8wr
              have pOX : Boxed X (Bi + 1) 4 (.bool true) := (hbX.block _ hOk.lt).trans hOk
              have hKX := (hbX.block _ (Array.getElem?_eq_some_iff.1 HKd.out).1).trans HKd.out
              have hDX := (Array.getElem?_eq_some_iff.1 hKX).1
              have c8X := p8X.cell
              have l8X := p8X.lt
              have lOX := pOX.lt
              have HX := Lib.hid (And.intro h3X (And.intro p8X (And.intro pOX hKX)))
              clear hbX h3X p8X pOX hKX KNf LI LO hI hOk c1 c8 h3d h8wr
              gi_wp2_with fail
              obtain ⟨X2, hX2⟩ : ∃ X2, X.alloc (.cells #[.string ⟨#[]⟩, .int .i64 0, .int .i64 0, .int .i64 0, .int .i64 0, .int .i64 0, .int .i64 0] 29) = X2 := ⟨_, rfl⟩
              rw [hX2]
              have hb2 : Below X.heap.size X X2 := by rw [← hX2]; exact (Below.refl _ _).alloc (Nat.le_refl _) _
              have hf14 : X2.heap[X.heap.size]? = some (.cells #[.string ⟨#[]⟩, .int .i64 0, .int .i64 0, .int .i64 0, .int .i64 0, .int .i64 0, .int .i64 0] 29 (0, 0)) := by rw [← hX2]; exact World.alloc_heap_new _ _
              clear hX2
              obtain ⟨h3X, p8X, pOX, hKX⟩ := HX.out
              have h32 : Below w3.heap.size w3 X2 := h3X.trans (hb2.mono h3X.size)
              have p82 : Boxed X2 w3.heap.size 24 (.slice A3 n c3) := (hb2.block _ p8X.lt).trans p8X
              have pO2 : Boxed X2 (Bi + 1) 4 (.bool true) := (hb2.block _ pOX.lt).trans pOX
              have hK2 := (hb2.block _ hDX).trans hKX
              clear hb2 h3X p8X pOX hKX HX
              have hno := fnd_no hfn
              refine ⟨trivial, (callsIn_wide.2 (rfind_any A3 n c3 nm w2.heap.size L (-1) X2 HN.out hL6 (HA3.out.below h32) (.inr ⟨hno, rfl⟩))).mono ?_⟩
              rintro e X3 ⟨rfl, rfl⟩
              clear hno
              have LO : ∀ V', Below X2.heap.size X2 V' → (Instr.loadAt 4 (.pointer (some ⟨Bi + 1, 0, none⟩))).run Try.prog V' = .ok (.bool true) V' := fun V' hV => by
                have := (show Boxed V' (Bi + 1) 4 (.bool true) from (hV.block _ pO2.lt).trans pO2).cell
                simp [Instr.loadAt, go_sem, this]
              have LF : ∀ V', Below X2.heap.size X2 V' → (Instr.loadAt 29 (.pointer (some ⟨X.heap.size, 0, none⟩))).run Try.prog V' = .ok (.agg #[.string ⟨#[]⟩, .int .i64 0, .int .i64 0, .int .i64 0, .int .i64 0, .int .i64 0, .int .i64 0]) V' := fun V' hV => by
                obtain ⟨t0, t1, t2, t3, t4, t5, t6⟩ := fd_block (f := Fd.zero) ((hV.block _ (Array.getElem?_eq_some_iff.1 hf14).1).trans hf14)
                simp only [Fd.zero] at t0 t1 t2 t3 t4 t5 t6; simp [Instr.loadAt, go_sem, t0, t1, t2, t3, t4, t5, t6]
              have HK2 := Lib.hid hK2
              have H32 := Lib.hid h32
              clear hK2 h32 p82 pO2 hf14
              gi_wp2_with fail
              refine wpIn_wide.2 ?_
              refine wp_region_F 142 [] (fun _ _ _ => True) (fun V' => Below X2.heap.size X2 V') (by kernel_rfl) (by kernel_rfl) (by rfl) (by simp) (fun W W' h hb => h.trans (hb.mono h.size)) (fun q x W W' h hb => trivial) (Below.refl _ _).drew ?_
              refine wpF_call (f := 14) (args := #[]) (.bool true) rfl rfl (fun x => by first | rfl | (simp [go_sem]; done)) (fun V' _ => flknown_any V') ?_
              simp only [Act.put, List.setIfInBounds_toArray, List.set_cons_succ, List.set_cons_zero]
              repeat (refine wpF_pure rfl rfl ?_; go_big_quiet_step (fail); refine wpQuiet_nil ?_)
              refine wpF_load (.bool true) rfl (by rfl) (by rfl) (by rfl) LO ?_
              simp only [Act.put, List.setIfInBounds_toArray, List.set_cons_succ, List.set_cons_zero]
              repeat (refine wpF_pure rfl rfl ?_; go_big_quiet_step (fail); refine wpQuiet_nil ?_)
              refine wpF_skipF rfl rfl ?_
              simp only [Act.put, List.setIfInBounds_toArray, List.set_cons_succ, List.set_cons_zero]
              refine wpF_skipF rfl rfl ?_
              simp only [Act.put, List.setIfInBounds_toArray, List.set_cons_succ, List.set_cons_zero]
              repeat (refine wpF_pure rfl rfl ?_; go_big_quiet_step (fail); refine wpQuiet_nil ?_)
              refine wpF_skipF rfl rfl ?_
              simp only [Act.put, List.setIfInBounds_toArray, List.set_cons_succ, List.set_cons_zero]
              repeat (refine wpF_pure rfl rfl ?_; go_big_quiet_step (fail); refine wpQuiet_nil ?_)
              refine wpF_load (.agg #[.string ⟨#[]⟩, .int .i64 0, .int .i64 0, .int .i64 0, .int .i64 0, .int .i64 0, .int .i64 0]) rfl (by rfl) (by rfl) (by rfl) LF ?_
              simp only [Act.put, List.setIfInBounds_toArray, List.set_cons_succ, List.set_cons_zero]
              refine wpF_val (.agg #[.string ⟨#[]⟩, .int .i64 0, .int .i64 0, .int .i64 0, .int .i64 0, .int .i64 0, .int .i64 0]) rfl rfl (fun V' _ => by simp [go_sem]) ?_
              simp only [Act.put, List.setIfInBounds_toArray, List.set_cons_succ, List.set_cons_zero]
              repeat (refine wpF_pure rfl rfl ?_; go_big_quiet_step (fail); refine wpQuiet_nil ?_)
              intro xs W hW _
              simp only [fill]
              have HF := Lib.hid (HB03.out.trans ((H32.out.trans (hW.mono H32.out.size)).mono HB03.out.size))
              have HKW := Lib.hid ((hW.block _ (Array.getElem?_eq_some_iff.1 HK2.out).1).trans HK2.out)
              clear hW
              gi_wp2
              refine ⟨by simp, .inl ⟨_, _, rfl, run_takeDeferred HKW.out, ?_⟩⟩
              refine ⟨_, results_tmp rfl _ _ _, rfl, HF.out.trans (below_put _ _ (by omega))⟩
            · have KNf := KN.out
              rw [hfn] at KNf
              simp only [finR, Fd.v, Fd.cs, Option.getD_some, Option.isSome_some, Fd.zero] at KNf
              refine ⟨trivial, (callsIn_wide.2 (KNf wr)).mono ?_⟩
              rintro e X ⟨rfl, hbX⟩
              have hs3r := h3d.size
              have hsX := hbX.size
              have h3X : Below w3.heap.size w3 X := h3d.trans (hbX.mono hs3r)
              have p8X : Boxed X w3.heap.size 24 (.slice A3 n c3) := (hbX.block _ h8wr.lt).trans h8wr
              have pOX : Boxed X (Bi + 1) 4 (.bool true) := (hbX.block _ hOk.lt).trans hOk
              have hKX := (hbX.block _ (Array.getElem?_eq_some_iff.1 HKd.out).1).trans HKd.out
              have hDX := (Array.getElem?_eq_some_iff.1 hKX).1
              have c8X := p8X.cell
              have l8X := p8X.lt
              have lOX := pOX.lt
              have HX := Lib.hid (And.intro h3X (And.intro p8X (And.intro pOX hKX)))
              clear hbX h3X p8X pOX hKX KNf LI LO hI hOk c1 c8 h3d h8wr
              gi_wp2_with fail
              obtain ⟨X2, hX2⟩ : ∃ X2, X.alloc (.cells #[.string f.nm, .int .i64 f.so, .int .i64 f.pl, .int .i64 f.le, .int .i64 f.mo, .int .i64 f.si, .int .i64 f.ab] 29) = X2 := ⟨_, rfl⟩
              rw [hX2]
              have hb2 : Below X.heap.size X X2 := by rw [← hX2]; exact (Below.refl _ _).alloc (Nat.le_refl _) _
              have hf14 : X2.heap[X.heap.size]? = some (.cells #[.string f.nm, .int .i64 f.so, .int .i64 f.pl, .int .i64 f.le, .int .i64 f.mo, .int .i64 f.si, .int .i64 f.ab] 29 (0, 0)) := by rw [← hX2]; exact World.alloc_heap_new _ _
              clear hX2
              obtain ⟨h3X, p8X, pOX, hKX⟩ := HX.out
              have h32 : Below w3.heap.size w3 X2 := h3X.trans (hb2.mono h3X.size)
              have p82 : Boxed X2 w3.heap.size 24 (.slice A3 n c3) := (hb2.block _ p8X.lt).trans p8X
              have pO2 : Boxed X2 (Bi + 1) 4 (.bool true) := (hb2.block _ pOX.lt).trans pOX
              have hK2 := (hb2.block _ hDX).trans hKX
              clear hb2 h3X p8X pOX hKX HX
              obtain ⟨j, hj, hjn, hjt⟩ := fnd_some hfn
              have hjn2 : j < n := by have := (List.getElem?_eq_some_iff.1 hj).1; rw [HN.out] at this; exact this
              refine ⟨trivial, (callsIn_wide.2 (rfind_any A3 n c3 nm w2.heap.size L (j : Int) X2 HN.out hL6 (HA3.out.below h32) (.inl ⟨j, f, hj, hjn, hjt, rfl⟩))).mono ?_⟩
              rintro e X3 ⟨rfl, rfl⟩
              obtain ⟨g3, rfl, _, hg3, e0, e1, e2, e3, e4, e5, e6⟩ := (HA3.out.below h32).seven hj
              have LS : ∀ V', Below X2.heap.size X2 V' → (Instr.loadAt 24 (.pointer (some ⟨w3.heap.size, 0, none⟩))).run Try.prog V' = .ok (.slice (some ⟨g3, 0, none⟩) n c3) V' := fun V' hV => by
                have := (show Boxed V' w3.heap.size 24 (.slice (some ⟨g3, 0, none⟩) n c3) from (hV.block _ p82.lt).trans p82).cell
                simp [Instr.loadAt, go_sem, this]
              have LG : ∀ V', Below X2.heap.size X2 V' → (Instr.loadAt 28 (.pointer (some ⟨g3, j * 7, none⟩))).run Try.prog V' = .ok (.agg #[.string f.nm, .int .i64 f.so, .int .i64 f.pl, .int .i64 f.le, .int .i64 f.mo, .int .i64 f.si, .int .i64 f.ab]) V' := fun V' hV => by
                have t0 := (hV.cell (p := ⟨g3, j * 7, none⟩) hg3).trans e0
                have t1 := (hV.cell (p := ⟨g3, j * 7 + 1, none⟩) hg3).trans e1
                have t2 := (hV.cell (p := ⟨g3, j * 7 + 2, none⟩) hg3).trans e2
                have t3 := (hV.cell (p := ⟨g3, j * 7 + 3, none⟩) hg3).trans e3
                have t4 := (hV.cell (p := ⟨g3, j * 7 + 4, none⟩) hg3).trans e4
                have t5 := (hV.cell (p := ⟨g3, j * 7 + 5, none⟩) hg3).trans e5
                have t6 := (hV.cell (p := ⟨g3, j * 7 + 6, none⟩) hg3).trans e6
                simp [Instr.loadAt, go_sem, t0, t1, t2, t3, t4, t5, t6]
              have hjn3 : (j : Int) < (n : Int) := by omega
              have hnc : (n : Int) ≤ (c3 : Int) := by omega
              have hj0 : (0 : Int) ≤ (j : Int) := by omega
              clear e0 e1 e2 e3 e4 e5 e6 hj hjn hjt
              have LO : ∀ V', Below X2.heap.size X2 V' → (Instr.loadAt 4 (.pointer (some ⟨Bi + 1, 0, none⟩))).run Try.prog V' = .ok (.bool true) V' := fun V' hV => by
                have := (show Boxed V' (Bi + 1) 4 (.bool true) from (hV.block _ pO2.lt).trans pO2).cell
                simp [Instr.loadAt, go_sem, this]
              have LF : ∀ V', Below X2.heap.size X2 V' → (Instr.loadAt 29 (.pointer (some ⟨X.heap.size, 0, none⟩))).run Try.prog V' = .ok (.agg #[.string f.nm, .int .i64 f.so, .int .i64 f.pl, .int .i64 f.le, .int .i64 f.mo, .int .i64 f.si, .int .i64 f.ab]) V' := fun V' hV => by
                obtain ⟨t0, t1, t2, t3, t4, t5, t6⟩ := fd_block (f := f) ((hV.block _ (Array.getElem?_eq_some_iff.1 hf14).1).trans hf14)
                simp [Instr.loadAt, go_sem, t0, t1, t2, t3, t4, t5, t6]
              have HK2 := Lib.hid hK2
              have H32 := Lib.hid h32
              clear hK2 h32 p82 pO2 hf14
              gi_wp2_with fail
              refine wpIn_wide.2 ?_
              refine wp_region_F 142 [] (fun _ _ _ => True) (fun V' => Below X2.heap.size X2 V') (by kernel_rfl) (by kernel_rfl) (by rfl) (by simp) (fun W W' h hb => h.trans (hb.mono h.size)) (fun q x W W' h hb => trivial) (Below.refl _ _).drew ?_
              refine wpF_call (f := 14) (args := #[]) (.bool true) rfl rfl (fun x => by first | rfl | (simp [go_sem]; done)) (fun V' _ => flknown_any V') ?_
              simp only [Act.put, List.setIfInBounds_toArray, List.set_cons_succ, List.set_cons_zero]
              repeat (refine wpF_pure rfl rfl ?_; go_big_quiet_step (fail); refine wpQuiet_nil ?_)
              refine wpF_load (.bool true) rfl (by rfl) (by rfl) (by rfl) LO ?_
              simp only [Act.put, List.setIfInBounds_toArray, List.set_cons_succ, List.set_cons_zero]
              repeat (refine wpF_pure rfl rfl ?_; go_big_quiet_step (fail); refine wpQuiet_nil ?_)
              refine wpF_load (.agg #[.string f.nm, .int .i64 f.so, .int .i64 f.pl, .int .i64 f.le, .int .i64 f.mo, .int .i64 f.si, .int .i64 f.ab]) rfl (by rfl) (by rfl) (by rfl) LF ?_
              simp only [Act.put, List.setIfInBounds_toArray, List.set_cons_succ, List.set_cons_zero]
              refine wpF_load (.slice (some ⟨g3, 0, none⟩) n c3) rfl (by rfl) (by rfl) (by rfl) LS ?_
              simp only [Act.put, List.setIfInBounds_toArray, List.set_cons_succ, List.set_cons_zero]
              repeat (refine wpF_pure rfl rfl ?_; go_big_quiet_step (fail); refine wpQuiet_nil ?_)
              refine wpF_load (.agg #[.string f.nm, .int .i64 f.so, .int .i64 f.pl, .int .i64 f.le, .int .i64 f.mo, .int .i64 f.si, .int .i64 f.ab]) rfl (by rfl) (by rfl) (by rfl) LG ?_
              simp only [Act.put, List.setIfInBounds_toArray, List.set_cons_succ, List.set_cons_zero]
              repeat (refine wpF_pure rfl rfl ?_; go_big_quiet_step (fail); refine wpQuiet_nil ?_)
              refine wpF_skipF rfl rfl ?_
              simp only [Act.put, List.setIfInBounds_toArray, List.set_cons_succ, List.set_cons_zero]
              refine wpF_skipF rfl rfl ?_
              simp only [Act.put, List.setIfInBounds_toArray, List.set_cons_succ, List.set_cons_zero]
              repeat (refine wpF_pure rfl rfl ?_; go_big_quiet_step (fail); refine wpQuiet_nil ?_)
              intro xs W hW _
              simp only [fill]
              have HF := Lib.hid (HB03.out.trans ((H32.out.trans (hW.mono H32.out.size)).mono HB03.out.size))
              have HKW := Lib.hid ((hW.block _ (Array.getElem?_eq_some_iff.1 HK2.out).1).trans HK2.out)
              clear hW
              gi_wp2
              refine ⟨by simp, .inl ⟨_, _, rfl, run_takeDeferred HKW.out, ?_⟩⟩
              refine ⟨_, results_tmp rfl _ _ _, rfl, HF.out.trans (below_put _ _ (by omega))⟩
      case stop => exact fun _ _ _ _ h => h.elim
theorem walk_fof (a0 : Int) (a1 : Int) (a2 : ByteArray) (_w0 : (Lit.int .i64 a0).wf = true) (_w1 : (Lit.int .i64 a1).wf = true) (_w2 : a2.size ≤ maxLen) (w : World) :
    Calls Try.prog 3 #[.int .i64 a0, .int .i64 a1, .string a2] w fun e w' => e = .returned (.bool true) ∧ Below w.heap.size w w' := of_go a0 a1 a2 w
end Go.Proofs.Ytnnpbakgjcjbaaa
