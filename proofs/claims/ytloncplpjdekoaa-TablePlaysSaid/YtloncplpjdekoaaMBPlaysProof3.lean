/-
  A part of the texts of one proof, put together: TabU, TabZ, TabQ, TabL2, Q11.
-/
import Derived.Test.YtloncplpjdekoaaMBPlaysProof2
namespace Go.Proofs.Ytloncplpjdekoaa
open Go.RowKit
set_option maxRecDepth 100000

set_option maxHeartbeats 16000000 in
theorem dput_any {w : World} {A : Option Addr} {n cp : Nat} {L : List Ds} (h : DocAt w A n cp L) (hk : (L.map Ds.s).Nodup) (r : Nat) (hr1 : 1 ≤ r) (hnr : n ≤ r) (hr2 : r ≤ 16) (f : Fr) (hf : f.At w w.heap.size) (hfl : f.zs.length ≤ 250) (Src : Fr → Prop) (hsr : SrcL Src L) (hsf : Src f) :
    Calls Try.prog 10 #[docV r A n cp, frV f.v f.k f.s f.i f.c (.slice f.a f.zs.length f.cp)] w (DPutR Src w r (L.map Ds.ms) f) := by
  obtain ⟨w1, hw1⟩ : ∃ w1, (((w.alloc (.cells #[.int .i64 (r : Int), .slice A n cp] 30)).alloc (.cells f.cs 46)).alloc (.cells #[.int .i64 0, .slice none 0 0] 30)).alloc (.cells (outC none 0 0 false false 0) 41) = w1 := ⟨_, rfl⟩
  obtain ⟨hp1, hs1⟩ := Dp.start hw1
  have HBad : Hid (∀ (er : Int) (W : World), Dp w r A n cp f W → w.heap.size + 4 ≤ W.heap.size → Tb.put r (L.map Ds.ms) f = ⟨er, L.map Ds.ms, .no⟩ → _) :=
    Lib.hid fun er W hp hw hput => dput_fin (w := w) (W := W) (r := r) (f := f) (A' := A) (n' := n) (cp' := cp) (L := L) (Ab := none) (cb := 0) hsr hw hp.rt hp.ro hp.below hput (h.below hp.below) rfl (Nat.zero_le _) Nums.nil (fun p hp => by cases hp)
  have HFin : Hid (∀ (W : World) (A' : Option Addr) (n' cp' : Nat) (L' : List Ds) (Ab : Option Addr) (cb : Nat) (R : Tb.Res), SrcL Src L' → _ → _ → _ → _ → _ → _ → _ → _ → _ → _ → _) :=
    Lib.hid fun W A' n' cp' L' Ab cb R h0 h1 h2 h3 h4 h5 h6 h7 h8 h9 h10 => dput_fin (w := w) (W := W) (r := r) (f := f) (A' := A') (n' := n') (cp' := cp') (L := L') (Ab := Ab) (cb := cb) (T := L.map Ds.ms) (R := R) h0 h1 h2 h3 h4 h5 h6 h7 h8 h9 h10
  have HD := Lib.hid h
  have HK := Lib.hid hk
  have HF := Lib.hid hf
  have HP1 := Lib.hid hp1
  have HS1 := Lib.hid hs1
  have HW1 : Hid ((((w.alloc (.cells #[.int .i64 (r : Int), .slice A n cp] 30)).alloc (.cells #[.int .i64 f.v, .int .i64 f.k, .int .u32 f.s, .int .i64 f.i, .int .i64 f.c, .slice f.a f.zs.length f.cp] 46)).alloc (.cells #[.int .i64 0, .slice none 0 0] 30)).alloc (.cells #[.slice none 0 0, .bool false, .bool false, .int .u32 0] 41) = w1) := Lib.hid hw1
  have KC := Lib.hid (fun W => rcheck_any f.v f.k f.s f.i f.c W)
  have hpos := hf.s0
  have hmax := hf.s1
  simp only [Tb.Out.no, List.length_nil] at HBad
  have HBad2 : Hid (∀ (er : Int) (W : World), w.heap.size + 4 ≤ W.heap.size → W.heap[w.heap.size + 2]? = some (.cells #[.int .i64 0, .slice none 0 0] 30 (0, 0)) → W.heap[w.heap.size + 3]? = some (.cells (outC none 0 0 false false 0) 41 (0, 0)) → Below w.heap.size w W → Tb.put r (L.map Ds.ms) f = ⟨er, L.map Ds.ms, .no⟩ → _) :=
    Lib.hid fun er W hw h2 h3 hb hput => dput_fin (w := w) (W := W) (r := r) (f := f) (A' := A) (n' := n) (cp' := cp) (L := L) (Ab := none) (cb := 0) hsr hw h2 h3 hb hput (h.below hb) rfl (Nat.zero_le _) Nums.nil (fun p hp => by cases hp)
  simp only [Tb.Out.no, List.length_nil] at HBad2
  have HSR := Lib.hid hsr
  have HSF := Lib.hid hsf
  clear h hk hf hs1 hw1 hsr hsf
  generalize DPutR Src w r (L.map Ds.ms) f = G at *
  obtain ⟨d0, d1⟩ := doc_cells hp1.t
  obtain ⟨e0, e1, e2, e3, e4, e5⟩ := fr_block (v := f.v) (k := f.k) (s := f.s) (i := f.i) (c := f.c) hp1.f
  unfold docV frV frC hdV at *
  clear hp1
  go_enter Try.func10, Try.ntmps10
  go_wp2_with fail
  rw [HW1.out]
  refine (KC.out w1).mono ?_
  rintro e w2 ⟨rfl, hb2⟩
  have hp2 := HP1.out.later hb2
  have hs2 : w.heap.size + 4 ≤ w2.heap.size := by have := hb2.size; have := HS1.out; omega
  obtain ⟨d0, d1⟩ := doc_cells hp2.t
  obtain ⟨e0, e1, e2, e3, e4, e5⟩ := fr_block (v := f.v) (k := f.k) (s := f.s) (i := f.i) (c := f.c) hp2.f
  by_cases hc : chk f.v f.k f.i f.c = 0
  · rw [hc]
    have HC := Lib.hid hc
    clear hc
    by_cases hz : f.zs.length = 0
    · have hz' : (f.zs.length : Int) = 0 := by omega
      have hput := Tb.put_short (r := r) (T := L.map Ds.ms) HC.out (List.eq_nil_of_length_eq_zero hz)
      obtain ⟨x3, c0, c1, o0, o1, o2, o3, HFIN⟩ := HBad.out 13 w2 hp2 hs2 hput
      have HG := Lib.hid HFIN
      have x2 := hp2.rt
      clear hput HFIN hp2 hb2
      go_wp2_with (first
        | refine wpList_store_row rfl 30 (.tmp 4) (.tmp 27) rfl (w.heap.size + 2) #[.int .i64 (r : Int), .slice A n cp] rfl rfl 30 _ x2 stInfo rfl (by simp [Value.oneCell']) ?_
        | refine wpList_store_row rfl 41 (.tmp 5) (.tmp 28) rfl (w.heap.size + 3) (outC none 0 0 false false 0) rfl rfl 41 _ x3 soInfo rfl (out_one _ _ _ _ _ _) ?_)
      refine bodyPost_ret (by simp [results, Try.results10, go_sem, c0, c1, o0, o1, o2, o3]; try rfl) rfl ?_
      exact HG.out
    · have hz' : ¬ (f.zs.length : Int) = 0 := by omega
      obtain ⟨w3, hw3⟩ : ∃ w3, (w2.alloc (.cells #[.int .i64 (r : Int), .slice A n cp] 30)).alloc (.cells (outC none 0 0 false false 0) 41) = w3 := ⟨_, rfl⟩
      have hb3 : Below w2.heap.size w2 w3 := by rw [← hw3]; exact ((Below.refl _ w2).alloc (Nat.le_refl _) _).alloc (by simp) _
      have hp3 := hp2.later hb3
      have hx7 : w3.heap[w2.heap.size]? = some (.cells #[.int .i64 (r : Int), .slice A n cp] 30 (0, 0)) := by rw [← hw3]; exact (Below.heap_alloc _ _ _ (by simp)).trans (World.alloc_heap_new _ _)
      have hx8 : w3.heap[w2.heap.size + 1]? = some (.cells (outC none 0 0 false false 0) 41 (0, 0)) := by
        rw [← hw3]
        have h := World.alloc_heap_new (w2.alloc (.cells #[.int .i64 (r : Int), .slice A n cp] 30)) (.cells (outC none 0 0 false false 0) 41)
        rwa [World.size_alloc] at h
      have hm3 : Dm w r A n cp f w2.heap.size (w2.heap.size + 1) A n cp L false 0 w3 := ⟨hp3.t, hp3.f, hp3.rt, hp3.ro, hx7, hx8, HD.out.below hp3.below, hp3.below, hs2, rfl⟩
      have HW3 : Hid ((w2.alloc (.cells #[.int .i64 (r : Int), .slice A n cp] 30)).alloc (.cells #[.slice none 0 0, .bool false, .bool false, .int .u32 0] 41) = w3) := Lib.hid hw3
      have KFD := dfind_any hm3.doc r f.s
      unfold docV at KFD
      obtain ⟨d0, d1⟩ := doc_cells hm3.t
      obtain ⟨e0, e1, e2, e3, e4, e5⟩ := fr_block (v := f.v) (k := f.k) (s := f.s) (i := f.i) (c := f.c) hm3.f
      have g0 : ((w2.alloc (.cells #[.int .i64 (r : Int), .slice A n cp] 30)).alloc (.cells #[.slice none 0 0, .bool false, .bool false, .int .u32 0] 41)).cell? ⟨w.heap.size, 0, none⟩ = some (.int .i64 (r : Int)) := by rw [HW3.out]; exact d0
      have g1 : ((w2.alloc (.cells #[.int .i64 (r : Int), .slice A n cp] 30)).alloc (.cells #[.slice none 0 0, .bool false, .bool false, .int .u32 0] 41)).cell? ⟨w.heap.size, 1, none⟩ = some (.slice A n cp) := by rw [HW3.out]; exact d1
      have g2 : ((w2.alloc (.cells #[.int .i64 (r : Int), .slice A n cp] 30)).alloc (.cells #[.slice none 0 0, .bool false, .bool false, .int .u32 0] 41)).cell? ⟨w.heap.size + 1, 2, none⟩ = some (.int .u32 f.s) := by rw [HW3.out]; exact e2
      have HM3 := Lib.hid hm3
      have hs3 := hb3.size
      have HZ := Lib.hid hz
      clear hw3 hp3 hx7 hx8 hm3 hp2 hz hb3 hb2
      obtain ⟨pw, hpw⟩ : ∃ pw, w2.heap.size = pw := ⟨_, rfl⟩
      rw [hpw] at HM3
      have HPW := Lib.hid hpw
      clear hpw
      go_wp2_with fail
      rw [HW3.out, HPW.out]
      refine KFD.mono ?_
      rintro e w4 ⟨hb4, hor⟩
      have hm4 := HM3.out.later hb4
      have hs4 : w.heap.size + 4 ≤ w4.heap.size := by have := hb4.size; omega
      obtain ⟨d0, d1⟩ := doc_cells hm4.t
      obtain ⟨e0, e1, e2, e3, e4, e5⟩ := fr_block (v := f.v) (k := f.k) (s := f.s) (i := f.i) (c := f.c) hm4.f
      rcases hor with ⟨hno, rfl⟩ | ⟨j, d, hj, hds, rfl⟩
      · have hfn : Tb.find (L.map Ds.ms) f.s = none := Tb.find_none.2 fun x hx => by
          obtain ⟨d, hd, rfl⟩ := List.mem_map.1 hx
          exact hno d hd
        have hzn : f.zs ≠ [] := fun e => HZ.out (by rw [e]; rfl)
        have HPN := Lib.hid (Tb.put_new (r := r) HC.out hzn hfn)
        have HER := Lib.hid (Tb.new_err HC.out hzn)
        have HNO := Lib.hid hno
        clear hfn hzn hno
        by_cases h192 : 192 < f.zs.length
        · have h192' : (192 : Int) < (f.zs.length : Int) := by omega
          have hput := HPN.out
          rw [HER.out, if_pos h192, if_pos (by omega)] at hput
          have hp4 : Dp w r A n cp f w4 := ⟨hm4.t, hm4.f, hm4.rt, hm4.ro, hm4.below⟩
          obtain ⟨x3, c0, c1, o0, o1, o2, o3, HFIN⟩ := HBad.out 6 w4 hp4 hs4 hput
          have HG := Lib.hid HFIN
          have x2 := hp4.rt
          clear hput HFIN hp4 hm4 hb4
          go_wp2_with (first
            | refine wpList_store_row rfl 30 (.tmp 4) (.tmp 41) rfl (w.heap.size + 2) #[.int .i64 (r : Int), .slice A n cp] rfl rfl 30 _ x2 stInfo rfl (by simp [Value.oneCell']) ?_
            | refine wpList_store_row rfl 41 (.tmp 5) (.tmp 42) rfl (w.heap.size + 3) (outC none 0 0 false false 0) rfl rfl 41 _ x3 soInfo rfl (out_one _ _ _ _ _ _) ?_)
          refine bodyPost_ret (by simp [results, Try.results10, go_sem, c0, c1, o0, o1, o2, o3]; try rfl) rfl ?_
          exact HG.out
        · have h192' : ¬ (192 : Int) < (f.zs.length : Int) := by omega
          have hput := HPN.out
          rw [HER.out, if_neg h192, if_neg (by omega), List.length_map, HD.out.len] at hput
          have HPT := Lib.hid hput
          have HER0 : Hid ((Ds.new f).ms.err f = 0) := Lib.hid (HER.out.trans (if_neg h192))
          clear HPN HER hput
          have HM4 := Lib.hid hm4
          by_cases hnr : n = r
          · have hnr' : (n : Int) = (r : Int) := by omega
            have hnrb : ((n : Int) == (r : Int)) = true := by simp [hnr]
            have HNR := Lib.hid hnr
            have KS := Lib.hid (dseqs_any hm4.doc r)
            unfold docV at KS
            clear hm4 hb4 hnr hnr'
            go_wp2_with fail
            refine KS.out.mono ?_
            rintro e w5 ⟨v5, rfl, hmk⟩
            obtain ⟨A5, c5, rfl, hc5, hnum5⟩ := hmk.slice
            have hm5 := HM4.out.later hmk.2
            have hU : Sr.U (L.map Ds.s) := fun z hz => by
              obtain ⟨d, hd, rfl⟩ := List.mem_map.1 hz
              have := (HD.out.at' d hd).num
              omega
            have hlen5 : (L.map Ds.s).length = n := by rw [List.length_map, HD.out.len]
            have KB := rbest_any false w5.heap.size n c5 A5 (L.map Ds.s) w5 hlen5 (by omega) hU hnum5
            rw [hlen5]
            have hnums : Tb.nums (L.map Ds.ms) = L.map Ds.s := by
              unfold Tb.nums
              rw [List.map_map]
              rfl
            have hold : Sr.bst false (L.map Ds.s) = Tb.old (L.map Ds.ms) := by unfold Tb.old; rw [hnums]
            have hbU := Sr.bst_U (nw := false) hU
            rw [hold] at KB hbU
            have KAF := rafter_any f.s (Tb.old (L.map Ds.ms)) w5 (by omega) hbU
            obtain ⟨d0, d1⟩ := doc_cells hm5.t
            obtain ⟨e0, e1, e2, e3, e4, e5⟩ := fr_block (v := f.v) (k := f.k) (s := f.s) (i := f.i) (c := f.c) hm5.f
            have HM5 := Lib.hid hm5
            have hs5 : w.heap.size + 4 ≤ w5.heap.size := by have := hmk.2.size; omega
            rw [if_pos HNR.out] at HPT
            clear hm5 hmk hnum5 hU hlen5 hnums hold KS
            generalize Tb.old (L.map Ds.ms) = OLD at *
            go_wp2_with fail
            refine KB.mono ?_
            rintro e w9 ⟨rfl, rfl⟩
            clear KB
            go_wp2_with fail
            refine KAF.mono ?_
            rintro e w9 ⟨rfl, rfl⟩
            clear KAF
            cases haf : Sr.after f.s OLD with
            | false =>
              rw [if_neg (by rw [haf]; simp)] at HPT
              have hp5 : Dp w r A n cp f w9 := ⟨HM5.out.t, HM5.out.f, HM5.out.rt, HM5.out.ro, HM5.out.below⟩
              obtain ⟨x3, c0, c1, o0, o1, o2, o3, HFIN⟩ := HBad.out 18 w9 hp5 hs5 HPT.out
              have HG := Lib.hid HFIN
              have x2 := hp5.rt
              clear HFIN hp5
              go_wp2_with (first
                | refine wpList_store_row rfl 30 (.tmp 4) (.tmp 61) rfl (w.heap.size + 2) #[.int .i64 (r : Int), .slice A n cp] rfl rfl 30 _ x2 stInfo rfl (by simp [Value.oneCell']) ?_
                | refine wpList_store_row rfl 41 (.tmp 5) (.tmp 62) rfl (w.heap.size + 3) (outC none 0 0 false false 0) rfl rfl 41 _ x3 soInfo rfl (out_one _ _ _ _ _ _) ?_)
              refine bodyPost_ret (by simp [results, Try.results10, go_sem, c0, c1, o0, o1, o2, o3]; try rfl) rfl ?_
              exact HG.out
            | true =>
              rw [if_pos haf] at HPT
              have KDR := ddrop_any HM5.out.doc r OLD
              unfold docV at KDR
              go_wp2_with fail
              refine KDR.mono ?_
              rintro e w6 ⟨hb6, A6, c6, rfl, hd6⟩
              have hm6 := HM5.out.later hb6
              obtain ⟨q6, hq6⟩ : ∃ q, (L.filter fun d => d.s != OLD).length = q := ⟨_, rfl⟩
              rw [hq6] at hd6 ⊢
              obtain ⟨u1, u2, u3, u4, hm7⟩ := Dm.gone (old := OLD) hm6 hd6
              have x0 := hm6.t
              obtain ⟨W7, hW7⟩ : ∃ W7, (((w6.setRow w.heap.size #[.int .i64 (r : Int), .slice A6 q6 c6]).setCell ⟨pw + 1, 2, none⟩ (.bool true)).setCell ⟨pw + 1, 3, none⟩ (.int .u32 OLD)) = W7 := ⟨_, rfl⟩
              have HW7 := Lib.hid hW7
              rw [hW7] at hm7
              have HM7 := Lib.hid hm7
              have hl7 : (L.filter fun d => d.s != OLD).length ≤ 16 := by
                have := List.length_filter_le (fun d : Ds => d.s != OLD) L
                have := HD.out.len
                omega
              rw [hq6] at hl7
              have HMS : Hid (Tb.drop (L.map Ds.ms) OLD = (L.filter fun d => d.s != OLD).map Ds.ms) := by
                show _ = _
                unfold Tb.drop
                rw [List.filter_map]
                rfl
              rw [HMS.out] at HPT
              have HNK7 : Hid (((L.filter fun d => d.s != OLD).map Ds.s).Nodup ∧ ∀ d ∈ (L.filter fun d => d.s != OLD), d.s ≠ f.s) := Lib.hid ⟨List.Sublist.nodup (List.Sublist.map Ds.s List.filter_sublist) HK.out, fun d hd => HNO.out d (List.mem_filter.1 hd).1⟩
              clear hW7 hm7 hm6 hd6 hb6 KDR HM5 HMS HNR
              have HSR7 : Hid (SrcL Src (L.filter fun d => d.s != OLD)) := Lib.hid fun d hd => HSR.out d (List.mem_filter.1 hd).1
              generalize (L.filter fun d => d.s != OLD) = L7 at *
              unfold docV
              go_wp2_with (refine wpList_store_row rfl 30 (.tmp 2) (.tmp 65) rfl w.heap.size #[.int .i64 (r : Int), .slice A6 q6 c6] rfl rfl 30 _ x0 stInfo rfl (by simp [Value.oneCell']) ?_)
              rw [HW7.out]
              obtain ⟨ev7, hev7⟩ : ∃ ev7, true = ev7 := ⟨_, rfl⟩
              obtain ⟨old7, hold7⟩ : ∃ old7, OLD = old7 := ⟨_, rfl⟩
              rw [hev7, hold7] at HM7 HPT
              clear hev7 hold7 HW7
              have h7t := HM7.out.t
              have L1 : ∀ V, Below W7.heap.size W7 V → (Instr.loadAt 28 (.pointer (some ⟨w.heap.size, 1, none⟩))).run Try.prog V = .ok (.slice A6 q6 c6) V := fun V hV => by
                obtain ⟨d0, d1⟩ := doc_cells (HM7.out.later hV).t
                simp [Instr.loadAt, go_sem, d1]
              have L2 : ∀ V, Below W7.heap.size W7 V → (Instr.loadAt 44 (.pointer (some ⟨w.heap.size + 1, 0, none⟩))).run Try.prog V = .ok (.agg #[.int .i64 f.v, .int .i64 f.k, .int .u32 f.s, .int .i64 f.i, .int .i64 f.c]) V := fun V hV => by
                obtain ⟨d0, d1, d2, d3, d4, d5⟩ := fr_block (v := f.v) (k := f.k) (s := f.s) (i := f.i) (c := f.c) (HM7.out.later hV).f
                simp [Instr.loadAt, go_sem, d0, d1, d2, d3, d4]
              have KN : Hid (∀ V, Below W7.heap.size W7 V → Calls Try.prog 31 #[.agg #[.int .i64 f.v, .int .i64 f.k, .int .u32 f.s, .int .i64 f.i, .int .i64 f.c]] V fun e w' => e = .returned (.agg #[.int .i64 f.v, .int .i64 f.k, .int .u32 f.s, .int .i64 0, .int .i64 f.c, .slice none 0 0]) ∧ Below V.heap.size V w') := Lib.hid fun V _ => rnew_any13 f.v f.k f.s f.i f.c V
              have hs7 : w.heap.size + 4 ≤ W7.heap.size := by
                have h1 := HM7.out.lo
                have h2 := (Array.getElem?_eq_some_iff.1 HM7.out.was).1
                omega
              obtain ⟨z0, hi, hz0, hz1, hz2⟩ := info_parts dsInfo
              clear h7t
              refine wp_region_FT 121 8 [69, 72, 76] (FDoc W7.heap.size q6 L7 (Ds.new f)) (fun V => Below W7.heap.size W7 V) (by kernel_rfl) (by kernel_rfl) (by rfl) (by kernel_rfl) (by kernel_rfl) (by kernel_rfl) (by rfl) (by simp) (fun W W' h hb => h.trans (hb.mono h.size)) (fun q x W W' h hb => h.later hb) (Below.refl _ _).drew ?_
              simp only [List.take_succ_cons, List.take_zero, List.drop_succ_cons, List.drop_zero]
              refine wpF_src 69 (by simp) rfl rfl rfl (fun W hW => ⟨.slice (some ⟨W.heap.size, 0, none⟩) 0 0, W.alloc (.cells #[] 83), ?_, ?_, (Below.refl _ _).alloc (Nat.le_refl _) _⟩) ?_
              · simp [go_sem]
              · unfold FDoc
                rw [if_pos rfl]
                exact ⟨_, rfl, World.ownsRow_made W #[] 0 hW.size (by unfold maxLen; omega) rfl⟩
              simp only [Act.put, List.setIfInBounds_toArray, List.set_cons_succ, List.set_cons_zero]
              repeat (refine wpF_pure rfl rfl ?_; go_big_quiet_step (fail); refine wpQuiet_nil ?_)
              refine wpF_load _ rfl (by rfl) (by rfl) (by rfl) L1 ?_
              simp only [Act.put, List.setIfInBounds_toArray, List.set_cons_succ, List.set_cons_zero]
              refine wpF_mix 72 [69] (by simp) rfl (by kernel_rfl) (by kernel_rfl) (fun xs => by rfl) (fun xs W hW hx => ?_) ?_
              · have h69 := hx 69 (by simp)
                unfold FDoc at h69
                rw [if_pos rfl] at h69
                obtain ⟨g, e69, ho69⟩ := h69
                obtain ⟨v', W', hr, ho, hbl⟩ := append_docs (P := Try.prog) 28 28 83 z0 _ Try.underlying28 hi hz0 hz1 hz2 rfl W7.heap.size g hW.size ho69 (HM7.out.doc.below hW)
                refine ⟨v', W', ?_, ?_, hbl⟩
                · exact exec_appendU (.tmp 69) (.tmp 71) 28 rfl (by simp [fill, Act.put, Act.eval, e69]) (by simp [fill, Act.put, Act.eval]) hr
                · unfold FDoc
                  rw [if_neg (by decide), if_pos rfl]
                  exact ho
              simp only [Act.put, List.setIfInBounds_toArray, List.set_cons_succ, List.set_cons_zero]
              repeat (refine wpF_pure rfl rfl ?_; go_big_quiet_step (fail); refine wpQuiet_nil ?_)
              refine wpF_load _ rfl (by rfl) (by rfl) (by rfl) L2 ?_
              simp only [Act.put, List.setIfInBounds_toArray, List.set_cons_succ, List.set_cons_zero]
              refine wpF_call (f := 31) (args := #[.agg #[.int .i64 f.v, .int .i64 f.k, .int .u32 f.s, .int .i64 f.i, .int .i64 f.c]]) (.agg #[.int .i64 f.v, .int .i64 f.k, .int .u32 f.s, .int .i64 0, .int .i64 f.c, .slice none 0 0]) rfl rfl (fun x => by first | rfl | (simp [go_sem]; done)) KN.out ?_
              simp only [Act.put, List.setIfInBounds_toArray, List.set_cons_succ, List.set_cons_zero]
              refine wpF_src 76 (by simp) rfl rfl rfl (fun W hW => ⟨.slice (some ⟨W.heap.size, 0, none⟩) 1 1, W.alloc (.cells (Ds.new f).cs 83), ?_, ?_, (Below.refl _ _).alloc (Nat.le_refl _) _⟩) ?_
              · simp [go_sem, Ds.cs, Ds.new, frC]
              · unfold FDoc
                rw [if_neg (by decide), if_neg (by decide)]
                exact ⟨_, rfl, World.alloc_heap_new _ _⟩
              simp only [Act.put, List.setIfInBounds_toArray, List.set_cons_succ, List.set_cons_zero]
              intro xs8 w8 hb8 hx
              have h72 := hx 72 (by simp)
              have h76 := hx 76 (by simp)
              unfold FDoc at h72 h76
              rw [if_neg (by decide), if_pos rfl] at h72
              rw [if_neg (by decide), if_neg (by decide)] at h76
              obtain ⟨g8, e76, hg8⟩ := h76
              simp only [fill, Act.put, List.setIfInBounds_toArray, List.set_cons_succ, List.set_cons_zero]
              rw [e76]
              generalize xs8 69 = x69
              generalize xs8 72 = x72 at *
              have hs8 : W7.heap.size ≤ w8.heap.size := hb8.size
              have HNW : Hid (∀ (q : Nat) (u : Value), [Value.int .i64 f.v, .int .i64 f.k, .int .u32 f.s, .int .i64 0, .int .i64 f.c, .slice none 0 0][q]? = some u → w8.cell? ((⟨g8, 0, none⟩ : Addr).add q) = some u) := Lib.hid fun q u hq => by
                rw [Addr.add_lit, Nat.zero_add]
                simp only [World.cell?, hg8]
                simpa [Ds.cs, Ds.new, frC] using hq
              have HR8 := Lib.hid h72
              have HX1 : Hid (q6 + 1 ≤ maxLen) := by show _ ≤ _; unfold maxLen; omega
              have HX2 : Hid ((q6 + 1) * 64 ≤ 140737488355328) := by show _ ≤ _; omega
              have HB8 := Lib.hid hb8
              clear hx e76 hg8 h72 L1 L2 hb8
              refine wpList_append_lies _ rfl (.tmp 72) (.tmp 76) 28 rfl W7.heap.size 83 z0 _ 6 64 Try.underlying28 hi hz0 hz1 hz2 rfl (by decide) x72 q6 (flatD L7) rfl HR8.out ⟨g8, 0, none⟩ 1 1 [Value.int .i64 f.v, .int .i64 f.k, .int .u32 f.s, .int .i64 0, .int .i64 f.c, .slice none 0 0] rfl rfl HNW.out (by simp [Value.oneCell']) (by decide) HX1.out HX2.out hs8 _ rfl ?_
              intro g9 c9 w9' hown9 hgr9 hat9 hlt9
              have hb9 : Below W7.heap.size W7 w9' := HB8.out.grown hgr9 hs8 (fun g hg => (HR8.out.lt g hg).1)
              obtain ⟨y1, y2, hm10⟩ := HM7.out.list (L2 := L7 ++ [Ds.new f]) hb9 (by rw [flatD_push]; exact hown9) (by rw [List.length_append, HM7.out.doc.len]; rfl) (fun d hd => by
                rcases List.mem_append.1 hd with h | h
                · exact .inl h
                · rw [List.mem_singleton.1 h]
                  exact .inr fun W => Ds.new_at W HC.out ⟨hpos, hmax⟩) (by omega)
              have HM10 := Lib.hid hm10
              obtain ⟨y3, y4⟩ := doc_cells hm10.t
              clear hm10 hown9 hgr9 hat9 hlt9 hb9 HX1 HX2 HNW HR8
              go_wp2_with fail
              obtain ⟨W10, hW10⟩ : ∃ W10, w9'.setCell ⟨w.heap.size, 1, none⟩ (.slice (some ⟨g9, 0, none⟩) (q6 + 1) c9) = W10 := ⟨_, rfl⟩
              rw [hW10] at HM10 ⊢
              have HJ : Hid ((L7 ++ [Ds.new f])[q6]? = some (Ds.new f)) := Lib.hid (by
                have hl := HM7.out.doc.len
                rw [List.getElem?_append_right (by omega), hl, Nat.sub_self]
                rfl)
              have HNK : Hid (((L7 ++ [Ds.new f]).map Ds.s).Nodup) := Lib.hid (by
                rw [List.map_append, List.nodup_append]
                refine ⟨HNK7.out.1, by simp, fun a ha b hb e => ?_⟩
                obtain ⟨d, hd, rfl⟩ := List.mem_map.1 ha
                have hb' : b = f.s := by simpa [Ds.new] using hb
                exact HNK7.out.2 d hd (e.trans hb'))
              have HPT10 : Hid (Tb.put r (L.map Ds.ms) f = if (Ds.new f).ms.err f ≠ 0 then ⟨(Ds.new f).ms.err f, L.map Ds.ms, .no⟩ else .ok (Tb.came (((L7 ++ [Ds.new f]).map Ds.ms).set q6 ((Ds.new f).ms.push f)) f.s ev7 old7)) := Lib.hid (by
                rw [HPT.out, if_neg (show ¬ (Ds.new f).ms.err f ≠ 0 from fun h => h HER0.out), List.map_append, List.set_append_right _ _ (by rw [List.length_map]; exact Nat.le_of_eq HM7.out.doc.len), List.length_map, HM7.out.doc.len, Nat.sub_self]
                rfl)
              have HDS : Hid ((Ds.new f).s = f.s) := Lib.hid rfl
              have hn10 : q6 + 1 ≤ 17 := by omega
              obtain ⟨A10, hA10⟩ : ∃ A10, (some ⟨g9, 0, none⟩ : Option Addr) = A10 := ⟨_, rfl⟩
              obtain ⟨n10, hn10e⟩ : ∃ n10, q6 + 1 = n10 := ⟨_, rfl⟩
              rw [hA10, hn10e] at HM10
              rw [hn10e] at hn10
              have HSR10 : Hid (SrcL Src (L7 ++ [Ds.new f])) := Lib.hid fun d hd g hg => by
                rcases List.mem_append.1 hd with hd | hd
                · exact HSR7.out d hd g hg
                · rw [List.mem_singleton.1 hd] at hg
                  cases hg
              obtain ⟨L10, hL10⟩ : ∃ L10, L7 ++ [Ds.new f] = L10 := ⟨_, rfl⟩
              rw [hL10] at HSR10
              rw [hL10] at HM10 HJ HNK HPT10
              obtain ⟨d10, hd10⟩ : ∃ d10, Ds.new f = d10 := ⟨_, rfl⟩
              rw [hd10] at HJ HPT10 HDS
              obtain ⟨cp10, hcp10⟩ : ∃ cp10, c9 = cp10 := ⟨_, rfl⟩
              rw [hcp10] at HM10
              obtain ⟨j10, hj10⟩ : ∃ j10, q6 = j10 := ⟨_, rfl⟩
              rw [hj10] at HJ HPT10 ⊢
              obtain ⟨ev10, hev10⟩ : ∃ ev10, ev7 = ev10 := ⟨_, rfl⟩
              obtain ⟨old10, hold10⟩ : ∃ old10, old7 = old10 := ⟨_, rfl⟩
              rw [hev10, hold10] at HM10 HPT10
              clear hev10 hold10 hW10 hA10 hn10e hL10 hd10 hcp10 hj10 y1 y2 y3 y4 HPT HNK7 HER0 HM7 KN hi hz0 hz1 hz2
              obtain ⟨b, off, rfl, hblt, -⟩ := HM10.out.doc.six HJ.out
              have hjn : j10 < n10 := by
                rw [← HM10.out.doc.len]
                exact (List.getElem?_eq_some_iff.1 HJ.out).1
              have hjn' : (j10 : Int) < (n10 : Int) := by omega
              have hncp : (n10 : Int) ≤ (cp10 : Int) := by have := HM10.out.doc.room; omega
              have hs10 : w.heap.size + 4 ≤ W10.heap.size := by
                have h1 := HM10.out.lo
                have h2 := (Array.getElem?_eq_some_iff.1 HM10.out.was).1
                omega
              have LT : ∀ V, Below W10.heap.size W10 V → (Instr.loadAt 28 (.pointer (some ⟨w.heap.size, 1, none⟩))).run Try.prog V = .ok (.slice (some ⟨b, off, none⟩) n10 cp10) V := fun V hV => by
                obtain ⟨d0, d1⟩ := doc_cells (HM10.out.later hV).t
                simp [Instr.loadAt, go_sem, d1]
              have LS : ∀ V, Below W10.heap.size W10 V → (Instr.loadAt 83 (.pointer (some ⟨b, off + j10 * 6, none⟩))).run Try.prog V = .ok (.agg #[.int .i64 d10.v, .int .i64 d10.k, .int .u32 d10.s, .int .i64 0, .int .i64 d10.c, .slice d10.A d10.n d10.cp]) V := fun V hV => by
                obtain ⟨b', off', e', _, a0, a1, a2, a3, a4, a5⟩ := (HM10.out.later hV).doc.six HJ.out
                injection e' with e'
                injection e' with e1 e2
                subst e1 e2
                simp [Instr.loadAt, go_sem, a0, a1, a2, a3, a4, a5]
              have LF : ∀ V, Below W10.heap.size W10 V → (Instr.loadAt 46 (.pointer (some ⟨w.heap.size + 1, 0, none⟩))).run Try.prog V = .ok (.agg #[.int .i64 f.v, .int .i64 f.k, .int .u32 f.s, .int .i64 f.i, .int .i64 f.c, .slice f.a f.zs.length f.cp]) V := fun V hV => by
                obtain ⟨d0, d1, d2, d3, d4, d5⟩ := fr_block (v := f.v) (k := f.k) (s := f.s) (i := f.i) (c := f.c) (HM10.out.later hV).f
                simp [Instr.loadAt, go_sem, d0, d1, d2, d3, d4, d5]
              obtain ⟨er, her⟩ : ∃ er, d10.ms.err f = er := ⟨_, rfl⟩
              rw [her] at HPT10
              have HER := Lib.hid her
              have KR : Hid (∀ V, Below W10.heap.size W10 V → Calls Try.prog 32 #[.agg #[.int .i64 d10.v, .int .i64 d10.k, .int .u32 d10.s, .int .i64 0, .int .i64 d10.c, .slice d10.A d10.n d10.cp], .agg #[.int .i64 f.v, .int .i64 f.k, .int .u32 f.s, .int .i64 f.i, .int .i64 f.c, .slice f.a f.zs.length f.cp]] V fun e w' => ∃ u, e = .returned u ∧ FPt W10.heap.size d10 f er 90 u w' ∧ Below V.heap.size V w') := Lib.hid fun V hV => by
                have hr := ((HM10.out.later hV).doc.at' d10 (List.mem_of_getElem? HJ.out)).ref
                have hfa : f.At V V.heap.size := by
                  have h1 := (HM10.out.later hV).below
                  exact (HF.out.below h1).mono h1.size
                refine (rput_any d10.v d10.k d10.s hr f hfa hfl).mono fun e w' h2 => ?_
                rw [show sErr d10.v d10.k d10.s d10.c f.v f.k f.s f.i f.c (d10.gs.map Fr.ct) f.zs = er from HER.out] at h2
                obtain ⟨A2, n2, cp2, he, hr2, hb⟩ := rput_nx hr h2
                exact ⟨_, he, ⟨A2, n2, cp2, rfl, hr2⟩, hb⟩
              clear her hblt
              refine wp_region_FG 121 8 [false, false, false, false, false, false, false, false, false, true, false] [90, 83, 91, 12] (FPt W10.heap.size d10 f er) (fun V => Below W10.heap.size W10 V) (fun xs V V' => ∃ g A2 n2 cp2, xs 12 = .pointer (some ⟨g, 0, none⟩) ∧ W10.heap.size ≤ g ∧ V.heap[g]? = some (.cells (frC 0 0 0 0 0 (.slice none 0 0)) 83 (0, 0)) ∧ RefAt V d10.c A2 n2 cp2 (nxF d10.gs f er) ∧ V' = V.setRow g (frC d10.v d10.k d10.s 0 d10.c (.slice A2 n2 cp2))) (by kernel_rfl) (by kernel_rfl) (by rfl) (by kernel_rfl) (by rfl) (by simp) (fun W W' h hb => h.trans (hb.mono h.size)) (fun q x W W' h hb => h.later hb) (Below.refl _ _).drew ?_
              refine wpFG_step (wpF_pure rfl rfl ?_)
              go_big_quiet_step (fail)
              refine wpQuiet_nil ?_
              simp only [wpF]
              refine wpFG_step (wpF_load _ rfl (by rfl) (by rfl) (by rfl) LT ?_)
              simp only [wpF, Act.put, List.setIfInBounds_toArray, List.set_cons_succ, List.set_cons_zero]
              refine wpFG_step (wpF_pure rfl rfl ?_)
              go_big_quiet_step (fail)
              refine wpQuiet_nil ?_
              simp only [wpF]
              refine wpFG_step (wpF_pure rfl rfl ?_)
              go_big_quiet_step (fail)
              refine wpQuiet_nil ?_
              simp only [wpF]
              refine wpFG_step (wpF_load _ rfl (by rfl) (by rfl) (by rfl) LS ?_)
              simp only [wpF, Act.put, List.setIfInBounds_toArray, List.set_cons_succ, List.set_cons_zero]
              refine wpFG_step (wpF_load _ rfl (by rfl) (by rfl) (by rfl) LF ?_)
              simp only [wpF, Act.put, List.setIfInBounds_toArray, List.set_cons_succ, List.set_cons_zero]
              refine wpFG_step (wpF_callsrc 90 (f := 32) (args := #[.agg #[.int .i64 d10.v, .int .i64 d10.k, .int .u32 d10.s, .int .i64 0, .int .i64 d10.c, .slice d10.A d10.n d10.cp], .agg #[.int .i64 f.v, .int .i64 f.k, .int .u32 f.s, .int .i64 f.i, .int .i64 f.c, .slice f.a f.zs.length f.cp]]) (by simp) rfl rfl rfl (fun x => by first | rfl | (simp [go_sem]; done)) KR.out ?_)
              simp only [wpF, Act.put, List.setIfInBounds_toArray, List.set_cons_succ, List.set_cons_zero]
              refine wpFG_step (wpF_mix 83 [90] (by simp) rfl (by kernel_rfl) (by kernel_rfl) (fun xs => by rfl) (fun xs V hV hx => ⟨xs 90, V, by simp [execOp, fill, Act.put, Act.eval, go_sem], hx 90 (by simp), Below.refl _ _⟩) ?_)
              simp only [wpF, Act.put, List.setIfInBounds_toArray, List.set_cons_succ, List.set_cons_zero]
              refine wpFG_step (wpF_mix 91 [83] (by simp) rfl (by kernel_rfl) (by kernel_rfl) (fun xs => by rfl) (fun xs V hV hx => ?_) ?_)
              · obtain ⟨A2, n2, cp2, e58, hr2⟩ := (show ∃ A2 n2 cp2, xs 83 = .tuple #[frV d10.v d10.k d10.s 0 d10.c (.slice A2 n2 cp2), .int .i64 er] ∧ RefAt V d10.c A2 n2 cp2 (nxF d10.gs f er) from hx 83 (by simp))
                exact ⟨frV d10.v d10.k d10.s 0 d10.c (.slice A2 n2 cp2), V, by simp [execOp, fill, Act.put, Act.eval, e58, go_sem], ⟨A2, n2, cp2, rfl, hr2⟩, Below.refl _ _⟩
              simp only [wpF, Act.put, List.setIfInBounds_toArray, List.set_cons_succ, List.set_cons_zero]
              refine wpFG_use 83 7 (.int .i64 er) (by simp) (by rfl) (by kernel_rfl) (by kernel_rfl) (by rfl) (fun x => by rfl) (fun x V hx V' => ?_) ?_
              · obtain ⟨A2, n2, cp2, e58, hr2⟩ := (show ∃ A2 n2 cp2, x = .tuple #[frV d10.v d10.k d10.s 0 d10.c (.slice A2 n2 cp2), .int .i64 er] ∧ RefAt V d10.c A2 n2 cp2 (nxF d10.gs f er) from hx)
                simp [execOp, Act.put, Act.eval, e58, go_sem]
              simp only [Act.put, List.setIfInBounds_toArray, List.set_cons_succ, List.set_cons_zero]
              refine wpFG_step (wpF_src 12 (by simp) rfl (by kernel_rfl) (by kernel_rfl) (fun V hV => ⟨.pointer (some ⟨V.heap.size, 0, none⟩), V.alloc (.cells (frC 0 0 0 0 0 (.slice none 0 0)) 83), ?_, ⟨_, rfl, hV.size, World.alloc_heap_new _ _⟩, (Below.refl _ _).alloc (Nat.le_refl _) _⟩) ?_)
              · have hzz : (zeroValue 83).run Try.prog V = .ok (frV 0 0 0 0 0 (.slice none 0 0)) V := by kernel_rfl
                simp [execOp, go_sem, hzz]
                try rfl
              simp only [wpF, Act.put, List.setIfInBounds_toArray, List.set_cons_succ, List.set_cons_zero]
              refine wpFG_storeX rfl rfl rfl (fun xs V hV hx => ?_) ?_
              · obtain ⟨g', e12, hg', hcg⟩ := (show ∃ g, xs 12 = .pointer (some ⟨g, 0, none⟩) ∧ W10.heap.size ≤ g ∧ V.heap[g]? = some (.cells (frC 0 0 0 0 0 (.slice none 0 0)) 83 (0, 0)) from hx 12 (by simp))
                obtain ⟨A2, n2, cp2, e63, hr2⟩ := (show ∃ A2 n2 cp2, xs 91 = frV d10.v d10.k d10.s 0 d10.c (.slice A2 n2 cp2) ∧ RefAt V d10.c A2 n2 cp2 (nxF d10.gs f er) from hx 91 (by simp))
                refine ⟨_, ?_, g', A2, n2, cp2, e12, hg', hcg, hr2, rfl⟩
                simp only [fill, Act.put, List.setIfInBounds_toArray, List.set_cons_succ, List.set_cons_zero, e12, e63]
                exact fs_store V g' _ _ hcg rfl rfl (fs_one _ _ _ _ _ _ _ _)
              refine wpFGn_pure (wpFS_pure rfl rfl ?_)
              go_big_quiet_step (fail)
              refine wpQuiet_nil ?_
              simp only [wpFS]
              rintro xs V V' hV hx ⟨g', A2, n2, cp2, e12, hg', hcg, hr2, rfl⟩
              simp only [fill, Act.put, List.setIfInBounds_toArray, List.set_cons_succ, List.set_cons_zero, e12]
              have hof : Off (fun q => q = g') V (V.setRow g' (frC d10.v d10.k d10.s 0 d10.c (.slice A2 n2 cp2))) := Off.setRow (S := fun q => q = g') (Off.refl _ V) rfl _
              have hvf := hV.trans (hof.below (fun q hq => by omega) hV.size)
              have hrf := hr2.off hof (fun q cs t fz hq hs => by
                subst hs
                rw [hcg] at hq
                injection hq with hq
                injection hq with h1 h2 h3
                exact ⟨_, _, _, _, _, _, _, _, h1.symm, h2.symm⟩)
              have hxg := setRow_heap V g' _ (frC d10.v d10.k d10.s 0 d10.c (.slice A2 n2 cp2)) _ _ hcg
              clear hof hcg hr2 LT LS LF KR
              generalize (V.setRow g' (frC d10.v d10.k d10.s 0 d10.c (.slice A2 n2 cp2))) = Wf at hvf hrf hxg ⊢
              have hmf := HM10.out.later hvf
              have HMF := Lib.hid hmf
              have hsf : w.heap.size + 4 ≤ Wf.heap.size := by have := hvf.size; omega
              generalize xs 90 = x90
              generalize xs 83 = x83
              generalize xs 91 = x91
              clear hx
              by_cases he0 : er = 0
              · subst he0
                have hnx : nxF d10.gs f 0 = d10.gs ++ [f] := if_pos rfl
                rw [hnx] at hrf
                have hd0 := HMF.out.doc.at' d10 (List.mem_of_getElem? HJ.out)
                have hdp : Ds.At Wf ⟨d10.v, d10.k, d10.s, d10.c, A2, n2, cp2, d10.gs ++ [f]⟩ := ⟨hrf, hd0.num, hd0.good⟩
                have hms : Ds.ms ⟨d10.v, d10.k, d10.s, d10.c, A2, n2, cp2, d10.gs ++ [f]⟩ = d10.ms.push f := by simp [Ds.ms, Tb.Ms.push]
                obtain ⟨dp, hdpe⟩ : ∃ dp : Ds, (⟨d10.v, d10.k, d10.s, d10.c, A2, n2, cp2, d10.gs ++ [f]⟩ : Ds) = dp := ⟨_, rfl⟩
                have hdc : dp.cs = #[.int .i64 d10.v, .int .i64 d10.k, .int .u32 d10.s, .int .i64 0, .int .i64 d10.c, .slice A2 n2 cp2] := by rw [← hdpe]; rfl
                have hdp5 : dp.v = d10.v ∧ dp.k = d10.k ∧ dp.s = d10.s ∧ dp.c = d10.c ∧ dp.A = A2 ∧ dp.n = n2 ∧ dp.cp = cp2 := by rw [← hdpe]; exact ⟨rfl, rfl, rfl, rfl, rfl, rfl, rfl⟩
                have HSRP : Hid (SrcL Src (L10.set j10 dp)) := Lib.hid fun d hd g hg => by
                  rcases List.mem_or_eq_of_mem_set hd with h1 | h1
                  · exact HSR10.out d h1 g hg
                  · rw [h1, ← hdpe] at hg
                    rcases List.mem_append.1 hg with h2 | h2
                    · exact HSR10.out d10 (List.mem_of_getElem? HJ.out) g h2
                    · rw [List.mem_singleton.1 h2]; exact HSF.out
                rw [hdpe] at hdp hms
                obtain ⟨z0, hi, hz0, hz1, hz2⟩ := info_parts dsInfo
                obtain ⟨v22, W22, hr22, ho22, hb22⟩ := append_docs (P := Try.prog) 28 28 83 z0 _ Try.underlying28 hi hz0 hz1 hz2 rfl Wf.heap.size Wf.heap.size (by rw [World.size_alloc]; omega) (World.ownsRow_made Wf #[] 0 (Nat.le_refl _) (by unfold maxLen; omega) rfl) (HMF.out.later ((Below.refl _ Wf).alloc (Nat.le_refl _) (.cells #[] 83))).doc
                obtain ⟨g22, c22, rfl, hc22⟩ : ∃ g c, v22 = .slice (some ⟨g, 0, none⟩) n10 c ∧ n10 ≤ c := by
                  rcases ho22.2 with ⟨_, h0⟩ | ⟨g, cap, cur, hv, _, _, hle, _⟩
                  · omega
                  · exact ⟨g, cap, hv, hle⟩
                have hbf2 : Below Wf.heap.size Wf W22 := ((Below.refl _ Wf).alloc (Nat.le_refl _) _).trans (hb22.mono (by rw [World.size_alloc]; omega))
                obtain ⟨y1, y2, y3, hth, hkp, hdp3, hm23⟩ := HMF.out.setAt (dp := dp) hbf2 ho22 hjn (by omega) hdp
                have d1 := (doc_cells (HMF.out.later ((Below.refl _ Wf).alloc (Nat.le_refl _) (.cells #[] 83))).t).2
                have hgp : g' ≠ w.heap.size := by omega
                obtain ⟨hx22, hx23⟩ := hkp g' _ hxg hgp
                have hncc : (n10 : Int) ≤ (c22 : Int) := by omega
                obtain ⟨W23, hW23⟩ : ∃ W23, (W22.setCell ⟨w.heap.size, 1, none⟩ (.slice (some ⟨g22, 0, none⟩) n10 c22)).setCells g22 (j10 * 6) dp.cs.toList = W23 := ⟨_, rfl⟩
                rw [hW23] at hm23 hdp3 hx23
                rw [hdc] at hW23
                have HW23 := Lib.hid hW23
                obtain ⟨m0, m1, m2, m3, m4, m5⟩ := fr_block hx22
                obtain ⟨l0, l1, l2, l3, l4, l5⟩ := fr_block hx23
                have HM23 := Lib.hid hm23
                have HDP3 := Lib.hid hdp3
                have HMS := Lib.hid hms
                have HP5 := Lib.hid hdp5
                have KFU := fun V : World => rfull_any (w := V) d10.v d10.k d10.s 0 (c := d10.c) (A := A2) (n := n2) (cp := cp2) hd0.pos.1
                have HNN := Lib.hid hrf.len
                unfold frV frC at KFU
                have HX23 := Lib.hid hx23
                rw [hdc] at hth
                have HTH := Lib.hid hth
                have HR22 := Lib.hid hr22
                have HDC := Lib.hid hdc
                clear hnx hrf hd0 hdp hms hdpe ho22 hb22 hbf2 hm23 hdp3 hx22 hx23 hkp hdp5 hmf hxg hvf hi hz0 hz1 hz2 hth hr22 hdc hW23
                go_wp2_with (first
                  | (at_builtin; refine wpList_appendU (v1 := .slice (some ⟨Wf.heap.size, 0, none⟩) 0 0) (v2 := .slice (some ⟨b, off, none⟩) n10 cp10) rfl (.tmp 98) (.tmp 100) 28 rfl rfl rfl HR22.out ?_)
                  | (refine wpList_store_mid rfl 83 (.tmp 107) (.tmp 106) rfl g22 (j10 * 6) #[.int .i64 d10.v, .int .i64 d10.k, .int .u32 d10.s, .int .i64 0, .int .i64 d10.c, .slice A2 n2 cp2] rfl rfl HTH.out ssInfo (by simp [Value.oneCell']) ?_; rw [HW23.out]))
                refine (KFU W23).mono ?_
                rintro e W24 ⟨rfl, hb24⟩
                have hm24 := HM23.out.later hb24
                have hs24 : w.heap.size + 4 ≤ W24.heap.size := by
                  have h1 := hm24.lo
                  have h2 := (Array.getElem?_eq_some_iff.1 hm24.was).1
                  omega
                have HL24 : Hid (dp.ms.C.length = n2) := Lib.hid (by
                  show (List.map Fr.ct dp.gs).length = n2
                  rw [List.length_map, ← HP5.out.2.2.2.2.2.1]
                  exact HDP3.out.ref.len)
                have hput := HPT10.out
                rw [if_neg (by simp), ← HMS.out, ← List.map_set] at hput
                have HNK2 : Hid ((Tb.nums ((L10.set j10 dp).map Ds.ms)).Nodup) := Lib.hid (by
                  have e : Tb.nums ((L10.set j10 dp).map Ds.ms) = L10.map Ds.s := by
                    unfold Tb.nums
                    rw [List.map_map, List.map_set]
                    apply List.ext_getElem?
                    intro i
                    rw [List.getElem?_set, List.getElem?_map, List.getElem?_map, List.length_map]
                    by_cases hij : j10 = i
                    · subst hij
                      rw [if_pos rfl, if_pos (by rw [HM10.out.doc.len]; exact hjn), HJ.out]
                      show some dp.s = some d10.s
                      rw [HP5.out.2.2.1]
                    · rw [if_neg hij]
                      rfl
                  rw [e]
                  exact HNK.out)
                have HFD : Hid (Tb.find ((L10.set j10 dp).map Ds.ms) f.s = some dp.ms) := Lib.hid (by
                  have h := Tb.find_of (x := dp.ms) HNK2.out (List.mem_map.2 ⟨dp, List.mem_set (by rw [HM10.out.doc.len]; exact hjn) dp, rfl⟩)
                  rwa [show dp.ms.s = f.s from HP5.out.2.2.1.trans HDS.out] at h)
                by_cases hfull : (n2 : Int) = d10.c
                · have hfl' : ((n2 : Int) == d10.c) = true := by simpa using hfull
                  rw [Tb.came_full HFD.out (by rw [HL24.out]; show (n2 : Int) = dp.c; rw [HP5.out.2.2.2.1]; exact hfull), HL24.out] at hput
                  have hx24 := row_keep HX23.out hb24
                  obtain ⟨l0, l1, l2, l3, l4, l5⟩ := fr_block hx24
                  have hra := (HDP3.out.below hb24).ref
                  rw [HP5.out.2.2.2.1, HP5.out.2.2.2.2.1, HP5.out.2.2.2.2.2.1, HP5.out.2.2.2.2.2.2, ← hfull] at hra
                  have KBY := rbytes_any d10.v d10.k d10.s 0 hra
                  rw [hfull] at KBY
                  unfold frV frC at KBY
                  have hdr : Tb.drop ((L10.set j10 dp).map Ds.ms) f.s = ((L10.set j10 dp).filter fun d => d.s != f.s).map Ds.ms := by
                    unfold Tb.drop
                    rw [List.filter_map]
                    rfl
                  rw [hdr] at hput
                  have HPZ := Lib.hid hput
                  have HM24 := Lib.hid hm24
                  have HFU := Lib.hid hfull
                  clear hm24 hput hb24 hfull hra hdr hx24 m0 m1 m2 m3 m4 m5 y1 y2 y3 d1
                  go_wp2_with fail
                  refine KBY.mono ?_
                  rintro e W25 ⟨u25, rfl, hmk⟩
                  obtain ⟨Ab, cb, rfl, hcb, hnb⟩ := hmk.slice
                  have hnew25 : ∀ p, Ab = some p → w.heap.size ≤ p.block := fun p hp => by
                    have h1 := (hmk.1.lt p.block (by rw [hp]; rfl)).1
                    omega
                  have hm25 := HM24.out.later hmk.2
                  obtain ⟨zs, hzs⟩ : ∃ zs, Sl.cat (dp.gs.map Fr.ct) n2 = zs := ⟨_, rfl⟩
                  have hzs' : Sl.cat dp.ms.C n2 = zs := hzs
                  rw [hzs] at hcb hnb ⊢
                  rw [hzs'] at HPZ
                  obtain ⟨u0, u1, u2, u3, hez⟩ := hm25.told (q := zs.length) rfl hnb hcb hnew25
                  obtain ⟨d0, d1⟩ := doc_cells hez.t
                  obtain ⟨e0, e1, e2, e3, e4, e5⟩ := fr_block (v := f.v) (k := f.k) (s := f.s) (i := f.i) (c := f.c) hez.f
                  have KDR := ddrop_any hez.doc r f.s
                  unfold docV at KDR
                  have HEZ0 := Lib.hid hez
                  clear hez hm25 hnb hmk hzs hzs' KBY l0 l1 l2 l3 l4 l5 e0 e1 e3 e4 e5
                  go_wp2_with fail
                  refine KDR.mono ?_
                  rintro e W27 ⟨hb27, A27, c27, rfl, hd27⟩
                  obtain ⟨q27, hq27⟩ : ∃ q, ((L10.set j10 dp).filter fun d => d.s != f.s).length = q := ⟨_, rfl⟩
                  rw [hq27] at hd27 ⊢
                  have hez27 := HEZ0.out.later hb27
                  have x0 := hez27.t
                  have hgone := hez27.gone hd27
                  have HEZ := Lib.hid hgone
                  have HSZ : Hid (w.heap.size + 4 ≤ (W27.setRow w.heap.size #[.int .i64 (r : Int), .slice A27 q27 c27]).heap.size) := Lib.hid (by
                    have h1 := hgone.lo
                    have h2 := (Array.getElem?_eq_some_iff.1 hgone.out).1
                    omega)
                  clear hgone hez27 hd27 hb27 KDR HEZ0 u0 u1 u2 u3 d0 d1 e2 hq27
                  unfold docV
                  go_wp2_with (refine wpList_store_row rfl 30 (.tmp 2) (.tmp 118) rfl w.heap.size #[.int .i64 (r : Int), .slice A27 q27 c27] rfl rfl 30 _ x0 stInfo rfl (by simp [Value.oneCell']) ?_)
                  obtain ⟨Wz, hWz⟩ : ∃ Wz, W27.setRow w.heap.size #[.int .i64 (r : Int), .slice A27 q27 c27] = Wz := ⟨_, rfl⟩
                  obtain ⟨Az, hAz⟩ : ∃ Az, A27 = Az := ⟨_, rfl⟩
                  obtain ⟨nz, hnz⟩ : ∃ nz, q27 = nz := ⟨_, rfl⟩
                  obtain ⟨cz, hcz⟩ : ∃ cz, c27 = cz := ⟨_, rfl⟩
                  obtain ⟨Lz, hLz⟩ : ∃ Lz, ((L10.set j10 dp).filter fun d => d.s != f.s) = Lz := ⟨_, rfl⟩
                  have HSRZ : Hid (SrcL Src Lz) := Lib.hid (by rw [← hLz]; exact fun d hd => HSRP.out d (List.mem_filter.1 hd).1)
                  obtain ⟨Abz, hAbz⟩ : ∃ Abz, Ab = Abz := ⟨_, rfl⟩
                  obtain ⟨cbz, hcbz⟩ : ∃ cbz, cb = cbz := ⟨_, rfl⟩
                  obtain ⟨zsz, hzsz⟩ : ∃ zsz, zs = zsz := ⟨_, rfl⟩
                  obtain ⟨whz, hwhz⟩ : ∃ whz, true = whz := ⟨_, rfl⟩
                  have HEZ : Hid (De w r f (pw + 1) Az nz cz Lz Abz cbz zsz whz ev10 old10 Wz) := Lib.hid (by rw [← hWz, ← hAz, ← hnz, ← hcz, ← hLz, ← hAbz, ← hcbz, ← hzsz, ← hwhz]; exact HEZ.out)
                  have HPZ : Hid (Tb.put r (L.map Ds.ms) f = ⟨0, Lz.map Ds.ms, ⟨zsz, whz, ev10, old10⟩⟩) := Lib.hid (by rw [← hLz, ← hzsz, ← hwhz]; exact HPZ.out)
                  have HSZ : Hid (w.heap.size + 4 ≤ Wz.heap.size) := Lib.hid (by rw [← hWz]; exact HSZ.out)
                  rw [hWz]
                  clear hWz hAz hnz hcz hLz hAbz hcbz hzsz hwhz x0
                  have hloz := HEZ.out.lo
                  refine wp_region_order6 (0 :: 1 :: 2 :: 3 :: 4 :: []) (fun V => V.heap[pw + 1]? = some (.cells #[.slice Abz zsz.length cbz, .bool whz, .bool ev10, .int .u32 old10] 41 (0, 0)) ∧ V.heap[w.heap.size]? = some (.cells #[.int .i64 (r : Int), .slice Az nz cz] 30 (0, 0)))
                    (C := fun V => Below Wz.heap.size Wz V ∧ ∃ k, V = Wz.drewN k) (by kernel_rfl) (by kernel_rfl) ⟨(Below.refl _ _).drew, 1, rfl⟩ (fun V hV => ⟨(HEZ.out.later hV.1).out, (HEZ.out.later hV.1).t⟩) ?_
                  refine wpO6_load (ad := ⟨w.heap.size, 0, none⟩) (.agg #[.int .i64 (r : Int), .slice Az nz cz]) rfl rfl rfl (by rfl) (fun V hV => ?_) ?_
                  · obtain ⟨d0, d1⟩ := doc_cells hV.2
                    simp [Instr.loadAt, go_sem, d0, d1]
                  simp only [Act.put, List.setIfInBounds_toArray, List.set_cons_succ, List.set_cons_zero]
                  refine wpO6_load (ad := ⟨pw + 1, 0, none⟩) (.agg #[.slice Abz zsz.length cbz, .bool whz, .bool ev10, .int .u32 old10]) rfl rfl rfl (by rfl) (fun V hV => ?_) ?_
                  · obtain ⟨k0, k1, k2, k3⟩ := out_block hV.1
                    simp [Instr.loadAt, go_sem, k0, k1, k2, k3]
                  simp only [Act.put, List.setIfInBounds_toArray, List.set_cons_succ, List.set_cons_zero]
                  refine wpO6_store (fun V' => ∃ k, V' = (Wz.drewN k).setRow (w.heap.size + 2) #[.int .i64 (r : Int), .slice Az nz cz]) rfl rfl rfl rfl ⟨w.heap.size + 2, 0, none⟩ (.agg #[.int .i64 (r : Int), .slice Az nz cz]) (by rfl) (by rfl) ?_ (fun V hV => ?_) ?_
                  · rintro V' ⟨k, rfl⟩
                    exact ⟨(setRow_other _ _ _ _ (by omega)).trans HEZ.out.out, (setRow_other _ _ _ _ (by omega)).trans HEZ.out.t⟩
                  · obtain ⟨_, k, rfl⟩ := hV
                    exact ⟨_, run_storeVar_rowT HEZ.out.rt, k, rfl⟩
                  refine wpO6_store (fun V' => ∃ k, V' = ((Wz.drewN k).setRow (w.heap.size + 2) #[.int .i64 (r : Int), .slice Az nz cz]).setRow (w.heap.size + 3) (outC Abz zsz.length cbz whz ev10 old10)) rfl rfl rfl rfl ⟨w.heap.size + 3, 0, none⟩ (.agg (outC Abz zsz.length cbz whz ev10 old10)) (by rfl) (by rfl) ?_ ?_ ?_
                  · rintro V' ⟨k, rfl⟩
                    exact ⟨(setRow_other _ _ _ _ (by omega)).trans ((setRow_other _ _ _ _ (by omega)).trans HEZ.out.out), (setRow_other _ _ _ _ (by omega)).trans ((setRow_other _ _ _ _ (by omega)).trans HEZ.out.t)⟩
                  · rintro V' ⟨k, rfl⟩
                    exact ⟨_, run_storeVar_rowO ((setRow_other _ _ _ _ (by omega)).trans HEZ.out.ro), k, rfl⟩
                  refine wpO6_pure rfl rfl ?_
                  go_big_quiet_step (fail)
                  refine wpQuiet_nil ?_
                  rintro w27 ⟨k, rfl⟩
                  have hez := HEZ.out.later (below_drewN (Below.refl _ _) k)
                  obtain ⟨x3, c0, c1, o0, o1, o2, o3, HFIN⟩ := HFin.out (Wz.drewN k) Az nz cz Lz Abz cbz ⟨0, Lz.map Ds.ms, ⟨zsz, whz, ev10, old10⟩⟩ HSRZ.out HSZ.out hez.rt hez.ro hez.below HPZ.out hez.doc rfl hez.room hez.nums hez.new
                  have HG := Lib.hid HFIN
                  clear HFIN x3 hez
                  go_wp2_with fail
                  refine bodyPost_ret (by simp [results, Try.results10, go_sem, c0, c1, o0, o1, o2, o3]; try rfl) rfl ?_
                  exact HG.out
                · have hfl' : ((n2 : Int) == d10.c) = false := by simpa using hfull
                  rw [Tb.came_part HFD.out (by rw [HL24.out]; show (n2 : Int) ≠ dp.c; rw [HP5.out.2.2.2.1]; exact hfull)] at hput
                  have HEZ := Lib.hid hm24.part
                  have HPZ := Lib.hid hput
                  have HSZ := Lib.hid hs24
                  clear hm24 hput hb24 hfull m0 m1 m2 m3 m4 m5 l0 l1 l2 l3 l4 l5 y1 y2 y3 d1
                  go_wp2_with fail
                  obtain ⟨Wz, hWz⟩ : ∃ Wz, W24 = Wz := ⟨_, rfl⟩
                  obtain ⟨Az, hAz⟩ : ∃ Az, (some ⟨g22, 0, none⟩ : Option Addr) = Az := ⟨_, rfl⟩
                  obtain ⟨nz, hnz⟩ : ∃ nz, n10 = nz := ⟨_, rfl⟩
                  obtain ⟨cz, hcz⟩ : ∃ cz, c22 = cz := ⟨_, rfl⟩
                  obtain ⟨Lz, hLz⟩ : ∃ Lz, L10.set j10 dp = Lz := ⟨_, rfl⟩
                  have HSRZ : Hid (SrcL Src Lz) := Lib.hid (by rw [← hLz]; exact HSRP.out)
                  obtain ⟨Abz, hAbz⟩ : ∃ Abz, (none : Option Addr) = Abz := ⟨_, rfl⟩
                  obtain ⟨cbz, hcbz⟩ : ∃ cbz, 0 = cbz := ⟨_, rfl⟩
                  obtain ⟨zsz, hzsz⟩ : ∃ zsz, ([] : List Int) = zsz := ⟨_, rfl⟩
                  obtain ⟨whz, hwhz⟩ : ∃ whz, false = whz := ⟨_, rfl⟩
                  have HEZ : Hid (De w r f (pw + 1) Az nz cz Lz Abz cbz zsz whz ev10 old10 Wz) := Lib.hid (by rw [← hWz, ← hAz, ← hnz, ← hcz, ← hLz, ← hAbz, ← hcbz, ← hzsz, ← hwhz]; exact HEZ.out)
                  have HPZ : Hid (Tb.put r (L.map Ds.ms) f = ⟨0, Lz.map Ds.ms, ⟨zsz, whz, ev10, old10⟩⟩) := Lib.hid (by rw [← hLz, ← hzsz, ← hwhz]; exact HPZ.out)
                  have HSZ : Hid (w.heap.size + 4 ≤ Wz.heap.size) := Lib.hid (by rw [← hWz]; exact HSZ.out)
                  rw [hWz]
                  clear hWz hAz hnz hcz hLz hAbz hcbz hzsz hwhz
                  have hloz := HEZ.out.lo
                  refine wp_region_order6 (0 :: 1 :: 2 :: 3 :: 4 :: []) (fun V => V.heap[pw + 1]? = some (.cells #[.slice Abz zsz.length cbz, .bool whz, .bool ev10, .int .u32 old10] 41 (0, 0)) ∧ V.heap[w.heap.size]? = some (.cells #[.int .i64 (r : Int), .slice Az nz cz] 30 (0, 0)))
                    (C := fun V => Below Wz.heap.size Wz V ∧ ∃ k, V = Wz.drewN k) (by kernel_rfl) (by kernel_rfl) ⟨(Below.refl _ _).drew, 1, rfl⟩ (fun V hV => ⟨(HEZ.out.later hV.1).out, (HEZ.out.later hV.1).t⟩) ?_
                  refine wpO6_load (ad := ⟨w.heap.size, 0, none⟩) (.agg #[.int .i64 (r : Int), .slice Az nz cz]) rfl rfl rfl (by rfl) (fun V hV => ?_) ?_
                  · obtain ⟨d0, d1⟩ := doc_cells hV.2
                    simp [Instr.loadAt, go_sem, d0, d1]
                  simp only [Act.put, List.setIfInBounds_toArray, List.set_cons_succ, List.set_cons_zero]
                  refine wpO6_load (ad := ⟨pw + 1, 0, none⟩) (.agg #[.slice Abz zsz.length cbz, .bool whz, .bool ev10, .int .u32 old10]) rfl rfl rfl (by rfl) (fun V hV => ?_) ?_
                  · obtain ⟨k0, k1, k2, k3⟩ := out_block hV.1
                    simp [Instr.loadAt, go_sem, k0, k1, k2, k3]
                  simp only [Act.put, List.setIfInBounds_toArray, List.set_cons_succ, List.set_cons_zero]
                  refine wpO6_store (fun V' => ∃ k, V' = (Wz.drewN k).setRow (w.heap.size + 2) #[.int .i64 (r : Int), .slice Az nz cz]) rfl rfl rfl rfl ⟨w.heap.size + 2, 0, none⟩ (.agg #[.int .i64 (r : Int), .slice Az nz cz]) (by rfl) (by rfl) ?_ (fun V hV => ?_) ?_
                  · rintro V' ⟨k, rfl⟩
                    exact ⟨(setRow_other _ _ _ _ (by omega)).trans HEZ.out.out, (setRow_other _ _ _ _ (by omega)).trans HEZ.out.t⟩
                  · obtain ⟨_, k, rfl⟩ := hV
                    exact ⟨_, run_storeVar_rowT HEZ.out.rt, k, rfl⟩
                  refine wpO6_store (fun V' => ∃ k, V' = ((Wz.drewN k).setRow (w.heap.size + 2) #[.int .i64 (r : Int), .slice Az nz cz]).setRow (w.heap.size + 3) (outC Abz zsz.length cbz whz ev10 old10)) rfl rfl rfl rfl ⟨w.heap.size + 3, 0, none⟩ (.agg (outC Abz zsz.length cbz whz ev10 old10)) (by rfl) (by rfl) ?_ ?_ ?_
                  · rintro V' ⟨k, rfl⟩
                    exact ⟨(setRow_other _ _ _ _ (by omega)).trans ((setRow_other _ _ _ _ (by omega)).trans HEZ.out.out), (setRow_other _ _ _ _ (by omega)).trans ((setRow_other _ _ _ _ (by omega)).trans HEZ.out.t)⟩
                  · rintro V' ⟨k, rfl⟩
                    exact ⟨_, run_storeVar_rowO ((setRow_other _ _ _ _ (by omega)).trans HEZ.out.ro), k, rfl⟩
                  refine wpO6_pure rfl rfl ?_
                  go_big_quiet_step (fail)
                  refine wpQuiet_nil ?_
                  rintro w27 ⟨k, rfl⟩
                  have hez := HEZ.out.later (below_drewN (Below.refl _ _) k)
                  obtain ⟨x3, c0, c1, o0, o1, o2, o3, HFIN⟩ := HFin.out (Wz.drewN k) Az nz cz Lz Abz cbz ⟨0, Lz.map Ds.ms, ⟨zsz, whz, ev10, old10⟩⟩ HSRZ.out HSZ.out hez.rt hez.ro hez.below HPZ.out hez.doc rfl hez.room hez.nums hez.new
                  have HG := Lib.hid HFIN
                  clear HFIN x3 hez
                  go_wp2_with fail
                  refine bodyPost_ret (by simp [results, Try.results10, go_sem, c0, c1, o0, o1, o2, o3]; try rfl) rfl ?_
                  exact HG.out
              · have he' : (er != 0) = true := by simpa using he0
                have hput := HPT10.out
                rw [if_pos he0] at hput
                obtain ⟨x3, c0, c1, o0, o1, o2, o3, HFIN⟩ := HBad2.out er Wf hsf hmf.rt hmf.ro hmf.below hput
                have x2 := hmf.rt
                obtain ⟨d0, d1⟩ := doc_cells hmf.was
                have HG := Lib.hid HFIN
                clear HFIN hput hmf hxg hrf hvf
                go_wp2_with (first
                  | refine wpList_store_row rfl 30 (.tmp 4) (.tmp 95) rfl (w.heap.size + 2) #[.int .i64 (r : Int), .slice A n cp] rfl rfl 30 _ x2 stInfo rfl (by simp [Value.oneCell']) ?_
                  | refine wpList_store_row rfl 41 (.tmp 5) (.tmp 96) rfl (w.heap.size + 3) (outC none 0 0 false false 0) rfl rfl 41 _ x3 soInfo rfl (out_one _ _ _ _ _ _) ?_)
                refine bodyPost_ret (by simp [results, Try.results10, go_sem, c0, c1, o0, o1, o2, o3]; try rfl) rfl ?_
                exact HG.out
          · have hnrb : ((n : Int) == (r : Int)) = false := by simp; omega
            rw [if_neg hnr] at HPT
            have HNK7 : Hid ((L.map Ds.s).Nodup ∧ ∀ d ∈ L, d.s ≠ f.s) := Lib.hid ⟨HK.out, HNO.out⟩
            have hl7 : n ≤ 16 := by omega
            clear hm4 hb4 hnr
            go_wp2_with fail
            obtain ⟨ev7, hev7⟩ : ∃ ev7, false = ev7 := ⟨_, rfl⟩
            obtain ⟨old7, hold7⟩ : ∃ old7, (0 : Int) = old7 := ⟨_, rfl⟩
            obtain ⟨W7, hW7⟩ : ∃ W7, w4 = W7 := ⟨_, rfl⟩
            obtain ⟨L7, hL7⟩ : ∃ L7, L = L7 := ⟨_, rfl⟩
            obtain ⟨q6, hq6⟩ : ∃ q6, n = q6 := ⟨_, rfl⟩
            obtain ⟨A6, hA6⟩ : ∃ A6, A = A6 := ⟨_, rfl⟩
            obtain ⟨c6, hc6⟩ : ∃ c6, cp = c6 := ⟨_, rfl⟩
            have HM7 : Hid (Dm w r A n cp f pw (pw + 1) A6 q6 c6 L7 ev7 old7 W7) := Lib.hid (by rw [← hev7, ← hold7, ← hW7, ← hL7, ← hq6, ← hA6, ← hc6]; exact HM4.out)
            have HPT : Hid (Tb.put r (L.map Ds.ms) f = .ok (Tb.came (L7.map Ds.ms ++ [(Tb.Ms.new f).push f]) f.s ev7 old7)) := Lib.hid (by rw [← hev7, ← hold7, ← hL7]; exact HPT.out)
            have HSR7 : Hid (SrcL Src L7) := Lib.hid (by rw [← hL7]; exact HSR.out)
            rw [hL7] at HNK7
            rw [hq6] at hl7
            rw [hW7]
            clear hev7 hold7 hW7 hL7 hq6 hA6 hc6 HM4 HM3
            have h7t := HM7.out.t
            have L1 : ∀ V, Below W7.heap.size W7 V → (Instr.loadAt 28 (.pointer (some ⟨w.heap.size, 1, none⟩))).run Try.prog V = .ok (.slice A6 q6 c6) V := fun V hV => by
              obtain ⟨d0, d1⟩ := doc_cells (HM7.out.later hV).t
              simp [Instr.loadAt, go_sem, d1]
            have L2 : ∀ V, Below W7.heap.size W7 V → (Instr.loadAt 44 (.pointer (some ⟨w.heap.size + 1, 0, none⟩))).run Try.prog V = .ok (.agg #[.int .i64 f.v, .int .i64 f.k, .int .u32 f.s, .int .i64 f.i, .int .i64 f.c]) V := fun V hV => by
              obtain ⟨d0, d1, d2, d3, d4, d5⟩ := fr_block (v := f.v) (k := f.k) (s := f.s) (i := f.i) (c := f.c) (HM7.out.later hV).f
              simp [Instr.loadAt, go_sem, d0, d1, d2, d3, d4]
            have KN : Hid (∀ V, Below W7.heap.size W7 V → Calls Try.prog 31 #[.agg #[.int .i64 f.v, .int .i64 f.k, .int .u32 f.s, .int .i64 f.i, .int .i64 f.c]] V fun e w' => e = .returned (.agg #[.int .i64 f.v, .int .i64 f.k, .int .u32 f.s, .int .i64 0, .int .i64 f.c, .slice none 0 0]) ∧ Below V.heap.size V w') := Lib.hid fun V _ => rnew_any13 f.v f.k f.s f.i f.c V
            have hs7 : w.heap.size + 4 ≤ W7.heap.size := by
              have h1 := HM7.out.lo
              have h2 := (Array.getElem?_eq_some_iff.1 HM7.out.was).1
              omega
            obtain ⟨z0, hi, hz0, hz1, hz2⟩ := info_parts dsInfo
            clear h7t
            refine wp_region_FT 121 8 [69, 72, 76] (FDoc W7.heap.size q6 L7 (Ds.new f)) (fun V => Below W7.heap.size W7 V) (by kernel_rfl) (by kernel_rfl) (by rfl) (by kernel_rfl) (by kernel_rfl) (by kernel_rfl) (by rfl) (by simp) (fun W W' h hb => h.trans (hb.mono h.size)) (fun q x W W' h hb => h.later hb) (Below.refl _ _).drew ?_
            simp only [List.take_succ_cons, List.take_zero, List.drop_succ_cons, List.drop_zero]
            refine wpF_src 69 (by simp) rfl rfl rfl (fun W hW => ⟨.slice (some ⟨W.heap.size, 0, none⟩) 0 0, W.alloc (.cells #[] 83), ?_, ?_, (Below.refl _ _).alloc (Nat.le_refl _) _⟩) ?_
            · simp [go_sem]
            · unfold FDoc
              rw [if_pos rfl]
              exact ⟨_, rfl, World.ownsRow_made W #[] 0 hW.size (by unfold maxLen; omega) rfl⟩
            simp only [Act.put, List.setIfInBounds_toArray, List.set_cons_succ, List.set_cons_zero]
            repeat (refine wpF_pure rfl rfl ?_; go_big_quiet_step (fail); refine wpQuiet_nil ?_)
            refine wpF_load _ rfl (by rfl) (by rfl) (by rfl) L1 ?_
            simp only [Act.put, List.setIfInBounds_toArray, List.set_cons_succ, List.set_cons_zero]
            refine wpF_mix 72 [69] (by simp) rfl (by kernel_rfl) (by kernel_rfl) (fun xs => by rfl) (fun xs W hW hx => ?_) ?_
            · have h69 := hx 69 (by simp)
              unfold FDoc at h69
              rw [if_pos rfl] at h69
              obtain ⟨g, e69, ho69⟩ := h69
              obtain ⟨v', W', hr, ho, hbl⟩ := append_docs (P := Try.prog) 28 28 83 z0 _ Try.underlying28 hi hz0 hz1 hz2 rfl W7.heap.size g hW.size ho69 (HM7.out.doc.below hW)
              refine ⟨v', W', ?_, ?_, hbl⟩
              · exact exec_appendU (.tmp 69) (.tmp 71) 28 rfl (by simp [fill, Act.put, Act.eval, e69]) (by simp [fill, Act.put, Act.eval]) hr
              · unfold FDoc
                rw [if_neg (by decide), if_pos rfl]
                exact ho
            simp only [Act.put, List.setIfInBounds_toArray, List.set_cons_succ, List.set_cons_zero]
            repeat (refine wpF_pure rfl rfl ?_; go_big_quiet_step (fail); refine wpQuiet_nil ?_)
            refine wpF_load _ rfl (by rfl) (by rfl) (by rfl) L2 ?_
            simp only [Act.put, List.setIfInBounds_toArray, List.set_cons_succ, List.set_cons_zero]
            refine wpF_call (f := 31) (args := #[.agg #[.int .i64 f.v, .int .i64 f.k, .int .u32 f.s, .int .i64 f.i, .int .i64 f.c]]) (.agg #[.int .i64 f.v, .int .i64 f.k, .int .u32 f.s, .int .i64 0, .int .i64 f.c, .slice none 0 0]) rfl rfl (fun x => by first | rfl | (simp [go_sem]; done)) KN.out ?_
            simp only [Act.put, List.setIfInBounds_toArray, List.set_cons_succ, List.set_cons_zero]
            refine wpF_src 76 (by simp) rfl rfl rfl (fun W hW => ⟨.slice (some ⟨W.heap.size, 0, none⟩) 1 1, W.alloc (.cells (Ds.new f).cs 83), ?_, ?_, (Below.refl _ _).alloc (Nat.le_refl _) _⟩) ?_
            · simp [go_sem, Ds.cs, Ds.new, frC]
            · unfold FDoc
              rw [if_neg (by decide), if_neg (by decide)]
              exact ⟨_, rfl, World.alloc_heap_new _ _⟩
            simp only [Act.put, List.setIfInBounds_toArray, List.set_cons_succ, List.set_cons_zero]
            intro xs8 w8 hb8 hx
            have h72 := hx 72 (by simp)
            have h76 := hx 76 (by simp)
            unfold FDoc at h72 h76
            rw [if_neg (by decide), if_pos rfl] at h72
            rw [if_neg (by decide), if_neg (by decide)] at h76
            obtain ⟨g8, e76, hg8⟩ := h76
            simp only [fill, Act.put, List.setIfInBounds_toArray, List.set_cons_succ, List.set_cons_zero]
            rw [e76]
            generalize xs8 69 = x69
            generalize xs8 72 = x72 at *
            have hs8 : W7.heap.size ≤ w8.heap.size := hb8.size
            have HNW : Hid (∀ (q : Nat) (u : Value), [Value.int .i64 f.v, .int .i64 f.k, .int .u32 f.s, .int .i64 0, .int .i64 f.c, .slice none 0 0][q]? = some u → w8.cell? ((⟨g8, 0, none⟩ : Addr).add q) = some u) := Lib.hid fun q u hq => by
              rw [Addr.add_lit, Nat.zero_add]
              simp only [World.cell?, hg8]
              simpa [Ds.cs, Ds.new, frC] using hq
            have HR8 := Lib.hid h72
            have HX1 : Hid (q6 + 1 ≤ maxLen) := by show _ ≤ _; unfold maxLen; omega
            have HX2 : Hid ((q6 + 1) * 64 ≤ 140737488355328) := by show _ ≤ _; omega
            have HB8 := Lib.hid hb8
            clear hx e76 hg8 h72 L1 L2 hb8
            refine wpList_append_lies _ rfl (.tmp 72) (.tmp 76) 28 rfl W7.heap.size 83 z0 _ 6 64 Try.underlying28 hi hz0 hz1 hz2 rfl (by decide) x72 q6 (flatD L7) rfl HR8.out ⟨g8, 0, none⟩ 1 1 [Value.int .i64 f.v, .int .i64 f.k, .int .u32 f.s, .int .i64 0, .int .i64 f.c, .slice none 0 0] rfl rfl HNW.out (by simp [Value.oneCell']) (by decide) HX1.out HX2.out hs8 _ rfl ?_
            intro g9 c9 w9' hown9 hgr9 hat9 hlt9
            have hb9 : Below W7.heap.size W7 w9' := HB8.out.grown hgr9 hs8 (fun g hg => (HR8.out.lt g hg).1)
            obtain ⟨y1, y2, hm10⟩ := HM7.out.list (L2 := L7 ++ [Ds.new f]) hb9 (by rw [flatD_push]; exact hown9) (by rw [List.length_append, HM7.out.doc.len]; rfl) (fun d hd => by
              rcases List.mem_append.1 hd with h | h
              · exact .inl h
              · rw [List.mem_singleton.1 h]
                exact .inr fun W => Ds.new_at W HC.out ⟨hpos, hmax⟩) (by omega)
            have HM10 := Lib.hid hm10
            obtain ⟨y3, y4⟩ := doc_cells hm10.t
            clear hm10 hown9 hgr9 hat9 hlt9 hb9 HX1 HX2 HNW HR8
            go_wp2_with fail
            obtain ⟨W10, hW10⟩ : ∃ W10, w9'.setCell ⟨w.heap.size, 1, none⟩ (.slice (some ⟨g9, 0, none⟩) (q6 + 1) c9) = W10 := ⟨_, rfl⟩
            rw [hW10] at HM10 ⊢
            have HJ : Hid ((L7 ++ [Ds.new f])[q6]? = some (Ds.new f)) := Lib.hid (by
              have hl := HM7.out.doc.len
              rw [List.getElem?_append_right (by omega), hl, Nat.sub_self]
              rfl)
            have HNK : Hid (((L7 ++ [Ds.new f]).map Ds.s).Nodup) := Lib.hid (by
              rw [List.map_append, List.nodup_append]
              refine ⟨HNK7.out.1, by simp, fun a ha b hb e => ?_⟩
              obtain ⟨d, hd, rfl⟩ := List.mem_map.1 ha
              have hb' : b = f.s := by simpa [Ds.new] using hb
              exact HNK7.out.2 d hd (e.trans hb'))
            have HPT10 : Hid (Tb.put r (L.map Ds.ms) f = if (Ds.new f).ms.err f ≠ 0 then ⟨(Ds.new f).ms.err f, L.map Ds.ms, .no⟩ else .ok (Tb.came (((L7 ++ [Ds.new f]).map Ds.ms).set q6 ((Ds.new f).ms.push f)) f.s ev7 old7)) := Lib.hid (by
              rw [HPT.out, if_neg (show ¬ (Ds.new f).ms.err f ≠ 0 from fun h => h HER0.out), List.map_append, List.set_append_right _ _ (by rw [List.length_map]; exact Nat.le_of_eq HM7.out.doc.len), List.length_map, HM7.out.doc.len, Nat.sub_self]
              rfl)
            have HDS : Hid ((Ds.new f).s = f.s) := Lib.hid rfl
            have hn10 : q6 + 1 ≤ 17 := by omega
            obtain ⟨A10, hA10⟩ : ∃ A10, (some ⟨g9, 0, none⟩ : Option Addr) = A10 := ⟨_, rfl⟩
            obtain ⟨n10, hn10e⟩ : ∃ n10, q6 + 1 = n10 := ⟨_, rfl⟩
            rw [hA10, hn10e] at HM10
            rw [hn10e] at hn10
            have HSR10 : Hid (SrcL Src (L7 ++ [Ds.new f])) := Lib.hid fun d hd g hg => by
              rcases List.mem_append.1 hd with hd | hd
              · exact HSR7.out d hd g hg
              · rw [List.mem_singleton.1 hd] at hg
                cases hg
            obtain ⟨L10, hL10⟩ : ∃ L10, L7 ++ [Ds.new f] = L10 := ⟨_, rfl⟩
            rw [hL10] at HSR10
            rw [hL10] at HM10 HJ HNK HPT10
            obtain ⟨d10, hd10⟩ : ∃ d10, Ds.new f = d10 := ⟨_, rfl⟩
            rw [hd10] at HJ HPT10 HDS
            obtain ⟨cp10, hcp10⟩ : ∃ cp10, c9 = cp10 := ⟨_, rfl⟩
            rw [hcp10] at HM10
            obtain ⟨j10, hj10⟩ : ∃ j10, q6 = j10 := ⟨_, rfl⟩
            rw [hj10] at HJ HPT10 ⊢
            obtain ⟨ev10, hev10⟩ : ∃ ev10, ev7 = ev10 := ⟨_, rfl⟩
            obtain ⟨old10, hold10⟩ : ∃ old10, old7 = old10 := ⟨_, rfl⟩
            rw [hev10, hold10] at HM10 HPT10
            clear hev10 hold10 hW10 hA10 hn10e hL10 hd10 hcp10 hj10 y1 y2 y3 y4 HPT HNK7 HER0 HM7 KN hi hz0 hz1 hz2
            obtain ⟨b, off, rfl, hblt, -⟩ := HM10.out.doc.six HJ.out
            have hjn : j10 < n10 := by
              rw [← HM10.out.doc.len]
              exact (List.getElem?_eq_some_iff.1 HJ.out).1
            have hjn' : (j10 : Int) < (n10 : Int) := by omega
            have hncp : (n10 : Int) ≤ (cp10 : Int) := by have := HM10.out.doc.room; omega
            have hs10 : w.heap.size + 4 ≤ W10.heap.size := by
              have h1 := HM10.out.lo
              have h2 := (Array.getElem?_eq_some_iff.1 HM10.out.was).1
              omega
            have LT : ∀ V, Below W10.heap.size W10 V → (Instr.loadAt 28 (.pointer (some ⟨w.heap.size, 1, none⟩))).run Try.prog V = .ok (.slice (some ⟨b, off, none⟩) n10 cp10) V := fun V hV => by
              obtain ⟨d0, d1⟩ := doc_cells (HM10.out.later hV).t
              simp [Instr.loadAt, go_sem, d1]
            have LS : ∀ V, Below W10.heap.size W10 V → (Instr.loadAt 83 (.pointer (some ⟨b, off + j10 * 6, none⟩))).run Try.prog V = .ok (.agg #[.int .i64 d10.v, .int .i64 d10.k, .int .u32 d10.s, .int .i64 0, .int .i64 d10.c, .slice d10.A d10.n d10.cp]) V := fun V hV => by
              obtain ⟨b', off', e', _, a0, a1, a2, a3, a4, a5⟩ := (HM10.out.later hV).doc.six HJ.out
              injection e' with e'
              injection e' with e1 e2
              subst e1 e2
              simp [Instr.loadAt, go_sem, a0, a1, a2, a3, a4, a5]
            have LF : ∀ V, Below W10.heap.size W10 V → (Instr.loadAt 46 (.pointer (some ⟨w.heap.size + 1, 0, none⟩))).run Try.prog V = .ok (.agg #[.int .i64 f.v, .int .i64 f.k, .int .u32 f.s, .int .i64 f.i, .int .i64 f.c, .slice f.a f.zs.length f.cp]) V := fun V hV => by
              obtain ⟨d0, d1, d2, d3, d4, d5⟩ := fr_block (v := f.v) (k := f.k) (s := f.s) (i := f.i) (c := f.c) (HM10.out.later hV).f
              simp [Instr.loadAt, go_sem, d0, d1, d2, d3, d4, d5]
            obtain ⟨er, her⟩ : ∃ er, d10.ms.err f = er := ⟨_, rfl⟩
            rw [her] at HPT10
            have HER := Lib.hid her
            have KR : Hid (∀ V, Below W10.heap.size W10 V → Calls Try.prog 32 #[.agg #[.int .i64 d10.v, .int .i64 d10.k, .int .u32 d10.s, .int .i64 0, .int .i64 d10.c, .slice d10.A d10.n d10.cp], .agg #[.int .i64 f.v, .int .i64 f.k, .int .u32 f.s, .int .i64 f.i, .int .i64 f.c, .slice f.a f.zs.length f.cp]] V fun e w' => ∃ u, e = .returned u ∧ FPt W10.heap.size d10 f er 90 u w' ∧ Below V.heap.size V w') := Lib.hid fun V hV => by
              have hr := ((HM10.out.later hV).doc.at' d10 (List.mem_of_getElem? HJ.out)).ref
              have hfa : f.At V V.heap.size := by
                have h1 := (HM10.out.later hV).below
                exact (HF.out.below h1).mono h1.size
              refine (rput_any d10.v d10.k d10.s hr f hfa hfl).mono fun e w' h2 => ?_
              rw [show sErr d10.v d10.k d10.s d10.c f.v f.k f.s f.i f.c (d10.gs.map Fr.ct) f.zs = er from HER.out] at h2
              obtain ⟨A2, n2, cp2, he, hr2, hb⟩ := rput_nx hr h2
              exact ⟨_, he, ⟨A2, n2, cp2, rfl, hr2⟩, hb⟩
            clear her hblt
            refine wp_region_FG 121 8 [false, false, false, false, false, false, false, false, false, true, false] [90, 83, 91, 12] (FPt W10.heap.size d10 f er) (fun V => Below W10.heap.size W10 V) (fun xs V V' => ∃ g A2 n2 cp2, xs 12 = .pointer (some ⟨g, 0, none⟩) ∧ W10.heap.size ≤ g ∧ V.heap[g]? = some (.cells (frC 0 0 0 0 0 (.slice none 0 0)) 83 (0, 0)) ∧ RefAt V d10.c A2 n2 cp2 (nxF d10.gs f er) ∧ V' = V.setRow g (frC d10.v d10.k d10.s 0 d10.c (.slice A2 n2 cp2))) (by kernel_rfl) (by kernel_rfl) (by rfl) (by kernel_rfl) (by rfl) (by simp) (fun W W' h hb => h.trans (hb.mono h.size)) (fun q x W W' h hb => h.later hb) (Below.refl _ _).drew ?_
            refine wpFG_step (wpF_pure rfl rfl ?_)
            go_big_quiet_step (fail)
            refine wpQuiet_nil ?_
            simp only [wpF]
            refine wpFG_step (wpF_load _ rfl (by rfl) (by rfl) (by rfl) LT ?_)
            simp only [wpF, Act.put, List.setIfInBounds_toArray, List.set_cons_succ, List.set_cons_zero]
            refine wpFG_step (wpF_pure rfl rfl ?_)
            go_big_quiet_step (fail)
            refine wpQuiet_nil ?_
            simp only [wpF]
            refine wpFG_step (wpF_pure rfl rfl ?_)
            go_big_quiet_step (fail)
            refine wpQuiet_nil ?_
            simp only [wpF]
            refine wpFG_step (wpF_load _ rfl (by rfl) (by rfl) (by rfl) LS ?_)
            simp only [wpF, Act.put, List.setIfInBounds_toArray, List.set_cons_succ, List.set_cons_zero]
            refine wpFG_step (wpF_load _ rfl (by rfl) (by rfl) (by rfl) LF ?_)
            simp only [wpF, Act.put, List.setIfInBounds_toArray, List.set_cons_succ, List.set_cons_zero]
            refine wpFG_step (wpF_callsrc 90 (f := 32) (args := #[.agg #[.int .i64 d10.v, .int .i64 d10.k, .int .u32 d10.s, .int .i64 0, .int .i64 d10.c, .slice d10.A d10.n d10.cp], .agg #[.int .i64 f.v, .int .i64 f.k, .int .u32 f.s, .int .i64 f.i, .int .i64 f.c, .slice f.a f.zs.length f.cp]]) (by simp) rfl rfl rfl (fun x => by first | rfl | (simp [go_sem]; done)) KR.out ?_)
            simp only [wpF, Act.put, List.setIfInBounds_toArray, List.set_cons_succ, List.set_cons_zero]
            refine wpFG_step (wpF_mix 83 [90] (by simp) rfl (by kernel_rfl) (by kernel_rfl) (fun xs => by rfl) (fun xs V hV hx => ⟨xs 90, V, by simp [execOp, fill, Act.put, Act.eval, go_sem], hx 90 (by simp), Below.refl _ _⟩) ?_)
            simp only [wpF, Act.put, List.setIfInBounds_toArray, List.set_cons_succ, List.set_cons_zero]
            refine wpFG_step (wpF_mix 91 [83] (by simp) rfl (by kernel_rfl) (by kernel_rfl) (fun xs => by rfl) (fun xs V hV hx => ?_) ?_)
            · obtain ⟨A2, n2, cp2, e58, hr2⟩ := (show ∃ A2 n2 cp2, xs 83 = .tuple #[frV d10.v d10.k d10.s 0 d10.c (.slice A2 n2 cp2), .int .i64 er] ∧ RefAt V d10.c A2 n2 cp2 (nxF d10.gs f er) from hx 83 (by simp))
              exact ⟨frV d10.v d10.k d10.s 0 d10.c (.slice A2 n2 cp2), V, by simp [execOp, fill, Act.put, Act.eval, e58, go_sem], ⟨A2, n2, cp2, rfl, hr2⟩, Below.refl _ _⟩
            simp only [wpF, Act.put, List.setIfInBounds_toArray, List.set_cons_succ, List.set_cons_zero]
            refine wpFG_use 83 7 (.int .i64 er) (by simp) (by rfl) (by kernel_rfl) (by kernel_rfl) (by rfl) (fun x => by rfl) (fun x V hx V' => ?_) ?_
            · obtain ⟨A2, n2, cp2, e58, hr2⟩ := (show ∃ A2 n2 cp2, x = .tuple #[frV d10.v d10.k d10.s 0 d10.c (.slice A2 n2 cp2), .int .i64 er] ∧ RefAt V d10.c A2 n2 cp2 (nxF d10.gs f er) from hx)
              simp [execOp, Act.put, Act.eval, e58, go_sem]
            simp only [Act.put, List.setIfInBounds_toArray, List.set_cons_succ, List.set_cons_zero]
            refine wpFG_step (wpF_src 12 (by simp) rfl (by kernel_rfl) (by kernel_rfl) (fun V hV => ⟨.pointer (some ⟨V.heap.size, 0, none⟩), V.alloc (.cells (frC 0 0 0 0 0 (.slice none 0 0)) 83), ?_, ⟨_, rfl, hV.size, World.alloc_heap_new _ _⟩, (Below.refl _ _).alloc (Nat.le_refl _) _⟩) ?_)
            · have hzz : (zeroValue 83).run Try.prog V = .ok (frV 0 0 0 0 0 (.slice none 0 0)) V := by kernel_rfl
              simp [execOp, go_sem, hzz]
              try rfl
            simp only [wpF, Act.put, List.setIfInBounds_toArray, List.set_cons_succ, List.set_cons_zero]
            refine wpFG_storeX rfl rfl rfl (fun xs V hV hx => ?_) ?_
            · obtain ⟨g', e12, hg', hcg⟩ := (show ∃ g, xs 12 = .pointer (some ⟨g, 0, none⟩) ∧ W10.heap.size ≤ g ∧ V.heap[g]? = some (.cells (frC 0 0 0 0 0 (.slice none 0 0)) 83 (0, 0)) from hx 12 (by simp))
              obtain ⟨A2, n2, cp2, e63, hr2⟩ := (show ∃ A2 n2 cp2, xs 91 = frV d10.v d10.k d10.s 0 d10.c (.slice A2 n2 cp2) ∧ RefAt V d10.c A2 n2 cp2 (nxF d10.gs f er) from hx 91 (by simp))
              refine ⟨_, ?_, g', A2, n2, cp2, e12, hg', hcg, hr2, rfl⟩
              simp only [fill, Act.put, List.setIfInBounds_toArray, List.set_cons_succ, List.set_cons_zero, e12, e63]
              exact fs_store V g' _ _ hcg rfl rfl (fs_one _ _ _ _ _ _ _ _)
            refine wpFGn_pure (wpFS_pure rfl rfl ?_)
            go_big_quiet_step (fail)
            refine wpQuiet_nil ?_
            simp only [wpFS]
            rintro xs V V' hV hx ⟨g', A2, n2, cp2, e12, hg', hcg, hr2, rfl⟩
            simp only [fill, Act.put, List.setIfInBounds_toArray, List.set_cons_succ, List.set_cons_zero, e12]
            have hof : Off (fun q => q = g') V (V.setRow g' (frC d10.v d10.k d10.s 0 d10.c (.slice A2 n2 cp2))) := Off.setRow (S := fun q => q = g') (Off.refl _ V) rfl _
            have hvf := hV.trans (hof.below (fun q hq => by omega) hV.size)
            have hrf := hr2.off hof (fun q cs t fz hq hs => by
              subst hs
              rw [hcg] at hq
              injection hq with hq
              injection hq with h1 h2 h3
              exact ⟨_, _, _, _, _, _, _, _, h1.symm, h2.symm⟩)
            have hxg := setRow_heap V g' _ (frC d10.v d10.k d10.s 0 d10.c (.slice A2 n2 cp2)) _ _ hcg
            clear hof hcg hr2 LT LS LF KR
            generalize (V.setRow g' (frC d10.v d10.k d10.s 0 d10.c (.slice A2 n2 cp2))) = Wf at hvf hrf hxg ⊢
            have hmf := HM10.out.later hvf
            have HMF := Lib.hid hmf
            have hsf : w.heap.size + 4 ≤ Wf.heap.size := by have := hvf.size; omega
            generalize xs 90 = x90
            generalize xs 83 = x83
            generalize xs 91 = x91
            clear hx
            by_cases he0 : er = 0
            · subst he0
              have hnx : nxF d10.gs f 0 = d10.gs ++ [f] := if_pos rfl
              rw [hnx] at hrf
              have hd0 := HMF.out.doc.at' d10 (List.mem_of_getElem? HJ.out)
              have hdp : Ds.At Wf ⟨d10.v, d10.k, d10.s, d10.c, A2, n2, cp2, d10.gs ++ [f]⟩ := ⟨hrf, hd0.num, hd0.good⟩
              have hms : Ds.ms ⟨d10.v, d10.k, d10.s, d10.c, A2, n2, cp2, d10.gs ++ [f]⟩ = d10.ms.push f := by simp [Ds.ms, Tb.Ms.push]
              obtain ⟨dp, hdpe⟩ : ∃ dp : Ds, (⟨d10.v, d10.k, d10.s, d10.c, A2, n2, cp2, d10.gs ++ [f]⟩ : Ds) = dp := ⟨_, rfl⟩
              have hdc : dp.cs = #[.int .i64 d10.v, .int .i64 d10.k, .int .u32 d10.s, .int .i64 0, .int .i64 d10.c, .slice A2 n2 cp2] := by rw [← hdpe]; rfl
              have hdp5 : dp.v = d10.v ∧ dp.k = d10.k ∧ dp.s = d10.s ∧ dp.c = d10.c ∧ dp.A = A2 ∧ dp.n = n2 ∧ dp.cp = cp2 := by rw [← hdpe]; exact ⟨rfl, rfl, rfl, rfl, rfl, rfl, rfl⟩
              have HSRP : Hid (SrcL Src (L10.set j10 dp)) := Lib.hid fun d hd g hg => by
                rcases List.mem_or_eq_of_mem_set hd with h1 | h1
                · exact HSR10.out d h1 g hg
                · rw [h1, ← hdpe] at hg
                  rcases List.mem_append.1 hg with h2 | h2
                  · exact HSR10.out d10 (List.mem_of_getElem? HJ.out) g h2
                  · rw [List.mem_singleton.1 h2]; exact HSF.out
              rw [hdpe] at hdp hms
              obtain ⟨z0, hi, hz0, hz1, hz2⟩ := info_parts dsInfo
              obtain ⟨v22, W22, hr22, ho22, hb22⟩ := append_docs (P := Try.prog) 28 28 83 z0 _ Try.underlying28 hi hz0 hz1 hz2 rfl Wf.heap.size Wf.heap.size (by rw [World.size_alloc]; omega) (World.ownsRow_made Wf #[] 0 (Nat.le_refl _) (by unfold maxLen; omega) rfl) (HMF.out.later ((Below.refl _ Wf).alloc (Nat.le_refl _) (.cells #[] 83))).doc
              obtain ⟨g22, c22, rfl, hc22⟩ : ∃ g c, v22 = .slice (some ⟨g, 0, none⟩) n10 c ∧ n10 ≤ c := by
                rcases ho22.2 with ⟨_, h0⟩ | ⟨g, cap, cur, hv, _, _, hle, _⟩
                · omega
                · exact ⟨g, cap, hv, hle⟩
              have hbf2 : Below Wf.heap.size Wf W22 := ((Below.refl _ Wf).alloc (Nat.le_refl _) _).trans (hb22.mono (by rw [World.size_alloc]; omega))
              obtain ⟨y1, y2, y3, hth, hkp, hdp3, hm23⟩ := HMF.out.setAt (dp := dp) hbf2 ho22 hjn (by omega) hdp
              have d1 := (doc_cells (HMF.out.later ((Below.refl _ Wf).alloc (Nat.le_refl _) (.cells #[] 83))).t).2
              have hgp : g' ≠ w.heap.size := by omega
              obtain ⟨hx22, hx23⟩ := hkp g' _ hxg hgp
              have hncc : (n10 : Int) ≤ (c22 : Int) := by omega
              obtain ⟨W23, hW23⟩ : ∃ W23, (W22.setCell ⟨w.heap.size, 1, none⟩ (.slice (some ⟨g22, 0, none⟩) n10 c22)).setCells g22 (j10 * 6) dp.cs.toList = W23 := ⟨_, rfl⟩
              rw [hW23] at hm23 hdp3 hx23
              rw [hdc] at hW23
              have HW23 := Lib.hid hW23
              obtain ⟨m0, m1, m2, m3, m4, m5⟩ := fr_block hx22
              obtain ⟨l0, l1, l2, l3, l4, l5⟩ := fr_block hx23
              have HM23 := Lib.hid hm23
              have HDP3 := Lib.hid hdp3
              have HMS := Lib.hid hms
              have HP5 := Lib.hid hdp5
              have KFU := fun V : World => rfull_any (w := V) d10.v d10.k d10.s 0 (c := d10.c) (A := A2) (n := n2) (cp := cp2) hd0.pos.1
              have HNN := Lib.hid hrf.len
              unfold frV frC at KFU
              have HX23 := Lib.hid hx23
              rw [hdc] at hth
              have HTH := Lib.hid hth
              have HR22 := Lib.hid hr22
              have HDC := Lib.hid hdc
              clear hnx hrf hd0 hdp hms hdpe ho22 hb22 hbf2 hm23 hdp3 hx22 hx23 hkp hdp5 hmf hxg hvf hi hz0 hz1 hz2 hth hr22 hdc hW23
              go_wp2_with (first
                | (at_builtin; refine wpList_appendU (v1 := .slice (some ⟨Wf.heap.size, 0, none⟩) 0 0) (v2 := .slice (some ⟨b, off, none⟩) n10 cp10) rfl (.tmp 98) (.tmp 100) 28 rfl rfl rfl HR22.out ?_)
                | (refine wpList_store_mid rfl 83 (.tmp 107) (.tmp 106) rfl g22 (j10 * 6) #[.int .i64 d10.v, .int .i64 d10.k, .int .u32 d10.s, .int .i64 0, .int .i64 d10.c, .slice A2 n2 cp2] rfl rfl HTH.out ssInfo (by simp [Value.oneCell']) ?_; rw [HW23.out]))
              refine (KFU W23).mono ?_
              rintro e W24 ⟨rfl, hb24⟩
              have hm24 := HM23.out.later hb24
              have hs24 : w.heap.size + 4 ≤ W24.heap.size := by
                have h1 := hm24.lo
                have h2 := (Array.getElem?_eq_some_iff.1 hm24.was).1
                omega
              have HL24 : Hid (dp.ms.C.length = n2) := Lib.hid (by
                show (List.map Fr.ct dp.gs).length = n2
                rw [List.length_map, ← HP5.out.2.2.2.2.2.1]
                exact HDP3.out.ref.len)
              have hput := HPT10.out
              rw [if_neg (by simp), ← HMS.out, ← List.map_set] at hput
              have HNK2 : Hid ((Tb.nums ((L10.set j10 dp).map Ds.ms)).Nodup) := Lib.hid (by
                have e : Tb.nums ((L10.set j10 dp).map Ds.ms) = L10.map Ds.s := by
                  unfold Tb.nums
                  rw [List.map_map, List.map_set]
                  apply List.ext_getElem?
                  intro i
                  rw [List.getElem?_set, List.getElem?_map, List.getElem?_map, List.length_map]
                  by_cases hij : j10 = i
                  · subst hij
                    rw [if_pos rfl, if_pos (by rw [HM10.out.doc.len]; exact hjn), HJ.out]
                    show some dp.s = some d10.s
                    rw [HP5.out.2.2.1]
                  · rw [if_neg hij]
                    rfl
                rw [e]
                exact HNK.out)
              have HFD : Hid (Tb.find ((L10.set j10 dp).map Ds.ms) f.s = some dp.ms) := Lib.hid (by
                have h := Tb.find_of (x := dp.ms) HNK2.out (List.mem_map.2 ⟨dp, List.mem_set (by rw [HM10.out.doc.len]; exact hjn) dp, rfl⟩)
                rwa [show dp.ms.s = f.s from HP5.out.2.2.1.trans HDS.out] at h)
              by_cases hfull : (n2 : Int) = d10.c
              · have hfl' : ((n2 : Int) == d10.c) = true := by simpa using hfull
                rw [Tb.came_full HFD.out (by rw [HL24.out]; show (n2 : Int) = dp.c; rw [HP5.out.2.2.2.1]; exact hfull), HL24.out] at hput
                have hx24 := row_keep HX23.out hb24
                obtain ⟨l0, l1, l2, l3, l4, l5⟩ := fr_block hx24
                have hra := (HDP3.out.below hb24).ref
                rw [HP5.out.2.2.2.1, HP5.out.2.2.2.2.1, HP5.out.2.2.2.2.2.1, HP5.out.2.2.2.2.2.2, ← hfull] at hra
                have KBY := rbytes_any d10.v d10.k d10.s 0 hra
                rw [hfull] at KBY
                unfold frV frC at KBY
                have hdr : Tb.drop ((L10.set j10 dp).map Ds.ms) f.s = ((L10.set j10 dp).filter fun d => d.s != f.s).map Ds.ms := by
                  unfold Tb.drop
                  rw [List.filter_map]
                  rfl
                rw [hdr] at hput
                have HPZ := Lib.hid hput
                have HM24 := Lib.hid hm24
                have HFU := Lib.hid hfull
                clear hm24 hput hb24 hfull hra hdr hx24 m0 m1 m2 m3 m4 m5 y1 y2 y3 d1
                go_wp2_with fail
                refine KBY.mono ?_
                rintro e W25 ⟨u25, rfl, hmk⟩
                obtain ⟨Ab, cb, rfl, hcb, hnb⟩ := hmk.slice
                have hnew25 : ∀ p, Ab = some p → w.heap.size ≤ p.block := fun p hp => by
                  have h1 := (hmk.1.lt p.block (by rw [hp]; rfl)).1
                  omega
                have hm25 := HM24.out.later hmk.2
                obtain ⟨zs, hzs⟩ : ∃ zs, Sl.cat (dp.gs.map Fr.ct) n2 = zs := ⟨_, rfl⟩
                have hzs' : Sl.cat dp.ms.C n2 = zs := hzs
                rw [hzs] at hcb hnb ⊢
                rw [hzs'] at HPZ
                obtain ⟨u0, u1, u2, u3, hez⟩ := hm25.told (q := zs.length) rfl hnb hcb hnew25
                obtain ⟨d0, d1⟩ := doc_cells hez.t
                obtain ⟨e0, e1, e2, e3, e4, e5⟩ := fr_block (v := f.v) (k := f.k) (s := f.s) (i := f.i) (c := f.c) hez.f
                have KDR := ddrop_any hez.doc r f.s
                unfold docV at KDR
                have HEZ0 := Lib.hid hez
                clear hez hm25 hnb hmk hzs hzs' KBY l0 l1 l2 l3 l4 l5 e0 e1 e3 e4 e5
                go_wp2_with fail
                refine KDR.mono ?_
                rintro e W27 ⟨hb27, A27, c27, rfl, hd27⟩
                obtain ⟨q27, hq27⟩ : ∃ q, ((L10.set j10 dp).filter fun d => d.s != f.s).length = q := ⟨_, rfl⟩
                rw [hq27] at hd27 ⊢
                have hez27 := HEZ0.out.later hb27
                have x0 := hez27.t
                have hgone := hez27.gone hd27
                have HEZ := Lib.hid hgone
                have HSZ : Hid (w.heap.size + 4 ≤ (W27.setRow w.heap.size #[.int .i64 (r : Int), .slice A27 q27 c27]).heap.size) := Lib.hid (by
                  have h1 := hgone.lo
                  have h2 := (Array.getElem?_eq_some_iff.1 hgone.out).1
                  omega)
                clear hgone hez27 hd27 hb27 KDR HEZ0 u0 u1 u2 u3 d0 d1 e2 hq27
                unfold docV
                go_wp2_with (refine wpList_store_row rfl 30 (.tmp 2) (.tmp 118) rfl w.heap.size #[.int .i64 (r : Int), .slice A27 q27 c27] rfl rfl 30 _ x0 stInfo rfl (by simp [Value.oneCell']) ?_)
                obtain ⟨Wz, hWz⟩ : ∃ Wz, W27.setRow w.heap.size #[.int .i64 (r : Int), .slice A27 q27 c27] = Wz := ⟨_, rfl⟩
                obtain ⟨Az, hAz⟩ : ∃ Az, A27 = Az := ⟨_, rfl⟩
                obtain ⟨nz, hnz⟩ : ∃ nz, q27 = nz := ⟨_, rfl⟩
                obtain ⟨cz, hcz⟩ : ∃ cz, c27 = cz := ⟨_, rfl⟩
                obtain ⟨Lz, hLz⟩ : ∃ Lz, ((L10.set j10 dp).filter fun d => d.s != f.s) = Lz := ⟨_, rfl⟩
                have HSRZ : Hid (SrcL Src Lz) := Lib.hid (by rw [← hLz]; exact fun d hd => HSRP.out d (List.mem_filter.1 hd).1)
                obtain ⟨Abz, hAbz⟩ : ∃ Abz, Ab = Abz := ⟨_, rfl⟩
                obtain ⟨cbz, hcbz⟩ : ∃ cbz, cb = cbz := ⟨_, rfl⟩
                obtain ⟨zsz, hzsz⟩ : ∃ zsz, zs = zsz := ⟨_, rfl⟩
                obtain ⟨whz, hwhz⟩ : ∃ whz, true = whz := ⟨_, rfl⟩
                have HEZ : Hid (De w r f (pw + 1) Az nz cz Lz Abz cbz zsz whz ev10 old10 Wz) := Lib.hid (by rw [← hWz, ← hAz, ← hnz, ← hcz, ← hLz, ← hAbz, ← hcbz, ← hzsz, ← hwhz]; exact HEZ.out)
                have HPZ : Hid (Tb.put r (L.map Ds.ms) f = ⟨0, Lz.map Ds.ms, ⟨zsz, whz, ev10, old10⟩⟩) := Lib.hid (by rw [← hLz, ← hzsz, ← hwhz]; exact HPZ.out)
                have HSZ : Hid (w.heap.size + 4 ≤ Wz.heap.size) := Lib.hid (by rw [← hWz]; exact HSZ.out)
                rw [hWz]
                clear hWz hAz hnz hcz hLz hAbz hcbz hzsz hwhz x0
                have hloz := HEZ.out.lo
                refine wp_region_order6 (0 :: 1 :: 2 :: 3 :: 4 :: []) (fun V => V.heap[pw + 1]? = some (.cells #[.slice Abz zsz.length cbz, .bool whz, .bool ev10, .int .u32 old10] 41 (0, 0)) ∧ V.heap[w.heap.size]? = some (.cells #[.int .i64 (r : Int), .slice Az nz cz] 30 (0, 0)))
                  (C := fun V => Below Wz.heap.size Wz V ∧ ∃ k, V = Wz.drewN k) (by kernel_rfl) (by kernel_rfl) ⟨(Below.refl _ _).drew, 1, rfl⟩ (fun V hV => ⟨(HEZ.out.later hV.1).out, (HEZ.out.later hV.1).t⟩) ?_
                refine wpO6_load (ad := ⟨w.heap.size, 0, none⟩) (.agg #[.int .i64 (r : Int), .slice Az nz cz]) rfl rfl rfl (by rfl) (fun V hV => ?_) ?_
                · obtain ⟨d0, d1⟩ := doc_cells hV.2
                  simp [Instr.loadAt, go_sem, d0, d1]
                simp only [Act.put, List.setIfInBounds_toArray, List.set_cons_succ, List.set_cons_zero]
                refine wpO6_load (ad := ⟨pw + 1, 0, none⟩) (.agg #[.slice Abz zsz.length cbz, .bool whz, .bool ev10, .int .u32 old10]) rfl rfl rfl (by rfl) (fun V hV => ?_) ?_
                · obtain ⟨k0, k1, k2, k3⟩ := out_block hV.1
                  simp [Instr.loadAt, go_sem, k0, k1, k2, k3]
                simp only [Act.put, List.setIfInBounds_toArray, List.set_cons_succ, List.set_cons_zero]
                refine wpO6_store (fun V' => ∃ k, V' = (Wz.drewN k).setRow (w.heap.size + 2) #[.int .i64 (r : Int), .slice Az nz cz]) rfl rfl rfl rfl ⟨w.heap.size + 2, 0, none⟩ (.agg #[.int .i64 (r : Int), .slice Az nz cz]) (by rfl) (by rfl) ?_ (fun V hV => ?_) ?_
                · rintro V' ⟨k, rfl⟩
                  exact ⟨(setRow_other _ _ _ _ (by omega)).trans HEZ.out.out, (setRow_other _ _ _ _ (by omega)).trans HEZ.out.t⟩
                · obtain ⟨_, k, rfl⟩ := hV
                  exact ⟨_, run_storeVar_rowT HEZ.out.rt, k, rfl⟩
                refine wpO6_store (fun V' => ∃ k, V' = ((Wz.drewN k).setRow (w.heap.size + 2) #[.int .i64 (r : Int), .slice Az nz cz]).setRow (w.heap.size + 3) (outC Abz zsz.length cbz whz ev10 old10)) rfl rfl rfl rfl ⟨w.heap.size + 3, 0, none⟩ (.agg (outC Abz zsz.length cbz whz ev10 old10)) (by rfl) (by rfl) ?_ ?_ ?_
                · rintro V' ⟨k, rfl⟩
                  exact ⟨(setRow_other _ _ _ _ (by omega)).trans ((setRow_other _ _ _ _ (by omega)).trans HEZ.out.out), (setRow_other _ _ _ _ (by omega)).trans ((setRow_other _ _ _ _ (by omega)).trans HEZ.out.t)⟩
                · rintro V' ⟨k, rfl⟩
                  exact ⟨_, run_storeVar_rowO ((setRow_other _ _ _ _ (by omega)).trans HEZ.out.ro), k, rfl⟩
                refine wpO6_pure rfl rfl ?_
                go_big_quiet_step (fail)
                refine wpQuiet_nil ?_
                rintro w27 ⟨k, rfl⟩
                have hez := HEZ.out.later (below_drewN (Below.refl _ _) k)
                obtain ⟨x3, c0, c1, o0, o1, o2, o3, HFIN⟩ := HFin.out (Wz.drewN k) Az nz cz Lz Abz cbz ⟨0, Lz.map Ds.ms, ⟨zsz, whz, ev10, old10⟩⟩ HSRZ.out HSZ.out hez.rt hez.ro hez.below HPZ.out hez.doc rfl hez.room hez.nums hez.new
                have HG := Lib.hid HFIN
                clear HFIN x3 hez
                go_wp2_with fail
                refine bodyPost_ret (by simp [results, Try.results10, go_sem, c0, c1, o0, o1, o2, o3]; try rfl) rfl ?_
                exact HG.out
              · have hfl' : ((n2 : Int) == d10.c) = false := by simpa using hfull
                rw [Tb.came_part HFD.out (by rw [HL24.out]; show (n2 : Int) ≠ dp.c; rw [HP5.out.2.2.2.1]; exact hfull)] at hput
                have HEZ := Lib.hid hm24.part
                have HPZ := Lib.hid hput
                have HSZ := Lib.hid hs24
                clear hm24 hput hb24 hfull m0 m1 m2 m3 m4 m5 l0 l1 l2 l3 l4 l5 y1 y2 y3 d1
                go_wp2_with fail
                obtain ⟨Wz, hWz⟩ : ∃ Wz, W24 = Wz := ⟨_, rfl⟩
                obtain ⟨Az, hAz⟩ : ∃ Az, (some ⟨g22, 0, none⟩ : Option Addr) = Az := ⟨_, rfl⟩
                obtain ⟨nz, hnz⟩ : ∃ nz, n10 = nz := ⟨_, rfl⟩
                obtain ⟨cz, hcz⟩ : ∃ cz, c22 = cz := ⟨_, rfl⟩
                obtain ⟨Lz, hLz⟩ : ∃ Lz, L10.set j10 dp = Lz := ⟨_, rfl⟩
                have HSRZ : Hid (SrcL Src Lz) := Lib.hid (by rw [← hLz]; exact HSRP.out)
                obtain ⟨Abz, hAbz⟩ : ∃ Abz, (none : Option Addr) = Abz := ⟨_, rfl⟩
                obtain ⟨cbz, hcbz⟩ : ∃ cbz, 0 = cbz := ⟨_, rfl⟩
                obtain ⟨zsz, hzsz⟩ : ∃ zsz, ([] : List Int) = zsz := ⟨_, rfl⟩
                obtain ⟨whz, hwhz⟩ : ∃ whz, false = whz := ⟨_, rfl⟩
                have HEZ : Hid (De w r f (pw + 1) Az nz cz Lz Abz cbz zsz whz ev10 old10 Wz) := Lib.hid (by rw [← hWz, ← hAz, ← hnz, ← hcz, ← hLz, ← hAbz, ← hcbz, ← hzsz, ← hwhz]; exact HEZ.out)
                have HPZ : Hid (Tb.put r (L.map Ds.ms) f = ⟨0, Lz.map Ds.ms, ⟨zsz, whz, ev10, old10⟩⟩) := Lib.hid (by rw [← hLz, ← hzsz, ← hwhz]; exact HPZ.out)
                have HSZ : Hid (w.heap.size + 4 ≤ Wz.heap.size) := Lib.hid (by rw [← hWz]; exact HSZ.out)
                rw [hWz]
                clear hWz hAz hnz hcz hLz hAbz hcbz hzsz hwhz
                have hloz := HEZ.out.lo
                refine wp_region_order6 (0 :: 1 :: 2 :: 3 :: 4 :: []) (fun V => V.heap[pw + 1]? = some (.cells #[.slice Abz zsz.length cbz, .bool whz, .bool ev10, .int .u32 old10] 41 (0, 0)) ∧ V.heap[w.heap.size]? = some (.cells #[.int .i64 (r : Int), .slice Az nz cz] 30 (0, 0)))
                  (C := fun V => Below Wz.heap.size Wz V ∧ ∃ k, V = Wz.drewN k) (by kernel_rfl) (by kernel_rfl) ⟨(Below.refl _ _).drew, 1, rfl⟩ (fun V hV => ⟨(HEZ.out.later hV.1).out, (HEZ.out.later hV.1).t⟩) ?_
                refine wpO6_load (ad := ⟨w.heap.size, 0, none⟩) (.agg #[.int .i64 (r : Int), .slice Az nz cz]) rfl rfl rfl (by rfl) (fun V hV => ?_) ?_
                · obtain ⟨d0, d1⟩ := doc_cells hV.2
                  simp [Instr.loadAt, go_sem, d0, d1]
                simp only [Act.put, List.setIfInBounds_toArray, List.set_cons_succ, List.set_cons_zero]
                refine wpO6_load (ad := ⟨pw + 1, 0, none⟩) (.agg #[.slice Abz zsz.length cbz, .bool whz, .bool ev10, .int .u32 old10]) rfl rfl rfl (by rfl) (fun V hV => ?_) ?_
                · obtain ⟨k0, k1, k2, k3⟩ := out_block hV.1
                  simp [Instr.loadAt, go_sem, k0, k1, k2, k3]
                simp only [Act.put, List.setIfInBounds_toArray, List.set_cons_succ, List.set_cons_zero]
                refine wpO6_store (fun V' => ∃ k, V' = (Wz.drewN k).setRow (w.heap.size + 2) #[.int .i64 (r : Int), .slice Az nz cz]) rfl rfl rfl rfl ⟨w.heap.size + 2, 0, none⟩ (.agg #[.int .i64 (r : Int), .slice Az nz cz]) (by rfl) (by rfl) ?_ (fun V hV => ?_) ?_
                · rintro V' ⟨k, rfl⟩
                  exact ⟨(setRow_other _ _ _ _ (by omega)).trans HEZ.out.out, (setRow_other _ _ _ _ (by omega)).trans HEZ.out.t⟩
                · obtain ⟨_, k, rfl⟩ := hV
                  exact ⟨_, run_storeVar_rowT HEZ.out.rt, k, rfl⟩
                refine wpO6_store (fun V' => ∃ k, V' = ((Wz.drewN k).setRow (w.heap.size + 2) #[.int .i64 (r : Int), .slice Az nz cz]).setRow (w.heap.size + 3) (outC Abz zsz.length cbz whz ev10 old10)) rfl rfl rfl rfl ⟨w.heap.size + 3, 0, none⟩ (.agg (outC Abz zsz.length cbz whz ev10 old10)) (by rfl) (by rfl) ?_ ?_ ?_
                · rintro V' ⟨k, rfl⟩
                  exact ⟨(setRow_other _ _ _ _ (by omega)).trans ((setRow_other _ _ _ _ (by omega)).trans HEZ.out.out), (setRow_other _ _ _ _ (by omega)).trans ((setRow_other _ _ _ _ (by omega)).trans HEZ.out.t)⟩
                · rintro V' ⟨k, rfl⟩
                  exact ⟨_, run_storeVar_rowO ((setRow_other _ _ _ _ (by omega)).trans HEZ.out.ro), k, rfl⟩
                refine wpO6_pure rfl rfl ?_
                go_big_quiet_step (fail)
                refine wpQuiet_nil ?_
                rintro w27 ⟨k, rfl⟩
                have hez := HEZ.out.later (below_drewN (Below.refl _ _) k)
                obtain ⟨x3, c0, c1, o0, o1, o2, o3, HFIN⟩ := HFin.out (Wz.drewN k) Az nz cz Lz Abz cbz ⟨0, Lz.map Ds.ms, ⟨zsz, whz, ev10, old10⟩⟩ HSRZ.out HSZ.out hez.rt hez.ro hez.below HPZ.out hez.doc rfl hez.room hez.nums hez.new
                have HG := Lib.hid HFIN
                clear HFIN x3 hez
                go_wp2_with fail
                refine bodyPost_ret (by simp [results, Try.results10, go_sem, c0, c1, o0, o1, o2, o3]; try rfl) rfl ?_
                exact HG.out
            · have he' : (er != 0) = true := by simpa using he0
              have hput := HPT10.out
              rw [if_pos he0] at hput
              obtain ⟨x3, c0, c1, o0, o1, o2, o3, HFIN⟩ := HBad2.out er Wf hsf hmf.rt hmf.ro hmf.below hput
              have x2 := hmf.rt
              obtain ⟨d0, d1⟩ := doc_cells hmf.was
              have HG := Lib.hid HFIN
              clear HFIN hput hmf hxg hrf hvf
              go_wp2_with (first
                | refine wpList_store_row rfl 30 (.tmp 4) (.tmp 95) rfl (w.heap.size + 2) #[.int .i64 (r : Int), .slice A n cp] rfl rfl 30 _ x2 stInfo rfl (by simp [Value.oneCell']) ?_
                | refine wpList_store_row rfl 41 (.tmp 5) (.tmp 96) rfl (w.heap.size + 3) (outC none 0 0 false false 0) rfl rfl 41 _ x3 soInfo rfl (out_one _ _ _ _ _ _) ?_)
              refine bodyPost_ret (by simp [results, Try.results10, go_sem, c0, c1, o0, o1, o2, o3]; try rfl) rfl ?_
              exact HG.out
      · have hzn : f.zs ≠ [] := fun e => HZ.out (by rw [e]; rfl)
        have hfs : Tb.find (L.map Ds.ms) f.s = some d.ms := by
          rw [← hds]
          refine Tb.find_of (x := d.ms) ?_ (List.mem_map.2 ⟨d, List.mem_of_getElem? hj, rfl⟩)
          unfold Tb.nums
          rw [List.map_map]
          exact HK.out
        have HPT10 : Hid (Tb.put r (L.map Ds.ms) f = if d.ms.err f ≠ 0 then ⟨d.ms.err f, L.map Ds.ms, .no⟩ else .ok (Tb.came ((L.map Ds.ms).set j (d.ms.push f)) f.s false 0)) := Lib.hid (by
          rw [Tb.put_there HC.out hzn hfs, put1_set HK.out hj hds])
        have HJ := Lib.hid hj
        have HDS := Lib.hid hds
        have HM4 := Lib.hid hm4
        have hj0 : ¬ (j : Int) < 0 := by omega
        have hn10 : n ≤ 17 := by omega
        have HNK : Hid (L.map Ds.s).Nodup := Lib.hid HK.out
        clear hj hds hm4 hfs hzn hb4
        go_wp2_with fail
        obtain ⟨ev10, hev7⟩ : ∃ ev7, false = ev7 := ⟨_, rfl⟩
        obtain ⟨old10, hold7⟩ : ∃ old7, (0 : Int) = old7 := ⟨_, rfl⟩
        obtain ⟨W10, hW7⟩ : ∃ W7, w4 = W7 := ⟨_, rfl⟩
        obtain ⟨L10, hL7⟩ : ∃ L7, L = L7 := ⟨_, rfl⟩
        obtain ⟨n10, hq6⟩ : ∃ q6, n = q6 := ⟨_, rfl⟩
        obtain ⟨A10, hA6⟩ : ∃ A6, A = A6 := ⟨_, rfl⟩
        obtain ⟨cp10, hc6⟩ : ∃ c6, cp = c6 := ⟨_, rfl⟩
        obtain ⟨j10, hj10⟩ : ∃ j10, j = j10 := ⟨_, rfl⟩
        obtain ⟨d10, hd10⟩ : ∃ d10, d = d10 := ⟨_, rfl⟩
        have HM10 : Hid (Dm w r A n cp f pw (pw + 1) A10 n10 cp10 L10 ev10 old10 W10) := Lib.hid (by rw [← hev7, ← hold7, ← hW7, ← hL7, ← hq6, ← hA6, ← hc6]; exact HM4.out)
        have HPT10 : Hid (Tb.put r (L.map Ds.ms) f = if d10.ms.err f ≠ 0 then ⟨d10.ms.err f, L.map Ds.ms, .no⟩ else .ok (Tb.came ((L10.map Ds.ms).set j10 (d10.ms.push f)) f.s ev10 old10)) := Lib.hid (by rw [← hev7, ← hold7, ← hL7, ← hd10, ← hj10]; exact HPT10.out)
        have HSR10 : Hid (SrcL Src L10) := Lib.hid (by rw [← hL7]; exact HSR.out)
        have HJ : Hid (L10[j10]? = some d10) := Lib.hid (by rw [← hL7, ← hj10, ← hd10]; exact HJ.out)
        rw [hd10] at HDS
        rw [hL7] at HNK
        rw [hq6] at hn10
        rw [hW7, hj10]
        clear hev7 hold7 hW7 hL7 hq6 hA6 hc6 hj10 hd10 HM4 HM3 hj0
        obtain ⟨b, off, rfl, hblt, -⟩ := HM10.out.doc.six HJ.out
        have hjn : j10 < n10 := by
          rw [← HM10.out.doc.len]
          exact (List.getElem?_eq_some_iff.1 HJ.out).1
        have hjn' : (j10 : Int) < (n10 : Int) := by omega
        have hncp : (n10 : Int) ≤ (cp10 : Int) := by have := HM10.out.doc.room; omega
        have hs10 : w.heap.size + 4 ≤ W10.heap.size := by
          have h1 := HM10.out.lo
          have h2 := (Array.getElem?_eq_some_iff.1 HM10.out.was).1
          omega
        have LT : ∀ V, Below W10.heap.size W10 V → (Instr.loadAt 28 (.pointer (some ⟨w.heap.size, 1, none⟩))).run Try.prog V = .ok (.slice (some ⟨b, off, none⟩) n10 cp10) V := fun V hV => by
          obtain ⟨d0, d1⟩ := doc_cells (HM10.out.later hV).t
          simp [Instr.loadAt, go_sem, d1]
        have LS : ∀ V, Below W10.heap.size W10 V → (Instr.loadAt 83 (.pointer (some ⟨b, off + j10 * 6, none⟩))).run Try.prog V = .ok (.agg #[.int .i64 d10.v, .int .i64 d10.k, .int .u32 d10.s, .int .i64 0, .int .i64 d10.c, .slice d10.A d10.n d10.cp]) V := fun V hV => by
          obtain ⟨b', off', e', _, a0, a1, a2, a3, a4, a5⟩ := (HM10.out.later hV).doc.six HJ.out
          injection e' with e'
          injection e' with e1 e2
          subst e1 e2
          simp [Instr.loadAt, go_sem, a0, a1, a2, a3, a4, a5]
        have LF : ∀ V, Below W10.heap.size W10 V → (Instr.loadAt 46 (.pointer (some ⟨w.heap.size + 1, 0, none⟩))).run Try.prog V = .ok (.agg #[.int .i64 f.v, .int .i64 f.k, .int .u32 f.s, .int .i64 f.i, .int .i64 f.c, .slice f.a f.zs.length f.cp]) V := fun V hV => by
          obtain ⟨d0, d1, d2, d3, d4, d5⟩ := fr_block (v := f.v) (k := f.k) (s := f.s) (i := f.i) (c := f.c) (HM10.out.later hV).f
          simp [Instr.loadAt, go_sem, d0, d1, d2, d3, d4, d5]
        obtain ⟨er, her⟩ : ∃ er, d10.ms.err f = er := ⟨_, rfl⟩
        rw [her] at HPT10
        have HER := Lib.hid her
        have KR : Hid (∀ V, Below W10.heap.size W10 V → Calls Try.prog 32 #[.agg #[.int .i64 d10.v, .int .i64 d10.k, .int .u32 d10.s, .int .i64 0, .int .i64 d10.c, .slice d10.A d10.n d10.cp], .agg #[.int .i64 f.v, .int .i64 f.k, .int .u32 f.s, .int .i64 f.i, .int .i64 f.c, .slice f.a f.zs.length f.cp]] V fun e w' => ∃ u, e = .returned u ∧ FPt W10.heap.size d10 f er 90 u w' ∧ Below V.heap.size V w') := Lib.hid fun V hV => by
          have hr := ((HM10.out.later hV).doc.at' d10 (List.mem_of_getElem? HJ.out)).ref
          have hfa : f.At V V.heap.size := by
            have h1 := (HM10.out.later hV).below
            exact (HF.out.below h1).mono h1.size
          refine (rput_any d10.v d10.k d10.s hr f hfa hfl).mono fun e w' h2 => ?_
          rw [show sErr d10.v d10.k d10.s d10.c f.v f.k f.s f.i f.c (d10.gs.map Fr.ct) f.zs = er from HER.out] at h2
          obtain ⟨A2, n2, cp2, he, hr2, hb⟩ := rput_nx hr h2
          exact ⟨_, he, ⟨A2, n2, cp2, rfl, hr2⟩, hb⟩
        clear her hblt
        refine wp_region_FG 121 8 [false, false, false, false, false, false, false, false, false, true, false] [90, 83, 91, 12] (FPt W10.heap.size d10 f er) (fun V => Below W10.heap.size W10 V) (fun xs V V' => ∃ g A2 n2 cp2, xs 12 = .pointer (some ⟨g, 0, none⟩) ∧ W10.heap.size ≤ g ∧ V.heap[g]? = some (.cells (frC 0 0 0 0 0 (.slice none 0 0)) 83 (0, 0)) ∧ RefAt V d10.c A2 n2 cp2 (nxF d10.gs f er) ∧ V' = V.setRow g (frC d10.v d10.k d10.s 0 d10.c (.slice A2 n2 cp2))) (by kernel_rfl) (by kernel_rfl) (by rfl) (by kernel_rfl) (by rfl) (by simp) (fun W W' h hb => h.trans (hb.mono h.size)) (fun q x W W' h hb => h.later hb) (Below.refl _ _).drew ?_
        refine wpFG_step (wpF_pure rfl rfl ?_)
        go_big_quiet_step (fail)
        refine wpQuiet_nil ?_
        simp only [wpF]
        refine wpFG_step (wpF_load _ rfl (by rfl) (by rfl) (by rfl) LT ?_)
        simp only [wpF, Act.put, List.setIfInBounds_toArray, List.set_cons_succ, List.set_cons_zero]
        refine wpFG_step (wpF_pure rfl rfl ?_)
        go_big_quiet_step (fail)
        refine wpQuiet_nil ?_
        simp only [wpF]
        refine wpFG_step (wpF_pure rfl rfl ?_)
        go_big_quiet_step (fail)
        refine wpQuiet_nil ?_
        simp only [wpF]
        refine wpFG_step (wpF_load _ rfl (by rfl) (by rfl) (by rfl) LS ?_)
        simp only [wpF, Act.put, List.setIfInBounds_toArray, List.set_cons_succ, List.set_cons_zero]
        refine wpFG_step (wpF_load _ rfl (by rfl) (by rfl) (by rfl) LF ?_)
        simp only [wpF, Act.put, List.setIfInBounds_toArray, List.set_cons_succ, List.set_cons_zero]
        refine wpFG_step (wpF_callsrc 90 (f := 32) (args := #[.agg #[.int .i64 d10.v, .int .i64 d10.k, .int .u32 d10.s, .int .i64 0, .int .i64 d10.c, .slice d10.A d10.n d10.cp], .agg #[.int .i64 f.v, .int .i64 f.k, .int .u32 f.s, .int .i64 f.i, .int .i64 f.c, .slice f.a f.zs.length f.cp]]) (by simp) rfl rfl rfl (fun x => by first | rfl | (simp [go_sem]; done)) KR.out ?_)
        simp only [wpF, Act.put, List.setIfInBounds_toArray, List.set_cons_succ, List.set_cons_zero]
        refine wpFG_step (wpF_mix 83 [90] (by simp) rfl (by kernel_rfl) (by kernel_rfl) (fun xs => by rfl) (fun xs V hV hx => ⟨xs 90, V, by simp [execOp, fill, Act.put, Act.eval, go_sem], hx 90 (by simp), Below.refl _ _⟩) ?_)
        simp only [wpF, Act.put, List.setIfInBounds_toArray, List.set_cons_succ, List.set_cons_zero]
        refine wpFG_step (wpF_mix 91 [83] (by simp) rfl (by kernel_rfl) (by kernel_rfl) (fun xs => by rfl) (fun xs V hV hx => ?_) ?_)
        · obtain ⟨A2, n2, cp2, e58, hr2⟩ := (show ∃ A2 n2 cp2, xs 83 = .tuple #[frV d10.v d10.k d10.s 0 d10.c (.slice A2 n2 cp2), .int .i64 er] ∧ RefAt V d10.c A2 n2 cp2 (nxF d10.gs f er) from hx 83 (by simp))
          exact ⟨frV d10.v d10.k d10.s 0 d10.c (.slice A2 n2 cp2), V, by simp [execOp, fill, Act.put, Act.eval, e58, go_sem], ⟨A2, n2, cp2, rfl, hr2⟩, Below.refl _ _⟩
        simp only [wpF, Act.put, List.setIfInBounds_toArray, List.set_cons_succ, List.set_cons_zero]
        refine wpFG_use 83 7 (.int .i64 er) (by simp) (by rfl) (by kernel_rfl) (by kernel_rfl) (by rfl) (fun x => by rfl) (fun x V hx V' => ?_) ?_
        · obtain ⟨A2, n2, cp2, e58, hr2⟩ := (show ∃ A2 n2 cp2, x = .tuple #[frV d10.v d10.k d10.s 0 d10.c (.slice A2 n2 cp2), .int .i64 er] ∧ RefAt V d10.c A2 n2 cp2 (nxF d10.gs f er) from hx)
          simp [execOp, Act.put, Act.eval, e58, go_sem]
        simp only [Act.put, List.setIfInBounds_toArray, List.set_cons_succ, List.set_cons_zero]
        refine wpFG_step (wpF_src 12 (by simp) rfl (by kernel_rfl) (by kernel_rfl) (fun V hV => ⟨.pointer (some ⟨V.heap.size, 0, none⟩), V.alloc (.cells (frC 0 0 0 0 0 (.slice none 0 0)) 83), ?_, ⟨_, rfl, hV.size, World.alloc_heap_new _ _⟩, (Below.refl _ _).alloc (Nat.le_refl _) _⟩) ?_)
        · have hzz : (zeroValue 83).run Try.prog V = .ok (frV 0 0 0 0 0 (.slice none 0 0)) V := by kernel_rfl
          simp [execOp, go_sem, hzz]
          try rfl
        simp only [wpF, Act.put, List.setIfInBounds_toArray, List.set_cons_succ, List.set_cons_zero]
        refine wpFG_storeX rfl rfl rfl (fun xs V hV hx => ?_) ?_
        · obtain ⟨g', e12, hg', hcg⟩ := (show ∃ g, xs 12 = .pointer (some ⟨g, 0, none⟩) ∧ W10.heap.size ≤ g ∧ V.heap[g]? = some (.cells (frC 0 0 0 0 0 (.slice none 0 0)) 83 (0, 0)) from hx 12 (by simp))
          obtain ⟨A2, n2, cp2, e63, hr2⟩ := (show ∃ A2 n2 cp2, xs 91 = frV d10.v d10.k d10.s 0 d10.c (.slice A2 n2 cp2) ∧ RefAt V d10.c A2 n2 cp2 (nxF d10.gs f er) from hx 91 (by simp))
          refine ⟨_, ?_, g', A2, n2, cp2, e12, hg', hcg, hr2, rfl⟩
          simp only [fill, Act.put, List.setIfInBounds_toArray, List.set_cons_succ, List.set_cons_zero, e12, e63]
          exact fs_store V g' _ _ hcg rfl rfl (fs_one _ _ _ _ _ _ _ _)
        refine wpFGn_pure (wpFS_pure rfl rfl ?_)
        go_big_quiet_step (fail)
        refine wpQuiet_nil ?_
        simp only [wpFS]
        rintro xs V V' hV hx ⟨g', A2, n2, cp2, e12, hg', hcg, hr2, rfl⟩
        simp only [fill, Act.put, List.setIfInBounds_toArray, List.set_cons_succ, List.set_cons_zero, e12]
        have hof : Off (fun q => q = g') V (V.setRow g' (frC d10.v d10.k d10.s 0 d10.c (.slice A2 n2 cp2))) := Off.setRow (S := fun q => q = g') (Off.refl _ V) rfl _
        have hvf := hV.trans (hof.below (fun q hq => by omega) hV.size)
        have hrf := hr2.off hof (fun q cs t fz hq hs => by
          subst hs
          rw [hcg] at hq
          injection hq with hq
          injection hq with h1 h2 h3
          exact ⟨_, _, _, _, _, _, _, _, h1.symm, h2.symm⟩)
        have hxg := setRow_heap V g' _ (frC d10.v d10.k d10.s 0 d10.c (.slice A2 n2 cp2)) _ _ hcg
        clear hof hcg hr2 LT LS LF KR
        generalize (V.setRow g' (frC d10.v d10.k d10.s 0 d10.c (.slice A2 n2 cp2))) = Wf at hvf hrf hxg ⊢
        have hmf := HM10.out.later hvf
        have HMF := Lib.hid hmf
        have hsf : w.heap.size + 4 ≤ Wf.heap.size := by have := hvf.size; omega
        generalize xs 90 = x90
        generalize xs 83 = x83
        generalize xs 91 = x91
        clear hx
        by_cases he0 : er = 0
        · subst he0
          have hnx : nxF d10.gs f 0 = d10.gs ++ [f] := if_pos rfl
          rw [hnx] at hrf
          have hd0 := HMF.out.doc.at' d10 (List.mem_of_getElem? HJ.out)
          have hdp : Ds.At Wf ⟨d10.v, d10.k, d10.s, d10.c, A2, n2, cp2, d10.gs ++ [f]⟩ := ⟨hrf, hd0.num, hd0.good⟩
          have hms : Ds.ms ⟨d10.v, d10.k, d10.s, d10.c, A2, n2, cp2, d10.gs ++ [f]⟩ = d10.ms.push f := by simp [Ds.ms, Tb.Ms.push]
          obtain ⟨dp, hdpe⟩ : ∃ dp : Ds, (⟨d10.v, d10.k, d10.s, d10.c, A2, n2, cp2, d10.gs ++ [f]⟩ : Ds) = dp := ⟨_, rfl⟩
          have hdc : dp.cs = #[.int .i64 d10.v, .int .i64 d10.k, .int .u32 d10.s, .int .i64 0, .int .i64 d10.c, .slice A2 n2 cp2] := by rw [← hdpe]; rfl
          have hdp5 : dp.v = d10.v ∧ dp.k = d10.k ∧ dp.s = d10.s ∧ dp.c = d10.c ∧ dp.A = A2 ∧ dp.n = n2 ∧ dp.cp = cp2 := by rw [← hdpe]; exact ⟨rfl, rfl, rfl, rfl, rfl, rfl, rfl⟩
          have HSRP : Hid (SrcL Src (L10.set j10 dp)) := Lib.hid fun d hd g hg => by
            rcases List.mem_or_eq_of_mem_set hd with h1 | h1
            · exact HSR10.out d h1 g hg
            · rw [h1, ← hdpe] at hg
              rcases List.mem_append.1 hg with h2 | h2
              · exact HSR10.out d10 (List.mem_of_getElem? HJ.out) g h2
              · rw [List.mem_singleton.1 h2]; exact HSF.out
          rw [hdpe] at hdp hms
          obtain ⟨z0, hi, hz0, hz1, hz2⟩ := info_parts dsInfo
          obtain ⟨v22, W22, hr22, ho22, hb22⟩ := append_docs (P := Try.prog) 28 28 83 z0 _ Try.underlying28 hi hz0 hz1 hz2 rfl Wf.heap.size Wf.heap.size (by rw [World.size_alloc]; omega) (World.ownsRow_made Wf #[] 0 (Nat.le_refl _) (by unfold maxLen; omega) rfl) (HMF.out.later ((Below.refl _ Wf).alloc (Nat.le_refl _) (.cells #[] 83))).doc
          obtain ⟨g22, c22, rfl, hc22⟩ : ∃ g c, v22 = .slice (some ⟨g, 0, none⟩) n10 c ∧ n10 ≤ c := by
            rcases ho22.2 with ⟨_, h0⟩ | ⟨g, cap, cur, hv, _, _, hle, _⟩
            · omega
            · exact ⟨g, cap, hv, hle⟩
          have hbf2 : Below Wf.heap.size Wf W22 := ((Below.refl _ Wf).alloc (Nat.le_refl _) _).trans (hb22.mono (by rw [World.size_alloc]; omega))
          obtain ⟨y1, y2, y3, hth, hkp, hdp3, hm23⟩ := HMF.out.setAt (dp := dp) hbf2 ho22 hjn (by omega) hdp
          have d1 := (doc_cells (HMF.out.later ((Below.refl _ Wf).alloc (Nat.le_refl _) (.cells #[] 83))).t).2
          have hgp : g' ≠ w.heap.size := by omega
          obtain ⟨hx22, hx23⟩ := hkp g' _ hxg hgp
          have hncc : (n10 : Int) ≤ (c22 : Int) := by omega
          obtain ⟨W23, hW23⟩ : ∃ W23, (W22.setCell ⟨w.heap.size, 1, none⟩ (.slice (some ⟨g22, 0, none⟩) n10 c22)).setCells g22 (j10 * 6) dp.cs.toList = W23 := ⟨_, rfl⟩
          rw [hW23] at hm23 hdp3 hx23
          rw [hdc] at hW23
          have HW23 := Lib.hid hW23
          obtain ⟨m0, m1, m2, m3, m4, m5⟩ := fr_block hx22
          obtain ⟨l0, l1, l2, l3, l4, l5⟩ := fr_block hx23
          have HM23 := Lib.hid hm23
          have HDP3 := Lib.hid hdp3
          have HMS := Lib.hid hms
          have HP5 := Lib.hid hdp5
          have KFU := fun V : World => rfull_any (w := V) d10.v d10.k d10.s 0 (c := d10.c) (A := A2) (n := n2) (cp := cp2) hd0.pos.1
          have HNN := Lib.hid hrf.len
          unfold frV frC at KFU
          have HX23 := Lib.hid hx23
          rw [hdc] at hth
          have HTH := Lib.hid hth
          have HR22 := Lib.hid hr22
          have HDC := Lib.hid hdc
          clear hnx hrf hd0 hdp hms hdpe ho22 hb22 hbf2 hm23 hdp3 hx22 hx23 hkp hdp5 hmf hxg hvf hi hz0 hz1 hz2 hth hr22 hdc hW23
          go_wp2_with (first
            | (at_builtin; refine wpList_appendU (v1 := .slice (some ⟨Wf.heap.size, 0, none⟩) 0 0) (v2 := .slice (some ⟨b, off, none⟩) n10 cp10) rfl (.tmp 98) (.tmp 100) 28 rfl rfl rfl HR22.out ?_)
            | (refine wpList_store_mid rfl 83 (.tmp 107) (.tmp 106) rfl g22 (j10 * 6) #[.int .i64 d10.v, .int .i64 d10.k, .int .u32 d10.s, .int .i64 0, .int .i64 d10.c, .slice A2 n2 cp2] rfl rfl HTH.out ssInfo (by simp [Value.oneCell']) ?_; rw [HW23.out]))
          refine (KFU W23).mono ?_
          rintro e W24 ⟨rfl, hb24⟩
          have hm24 := HM23.out.later hb24
          have hs24 : w.heap.size + 4 ≤ W24.heap.size := by
            have h1 := hm24.lo
            have h2 := (Array.getElem?_eq_some_iff.1 hm24.was).1
            omega
          have HL24 : Hid (dp.ms.C.length = n2) := Lib.hid (by
            show (List.map Fr.ct dp.gs).length = n2
            rw [List.length_map, ← HP5.out.2.2.2.2.2.1]
            exact HDP3.out.ref.len)
          have hput := HPT10.out
          rw [if_neg (by simp), ← HMS.out, ← List.map_set] at hput
          have HNK2 : Hid ((Tb.nums ((L10.set j10 dp).map Ds.ms)).Nodup) := Lib.hid (by
            have e : Tb.nums ((L10.set j10 dp).map Ds.ms) = L10.map Ds.s := by
              unfold Tb.nums
              rw [List.map_map, List.map_set]
              apply List.ext_getElem?
              intro i
              rw [List.getElem?_set, List.getElem?_map, List.getElem?_map, List.length_map]
              by_cases hij : j10 = i
              · subst hij
                rw [if_pos rfl, if_pos (by rw [HM10.out.doc.len]; exact hjn), HJ.out]
                show some dp.s = some d10.s
                rw [HP5.out.2.2.1]
              · rw [if_neg hij]
                rfl
            rw [e]
            exact HNK.out)
          have HFD : Hid (Tb.find ((L10.set j10 dp).map Ds.ms) f.s = some dp.ms) := Lib.hid (by
            have h := Tb.find_of (x := dp.ms) HNK2.out (List.mem_map.2 ⟨dp, List.mem_set (by rw [HM10.out.doc.len]; exact hjn) dp, rfl⟩)
            rwa [show dp.ms.s = f.s from HP5.out.2.2.1.trans HDS.out] at h)
          by_cases hfull : (n2 : Int) = d10.c
          · have hfl' : ((n2 : Int) == d10.c) = true := by simpa using hfull
            rw [Tb.came_full HFD.out (by rw [HL24.out]; show (n2 : Int) = dp.c; rw [HP5.out.2.2.2.1]; exact hfull), HL24.out] at hput
            have hx24 := row_keep HX23.out hb24
            obtain ⟨l0, l1, l2, l3, l4, l5⟩ := fr_block hx24
            have hra := (HDP3.out.below hb24).ref
            rw [HP5.out.2.2.2.1, HP5.out.2.2.2.2.1, HP5.out.2.2.2.2.2.1, HP5.out.2.2.2.2.2.2, ← hfull] at hra
            have KBY := rbytes_any d10.v d10.k d10.s 0 hra
            rw [hfull] at KBY
            unfold frV frC at KBY
            have hdr : Tb.drop ((L10.set j10 dp).map Ds.ms) f.s = ((L10.set j10 dp).filter fun d => d.s != f.s).map Ds.ms := by
              unfold Tb.drop
              rw [List.filter_map]
              rfl
            rw [hdr] at hput
            have HPZ := Lib.hid hput
            have HM24 := Lib.hid hm24
            have HFU := Lib.hid hfull
            clear hm24 hput hb24 hfull hra hdr hx24 m0 m1 m2 m3 m4 m5 y1 y2 y3 d1
            go_wp2_with fail
            refine KBY.mono ?_
            rintro e W25 ⟨u25, rfl, hmk⟩
            obtain ⟨Ab, cb, rfl, hcb, hnb⟩ := hmk.slice
            have hnew25 : ∀ p, Ab = some p → w.heap.size ≤ p.block := fun p hp => by
              have h1 := (hmk.1.lt p.block (by rw [hp]; rfl)).1
              omega
            have hm25 := HM24.out.later hmk.2
            obtain ⟨zs, hzs⟩ : ∃ zs, Sl.cat (dp.gs.map Fr.ct) n2 = zs := ⟨_, rfl⟩
            have hzs' : Sl.cat dp.ms.C n2 = zs := hzs
            rw [hzs] at hcb hnb ⊢
            rw [hzs'] at HPZ
            obtain ⟨u0, u1, u2, u3, hez⟩ := hm25.told (q := zs.length) rfl hnb hcb hnew25
            obtain ⟨d0, d1⟩ := doc_cells hez.t
            obtain ⟨e0, e1, e2, e3, e4, e5⟩ := fr_block (v := f.v) (k := f.k) (s := f.s) (i := f.i) (c := f.c) hez.f
            have KDR := ddrop_any hez.doc r f.s
            unfold docV at KDR
            have HEZ0 := Lib.hid hez
            clear hez hm25 hnb hmk hzs hzs' KBY l0 l1 l2 l3 l4 l5 e0 e1 e3 e4 e5
            go_wp2_with fail
            refine KDR.mono ?_
            rintro e W27 ⟨hb27, A27, c27, rfl, hd27⟩
            obtain ⟨q27, hq27⟩ : ∃ q, ((L10.set j10 dp).filter fun d => d.s != f.s).length = q := ⟨_, rfl⟩
            rw [hq27] at hd27 ⊢
            have hez27 := HEZ0.out.later hb27
            have x0 := hez27.t
            have hgone := hez27.gone hd27
            have HEZ := Lib.hid hgone
            have HSZ : Hid (w.heap.size + 4 ≤ (W27.setRow w.heap.size #[.int .i64 (r : Int), .slice A27 q27 c27]).heap.size) := Lib.hid (by
              have h1 := hgone.lo
              have h2 := (Array.getElem?_eq_some_iff.1 hgone.out).1
              omega)
            clear hgone hez27 hd27 hb27 KDR HEZ0 u0 u1 u2 u3 d0 d1 e2 hq27
            unfold docV
            go_wp2_with (refine wpList_store_row rfl 30 (.tmp 2) (.tmp 118) rfl w.heap.size #[.int .i64 (r : Int), .slice A27 q27 c27] rfl rfl 30 _ x0 stInfo rfl (by simp [Value.oneCell']) ?_)
            obtain ⟨Wz, hWz⟩ : ∃ Wz, W27.setRow w.heap.size #[.int .i64 (r : Int), .slice A27 q27 c27] = Wz := ⟨_, rfl⟩
            obtain ⟨Az, hAz⟩ : ∃ Az, A27 = Az := ⟨_, rfl⟩
            obtain ⟨nz, hnz⟩ : ∃ nz, q27 = nz := ⟨_, rfl⟩
            obtain ⟨cz, hcz⟩ : ∃ cz, c27 = cz := ⟨_, rfl⟩
            obtain ⟨Lz, hLz⟩ : ∃ Lz, ((L10.set j10 dp).filter fun d => d.s != f.s) = Lz := ⟨_, rfl⟩
            have HSRZ : Hid (SrcL Src Lz) := Lib.hid (by rw [← hLz]; exact fun d hd => HSRP.out d (List.mem_filter.1 hd).1)
            obtain ⟨Abz, hAbz⟩ : ∃ Abz, Ab = Abz := ⟨_, rfl⟩
            obtain ⟨cbz, hcbz⟩ : ∃ cbz, cb = cbz := ⟨_, rfl⟩
            obtain ⟨zsz, hzsz⟩ : ∃ zsz, zs = zsz := ⟨_, rfl⟩
            obtain ⟨whz, hwhz⟩ : ∃ whz, true = whz := ⟨_, rfl⟩
            have HEZ : Hid (De w r f (pw + 1) Az nz cz Lz Abz cbz zsz whz ev10 old10 Wz) := Lib.hid (by rw [← hWz, ← hAz, ← hnz, ← hcz, ← hLz, ← hAbz, ← hcbz, ← hzsz, ← hwhz]; exact HEZ.out)
            have HPZ : Hid (Tb.put r (L.map Ds.ms) f = ⟨0, Lz.map Ds.ms, ⟨zsz, whz, ev10, old10⟩⟩) := Lib.hid (by rw [← hLz, ← hzsz, ← hwhz]; exact HPZ.out)
            have HSZ : Hid (w.heap.size + 4 ≤ Wz.heap.size) := Lib.hid (by rw [← hWz]; exact HSZ.out)
            rw [hWz]
            clear hWz hAz hnz hcz hLz hAbz hcbz hzsz hwhz x0
            have hloz := HEZ.out.lo
            refine wp_region_order6 (0 :: 1 :: 2 :: 3 :: 4 :: []) (fun V => V.heap[pw + 1]? = some (.cells #[.slice Abz zsz.length cbz, .bool whz, .bool ev10, .int .u32 old10] 41 (0, 0)) ∧ V.heap[w.heap.size]? = some (.cells #[.int .i64 (r : Int), .slice Az nz cz] 30 (0, 0)))
              (C := fun V => Below Wz.heap.size Wz V ∧ ∃ k, V = Wz.drewN k) (by kernel_rfl) (by kernel_rfl) ⟨(Below.refl _ _).drew, 1, rfl⟩ (fun V hV => ⟨(HEZ.out.later hV.1).out, (HEZ.out.later hV.1).t⟩) ?_
            refine wpO6_load (ad := ⟨w.heap.size, 0, none⟩) (.agg #[.int .i64 (r : Int), .slice Az nz cz]) rfl rfl rfl (by rfl) (fun V hV => ?_) ?_
            · obtain ⟨d0, d1⟩ := doc_cells hV.2
              simp [Instr.loadAt, go_sem, d0, d1]
            simp only [Act.put, List.setIfInBounds_toArray, List.set_cons_succ, List.set_cons_zero]
            refine wpO6_load (ad := ⟨pw + 1, 0, none⟩) (.agg #[.slice Abz zsz.length cbz, .bool whz, .bool ev10, .int .u32 old10]) rfl rfl rfl (by rfl) (fun V hV => ?_) ?_
            · obtain ⟨k0, k1, k2, k3⟩ := out_block hV.1
              simp [Instr.loadAt, go_sem, k0, k1, k2, k3]
            simp only [Act.put, List.setIfInBounds_toArray, List.set_cons_succ, List.set_cons_zero]
            refine wpO6_store (fun V' => ∃ k, V' = (Wz.drewN k).setRow (w.heap.size + 2) #[.int .i64 (r : Int), .slice Az nz cz]) rfl rfl rfl rfl ⟨w.heap.size + 2, 0, none⟩ (.agg #[.int .i64 (r : Int), .slice Az nz cz]) (by rfl) (by rfl) ?_ (fun V hV => ?_) ?_
            · rintro V' ⟨k, rfl⟩
              exact ⟨(setRow_other _ _ _ _ (by omega)).trans HEZ.out.out, (setRow_other _ _ _ _ (by omega)).trans HEZ.out.t⟩
            · obtain ⟨_, k, rfl⟩ := hV
              exact ⟨_, run_storeVar_rowT HEZ.out.rt, k, rfl⟩
            refine wpO6_store (fun V' => ∃ k, V' = ((Wz.drewN k).setRow (w.heap.size + 2) #[.int .i64 (r : Int), .slice Az nz cz]).setRow (w.heap.size + 3) (outC Abz zsz.length cbz whz ev10 old10)) rfl rfl rfl rfl ⟨w.heap.size + 3, 0, none⟩ (.agg (outC Abz zsz.length cbz whz ev10 old10)) (by rfl) (by rfl) ?_ ?_ ?_
            · rintro V' ⟨k, rfl⟩
              exact ⟨(setRow_other _ _ _ _ (by omega)).trans ((setRow_other _ _ _ _ (by omega)).trans HEZ.out.out), (setRow_other _ _ _ _ (by omega)).trans ((setRow_other _ _ _ _ (by omega)).trans HEZ.out.t)⟩
            · rintro V' ⟨k, rfl⟩
              exact ⟨_, run_storeVar_rowO ((setRow_other _ _ _ _ (by omega)).trans HEZ.out.ro), k, rfl⟩
            refine wpO6_pure rfl rfl ?_
            go_big_quiet_step (fail)
            refine wpQuiet_nil ?_
            rintro w27 ⟨k, rfl⟩
            have hez := HEZ.out.later (below_drewN (Below.refl _ _) k)
            obtain ⟨x3, c0, c1, o0, o1, o2, o3, HFIN⟩ := HFin.out (Wz.drewN k) Az nz cz Lz Abz cbz ⟨0, Lz.map Ds.ms, ⟨zsz, whz, ev10, old10⟩⟩ HSRZ.out HSZ.out hez.rt hez.ro hez.below HPZ.out hez.doc rfl hez.room hez.nums hez.new
            have HG := Lib.hid HFIN
            clear HFIN x3 hez
            go_wp2_with fail
            refine bodyPost_ret (by simp [results, Try.results10, go_sem, c0, c1, o0, o1, o2, o3]; try rfl) rfl ?_
            exact HG.out
          · have hfl' : ((n2 : Int) == d10.c) = false := by simpa using hfull
            rw [Tb.came_part HFD.out (by rw [HL24.out]; show (n2 : Int) ≠ dp.c; rw [HP5.out.2.2.2.1]; exact hfull)] at hput
            have HEZ := Lib.hid hm24.part
            have HPZ := Lib.hid hput
            have HSZ := Lib.hid hs24
            clear hm24 hput hb24 hfull m0 m1 m2 m3 m4 m5 l0 l1 l2 l3 l4 l5 y1 y2 y3 d1
            go_wp2_with fail
            obtain ⟨Wz, hWz⟩ : ∃ Wz, W24 = Wz := ⟨_, rfl⟩
            obtain ⟨Az, hAz⟩ : ∃ Az, (some ⟨g22, 0, none⟩ : Option Addr) = Az := ⟨_, rfl⟩
            obtain ⟨nz, hnz⟩ : ∃ nz, n10 = nz := ⟨_, rfl⟩
            obtain ⟨cz, hcz⟩ : ∃ cz, c22 = cz := ⟨_, rfl⟩
            obtain ⟨Lz, hLz⟩ : ∃ Lz, L10.set j10 dp = Lz := ⟨_, rfl⟩
            have HSRZ : Hid (SrcL Src Lz) := Lib.hid (by rw [← hLz]; exact HSRP.out)
            obtain ⟨Abz, hAbz⟩ : ∃ Abz, (none : Option Addr) = Abz := ⟨_, rfl⟩
            obtain ⟨cbz, hcbz⟩ : ∃ cbz, 0 = cbz := ⟨_, rfl⟩
            obtain ⟨zsz, hzsz⟩ : ∃ zsz, ([] : List Int) = zsz := ⟨_, rfl⟩
            obtain ⟨whz, hwhz⟩ : ∃ whz, false = whz := ⟨_, rfl⟩
            have HEZ : Hid (De w r f (pw + 1) Az nz cz Lz Abz cbz zsz whz ev10 old10 Wz) := Lib.hid (by rw [← hWz, ← hAz, ← hnz, ← hcz, ← hLz, ← hAbz, ← hcbz, ← hzsz, ← hwhz]; exact HEZ.out)
            have HPZ : Hid (Tb.put r (L.map Ds.ms) f = ⟨0, Lz.map Ds.ms, ⟨zsz, whz, ev10, old10⟩⟩) := Lib.hid (by rw [← hLz, ← hzsz, ← hwhz]; exact HPZ.out)
            have HSZ : Hid (w.heap.size + 4 ≤ Wz.heap.size) := Lib.hid (by rw [← hWz]; exact HSZ.out)
            rw [hWz]
            clear hWz hAz hnz hcz hLz hAbz hcbz hzsz hwhz
            have hloz := HEZ.out.lo
            refine wp_region_order6 (0 :: 1 :: 2 :: 3 :: 4 :: []) (fun V => V.heap[pw + 1]? = some (.cells #[.slice Abz zsz.length cbz, .bool whz, .bool ev10, .int .u32 old10] 41 (0, 0)) ∧ V.heap[w.heap.size]? = some (.cells #[.int .i64 (r : Int), .slice Az nz cz] 30 (0, 0)))
              (C := fun V => Below Wz.heap.size Wz V ∧ ∃ k, V = Wz.drewN k) (by kernel_rfl) (by kernel_rfl) ⟨(Below.refl _ _).drew, 1, rfl⟩ (fun V hV => ⟨(HEZ.out.later hV.1).out, (HEZ.out.later hV.1).t⟩) ?_
            refine wpO6_load (ad := ⟨w.heap.size, 0, none⟩) (.agg #[.int .i64 (r : Int), .slice Az nz cz]) rfl rfl rfl (by rfl) (fun V hV => ?_) ?_
            · obtain ⟨d0, d1⟩ := doc_cells hV.2
              simp [Instr.loadAt, go_sem, d0, d1]
            simp only [Act.put, List.setIfInBounds_toArray, List.set_cons_succ, List.set_cons_zero]
            refine wpO6_load (ad := ⟨pw + 1, 0, none⟩) (.agg #[.slice Abz zsz.length cbz, .bool whz, .bool ev10, .int .u32 old10]) rfl rfl rfl (by rfl) (fun V hV => ?_) ?_
            · obtain ⟨k0, k1, k2, k3⟩ := out_block hV.1
              simp [Instr.loadAt, go_sem, k0, k1, k2, k3]
            simp only [Act.put, List.setIfInBounds_toArray, List.set_cons_succ, List.set_cons_zero]
            refine wpO6_store (fun V' => ∃ k, V' = (Wz.drewN k).setRow (w.heap.size + 2) #[.int .i64 (r : Int), .slice Az nz cz]) rfl rfl rfl rfl ⟨w.heap.size + 2, 0, none⟩ (.agg #[.int .i64 (r : Int), .slice Az nz cz]) (by rfl) (by rfl) ?_ (fun V hV => ?_) ?_
            · rintro V' ⟨k, rfl⟩
              exact ⟨(setRow_other _ _ _ _ (by omega)).trans HEZ.out.out, (setRow_other _ _ _ _ (by omega)).trans HEZ.out.t⟩
            · obtain ⟨_, k, rfl⟩ := hV
              exact ⟨_, run_storeVar_rowT HEZ.out.rt, k, rfl⟩
            refine wpO6_store (fun V' => ∃ k, V' = ((Wz.drewN k).setRow (w.heap.size + 2) #[.int .i64 (r : Int), .slice Az nz cz]).setRow (w.heap.size + 3) (outC Abz zsz.length cbz whz ev10 old10)) rfl rfl rfl rfl ⟨w.heap.size + 3, 0, none⟩ (.agg (outC Abz zsz.length cbz whz ev10 old10)) (by rfl) (by rfl) ?_ ?_ ?_
            · rintro V' ⟨k, rfl⟩
              exact ⟨(setRow_other _ _ _ _ (by omega)).trans ((setRow_other _ _ _ _ (by omega)).trans HEZ.out.out), (setRow_other _ _ _ _ (by omega)).trans ((setRow_other _ _ _ _ (by omega)).trans HEZ.out.t)⟩
            · rintro V' ⟨k, rfl⟩
              exact ⟨_, run_storeVar_rowO ((setRow_other _ _ _ _ (by omega)).trans HEZ.out.ro), k, rfl⟩
            refine wpO6_pure rfl rfl ?_
            go_big_quiet_step (fail)
            refine wpQuiet_nil ?_
            rintro w27 ⟨k, rfl⟩
            have hez := HEZ.out.later (below_drewN (Below.refl _ _) k)
            obtain ⟨x3, c0, c1, o0, o1, o2, o3, HFIN⟩ := HFin.out (Wz.drewN k) Az nz cz Lz Abz cbz ⟨0, Lz.map Ds.ms, ⟨zsz, whz, ev10, old10⟩⟩ HSRZ.out HSZ.out hez.rt hez.ro hez.below HPZ.out hez.doc rfl hez.room hez.nums hez.new
            have HG := Lib.hid HFIN
            clear HFIN x3 hez
            go_wp2_with fail
            refine bodyPost_ret (by simp [results, Try.results10, go_sem, c0, c1, o0, o1, o2, o3]; try rfl) rfl ?_
            exact HG.out
        · have he' : (er != 0) = true := by simpa using he0
          have hput := HPT10.out
          rw [if_pos he0] at hput
          obtain ⟨x3, c0, c1, o0, o1, o2, o3, HFIN⟩ := HBad2.out er Wf hsf hmf.rt hmf.ro hmf.below hput
          have x2 := hmf.rt
          obtain ⟨d0, d1⟩ := doc_cells hmf.was
          have HG := Lib.hid HFIN
          clear HFIN hput hmf hxg hrf hvf
          go_wp2_with (first
            | refine wpList_store_row rfl 30 (.tmp 4) (.tmp 95) rfl (w.heap.size + 2) #[.int .i64 (r : Int), .slice A n cp] rfl rfl 30 _ x2 stInfo rfl (by simp [Value.oneCell']) ?_
            | refine wpList_store_row rfl 41 (.tmp 5) (.tmp 96) rfl (w.heap.size + 3) (outC none 0 0 false false 0) rfl rfl 41 _ x3 soInfo rfl (out_one _ _ _ _ _ _) ?_)
          refine bodyPost_ret (by simp [results, Try.results10, go_sem, c0, c1, o0, o1, o2, o3]; try rfl) rfl ?_
          exact HG.out
  · have hc' : (chk f.v f.k f.i f.c != 0) = true := by simpa using hc
    have hput := Tb.put_head (r := r) (T := L.map Ds.ms) hc
    have HPT := Lib.hid hput
    have HP2 := Lib.hid hp2
    have L1 : ∀ V, Below w2.heap.size w2 V → (Instr.loadAt 30 (.pointer (some ⟨w.heap.size, 0, none⟩))).run Try.prog V = .ok (.agg #[.int .i64 (r : Int), .slice A n cp]) V := fun V hV => by
      obtain ⟨d0, d1⟩ := doc_cells (HP2.out.later hV).t
      simp [Instr.loadAt, go_sem, d0, d1]
    have L2 : ∀ V, Below w2.heap.size w2 V → (Instr.loadAt 44 (.pointer (some ⟨w.heap.size + 1, 0, none⟩))).run Try.prog V = .ok (.agg #[.int .i64 f.v, .int .i64 f.k, .int .u32 f.s, .int .i64 f.i, .int .i64 f.c]) V := fun V hV => by
      obtain ⟨d0, d1, d2, d3, d4, d5⟩ := fr_block (v := f.v) (k := f.k) (s := f.s) (i := f.i) (c := f.c) (HP2.out.later hV).f
      simp [Instr.loadAt, go_sem, d0, d1, d2, d3, d4]
    have KC2 : Hid (∀ V, Below w2.heap.size w2 V → _) := Lib.hid fun V _ => KC.out V
    clear hb2 hp2 hput hc
    generalize chk f.v f.k f.i f.c = E at *
    go_wp2_with fail
    refine wp_region_order6 (1 :: 0 :: 2 :: 3 :: 4 :: 5 :: 6 :: 7 :: []) (fun V => V.heap[w.heap.size]? = some (.cells #[.int .i64 (r : Int), .slice A n cp] 30 (0, 0)) ∧ V.heap[w.heap.size + 1]? = some (.cells #[.int .i64 f.v, .int .i64 f.k, .int .u32 f.s, .int .i64 f.i, .int .i64 f.c, .slice f.a f.zs.length f.cp] 46 (0, 0)))
      (C := fun V => Below w2.heap.size w2 V) (by kernel_rfl) (by kernel_rfl) (Below.refl _ _).drew (fun V hV => ⟨(HP2.out.later hV).t, (HP2.out.later hV).f⟩) ?_
    refine wpO6_build (.agg #[.slice none 0 0, .bool false, .bool false, .int .u32 0]) rfl rfl rfl (fun V _ => by kernel_rfl) ?_
    simp only [Act.put, List.setIfInBounds_toArray, List.set_cons_succ, List.set_cons_zero]
    refine wpO6_load (ad := ⟨w.heap.size, 0, none⟩) (.agg #[.int .i64 (r : Int), .slice A n cp]) rfl rfl rfl (by rfl) (fun V hV => ?_) ?_
    · obtain ⟨d0, d1⟩ := doc_cells hV.1
      simp [Instr.loadAt, go_sem, d0, d1]
    simp only [Act.put, List.setIfInBounds_toArray, List.set_cons_succ, List.set_cons_zero]
    refine wpO6_pure rfl rfl ?_
    go_big_quiet_step (fail)
    refine wpQuiet_nil ?_
    refine wpO6_load (ad := ⟨w.heap.size + 1, 0, none⟩) (.agg #[.int .i64 f.v, .int .i64 f.k, .int .u32 f.s, .int .i64 f.i, .int .i64 f.c]) rfl rfl rfl (by rfl) (fun V hV => ?_) ?_
    · obtain ⟨d0, d1, d2, d3, d4, d5⟩ := fr_block (v := f.v) (k := f.k) (s := f.s) (i := f.i) (c := f.c) hV.2
      simp [Instr.loadAt, go_sem, d0, d1, d2, d3, d4]
    simp only [Act.put, List.setIfInBounds_toArray, List.set_cons_succ, List.set_cons_zero]
    refine wpO6_call (fun v => v = .int .i64 E) (fun _ V => Below w2.heap.size w2 V) (f := 26) (args := #[.agg #[.int .i64 f.v, .int .i64 f.k, .int .u32 f.s, .int .i64 f.i, .int .i64 f.c]]) rfl rfl rfl (fun _ V hV => ⟨(HP2.out.later hV).t, (HP2.out.later hV).f⟩) (fun V => by first | rfl | (simp [go_sem]; done)) (fun V hV => (KC.out V).mono fun e W' h => ⟨_, h.1, rfl, hV.trans (h.2.mono hV.size)⟩) ?_
    rintro v rfl
    simp only [Act.put, List.setIfInBounds_toArray, List.set_cons_succ, List.set_cons_zero]
    refine wpO6_store (fun V' => ∃ V, Below w2.heap.size w2 V ∧ V' = V.setRow (w.heap.size + 2) #[.int .i64 (r : Int), .slice A n cp]) rfl rfl rfl rfl ⟨w.heap.size + 2, 0, none⟩ (.agg #[.int .i64 (r : Int), .slice A n cp]) (by rfl) (by rfl) ?_ (fun V hV => ?_) ?_
    · rintro V' ⟨V, hV, rfl⟩
      exact ⟨(setRow_other _ _ _ _ (by omega)).trans (HP2.out.later hV).t, (setRow_other _ _ _ _ (by omega)).trans (HP2.out.later hV).f⟩
    · exact ⟨_, run_storeVar_rowT (HP2.out.later hV).rt, V, hV, rfl⟩
    refine wpO6_store (fun V' => ∃ V, Below w2.heap.size w2 V ∧ V' = (V.setRow (w.heap.size + 2) #[.int .i64 (r : Int), .slice A n cp]).setRow (w.heap.size + 3) (outC none 0 0 false false 0)) rfl rfl rfl rfl ⟨w.heap.size + 3, 0, none⟩ (.agg (outC none 0 0 false false 0)) (by rfl) (by rfl) ?_ ?_ ?_
    · rintro V' ⟨V, hV, rfl⟩
      exact ⟨(setRow_other _ _ _ _ (by omega)).trans ((setRow_other _ _ _ _ (by omega)).trans (HP2.out.later hV).t), (setRow_other _ _ _ _ (by omega)).trans ((setRow_other _ _ _ _ (by omega)).trans (HP2.out.later hV).f)⟩
    · rintro V' ⟨V, hV, rfl⟩
      exact ⟨_, run_storeVar_rowO ((setRow_other _ _ _ _ (by omega)).trans (HP2.out.later hV).ro), V, hV, rfl⟩
    refine wpO6_pure rfl rfl ?_
    go_big_quiet_step (fail)
    refine wpQuiet_nil ?_
    rintro w5 ⟨w4, hb4, rfl⟩
    have hp4 := HP2.out.later hb4
    have hs4 : w.heap.size + 4 ≤ w4.heap.size := by have := hb4.size; omega
    obtain ⟨x3, c0, c1, o0, o1, o2, o3, HFIN⟩ := HBad.out E w4 hp4 hs4 HPT.out
    have HG := Lib.hid HFIN
    clear hp4 HFIN L1 L2 hb4 x3
    go_wp2_with fail
    refine bodyPost_ret (by simp [results, Try.results10, go_sem, c0, c1, o0, o1, o2, o3]; try rfl) rfl ?_
    exact HG.out
end Go.Proofs.Ytloncplpjdekoaa

namespace Go.Proofs.Ytloncplpjdekoaa
open Go.RowKit
set_option maxRecDepth 100000

/-- the blocks that a table owns -/
def Own (b m : Nat) (A : Option Addr) (n cp : Nat) (X : List Sx) (q : Nat) : Prop := q = b ∨ q = m ∨ (Value.slice A n cp).ownBlock = some q ∨ ∃ x ∈ X, q = x.m
/-- blocks with cells are a table's box or a row of numbers -/
def Tys (w : World) (S : Nat → Prop) : Prop := ∀ g cs t fz, w.heap[g]? = some (.cells cs t fz) → S g → fz = (0, 0) → t = 74 ∨ t = 31
section
variable {w w' : World} {S : Nat → Prop} {b r m n cp : Nat} {A : Option Addr} {X : List Sx}
theorem TblAt.exact (h : TblAt w S b r m A n cp X) : TblAt w (Own b m A n cp X) b r m A n cp X :=
  ⟨h.row, h.len, h.ord, h.map, h.slots, h.maps, h.room, h.few, .inl rfl, .inr (.inl rfl), fun _ hg => .inr (.inr (.inl hg)), fun x hx => .inr (.inr (.inr ⟨x, hx, rfl⟩))⟩
theorem TblAt.own_sub (h : TblAt w S b r m A n cp X) : ∀ q, Own b m A n cp X q → S q := by
  rintro q (rfl | rfl | hq | ⟨x, hx, rfl⟩)
  · exact h.inS.1
  · exact h.inS.2.1
  · exact h.inS.2.2.1 q hq
  · exact h.inS.2.2.2 x hx
theorem TblAt.own_lt (h : TblAt w S b r m A n cp X) : ∀ q, Own b m A n cp X q → q < w.heap.size := by
  rintro q (rfl | rfl | hq | ⟨x, hx, rfl⟩)
  · exact h.lt
  · exact h.map.lt
  · exact (h.ord.lt q hq).2
  · exact (SlotAt.map (h.slots x hx)).lt
theorem TblAt.tys (h : TblAt w S b r m A n cp X) : Tys w (Own b m A n cp X) := by
  rintro g cs t fz hg (rfl | rfl | hq | ⟨x, hx, rfl⟩) rfl
  · have := hg.symm.trans h.row
    injection this with this
    injection this with _ this _
    exact .inl this
  · exact absurd hg (h.map.not_cells _ _ _)
  · obtain ⟨cs', h1⟩ := tord_row h.ord hq
    have := hg.symm.trans h1
    injection this with this
    injection this with _ this _
    exact .inr this
  · exact absurd hg ((SlotAt.map (h.slots x hx)).not_cells _ _ _)
theorem RefAt.tys {c : Int} {A : Option Addr} {n cp : Nat} {fs : List Fr} (h : RefAt w c A n cp fs) (hsrc : ∀ g ∈ fs, g.At w' w'.heap.size) (ho : Off S w w') (hS : Tys w S) : RefAt w' c A n cp fs := by
  have hr : ∀ g off cs, A = some ⟨g, off, none⟩ → w.heap[g]? = some (.cells cs 46 (0, 0)) → ¬ S g := fun g off cs _ hg hs => by
    rcases hS g cs _ _ hg hs rfl with h | h
    · exact absurd h (by decide)
    · exact absurd h (by decide)
  refine ⟨⟨hsrc, fun j f hf => ?_⟩, h.len, h.room, h.few, h.keys, h.most, h.small, fun g off e => ?_⟩
  · obtain ⟨b, off, e, hb, hc⟩ := h.at'.2 j f hf
    obtain ⟨cs, h1⟩ := h.row b off e
    exact ⟨b, off, e, Nat.lt_of_lt_of_le hb ho.size, fun q u hq => ho.cell (hc q u hq) (hr b off cs e h1)⟩
  · obtain ⟨cs, h1⟩ := h.row g off e
    exact ⟨cs, (ho.block g (Array.getElem?_eq_some_iff.1 h1).1 (hr g off cs e h1)).trans h1⟩
theorem DocAt.tys {A : Option Addr} {n cp : Nat} {L : List Ds} (h : DocAt w A n cp L) (hsrc : SrcL (fun g => g.At w' w'.heap.size) L) (ho : Off S w w') (hS : Tys w S) : DocAt w' A n cp L := by
  have key : ∀ (j : Nat) (d : Ds), L[j]? = some d → ∀ b off, A = some ⟨b, off, none⟩ → ¬ S b := fun j d hj b off e hs => by
    obtain ⟨cs, h1⟩ := h.row j d hj b off e
    rcases hS b cs _ _ h1 hs rfl with h | h
    · exact absurd h (by decide)
    · exact absurd h (by decide)
  refine ⟨fun d hd => ⟨(h.at' d hd).ref.tys (hsrc d hd) ho hS, (h.at' d hd).num, (h.at' d hd).good⟩, h.len, h.room, h.few, fun j d hj => ?_, fun j d hj b off e => ?_⟩
  · obtain ⟨b, off, e, hB, hc⟩ := h.cells j d hj
    exact ⟨b, off, e, Nat.lt_of_lt_of_le hB ho.size, fun q u hq => ho.cell (hc q u hq) (key j d hj b off e)⟩
  · obtain ⟨cs, h1⟩ := h.row j d hj b off e
    exact ⟨cs, (ho.block b (Array.getElem?_eq_some_iff.1 h1).1 (key j d hj b off e)).trans h1⟩
end
/-- the law's state: its table, the document's in box bm -/
structure Tw (w : World) (b r bm m : Nat) (A : Option Addr) (n cp : Nat) (X : List Sx) (A2 : Option Addr) (n2 cp2 : Nat) (L : List Ds) (W : World) : Prop where
  tbl : TblAt W (Own b m A n cp X) b r m A n cp X
  box : W.heap[bm]? = some (.cells #[.int .i64 (r : Int), .slice A2 n2 cp2] 30 (0, 0))
  doc : DocAt W A2 n2 cp2 L
  like : Tb.Likes (L.map Ds.ms) (X.map Sx.ms)
  src : SrcL (fun g => g.At w w.heap.size) L
  low : ∀ q, Own b m A n cp X q → w.heap.size ≤ q
  lowb : w.heap.size ≤ bm
  below : Below w.heap.size w W
section
variable {w W W' : World} {b r bm m n cp : Nat} {A : Option Addr} {X : List Sx} {A2 : Option Addr} {n2 cp2 : Nat} {L : List Ds}
theorem Tw.later (h : Tw w b r bm m A n cp X A2 n2 cp2 L W) (hb : Below W.heap.size W W') : Tw w b r bm m A n cp X A2 n2 cp2 L W' :=
  ⟨h.tbl.below hb, row_keep h.box hb, h.doc.below hb, h.like, h.src, h.low, h.lowb, h.below.trans (hb.mono h.below.size)⟩
theorem Tw.nodup (h : Tw w b r bm m A n cp X A2 n2 cp2 L W) : (L.map Ds.s).Nodup ∧ n2 = n ∧ L.map Ds.s = X.map Sx.s := by
  have e : L.map Ds.s = X.map Sx.s := by rw [← ds_nums, ← nums_ms, h.like.nums]
  refine ⟨by rw [e]; exact h.tbl.keys.1, ?_, e⟩
  have h1 := h.like.len
  rw [List.length_map, List.length_map, h.tbl.len, h.doc.len] at h1
  exact h1.symm
/-- the frames of the document's stay good -/
theorem Tw.srcs (h : Tw w b r bm m A n cp X A2 n2 cp2 L W) (hb : Below w.heap.size w W') : SrcL (fun g => g.At W' W'.heap.size) L := fun d hd g hg => ((h.src d hd g hg).below hb).mono hb.size
/-- a box that is turned -/
theorem Tw.alike (h : Tw w b r bm m A n cp X A2 n2 cp2 L W) : Calls Try.prog 17 #[.pointer (some ⟨b, 0, none⟩), docV r A2 n2 cp2] W fun e w' => e = .returned (.bool true) ∧ Tw w b r bm m A n cp X A2 n2 cp2 L w' :=
  (talike_any h.tbl h.doc h.like).mono fun _ _ ⟨he, hb⟩ => ⟨he, h.later hb⟩
end
section
variable {w w' : World} {S : Nat → Prop} {b r m n cp bm : Nat} {A : Option Addr} {X : List Sx}
theorem Tys.not {q : Nat} {cs : Array Value} {t : TypeId} (h : Tys w S) (hq : w.heap[q]? = some (.cells cs t (0, 0))) (h1 : t ≠ 74) (h2 : t ≠ 31) : ¬ S q := fun hs => (h q cs t _ hq hs rfl).elim h1 h2
theorem TblAt.tbox {old : Array Value} (h : TblAt w (Own b m A n cp X) b r m A n cp X) (hx : w.heap[bm]? = some (.cells old 30 (0, 0))) (cs : Array Value) : TblAt (w.setRow bm cs) (Own b m A n cp X) b r m A n cp X := by
  have ho : Off (fun q => q = bm) w (w.setRow bm cs) := Off.setRow (S := fun q => q = bm) (Off.refl _ w) rfl _
  have hne : ∀ (q : Nat) (cs : Array Value) (t : TypeId), w.heap[q]? = some (.cells cs t (0, 0)) → t ≠ 30 → ¬ q = bm := fun q cs t h1 h2 e => by
    rw [e, hx] at h1
    injection h1 with h1
    injection h1 with _ h1 _
    exact h2 h1.symm
  exact h.off ho (fun q hq e => h.tys.not hx (by decide) (by decide) (by rw [← e]; exact hq)) (fun x _ cs h1 => hne _ _ _ h1 (by decide)) fun g cs h1 => hne _ _ _ h1 (by decide)
theorem sml_tbox {z : Int} {A' : Option Addr} {n' cp' : Nat} (hx : w.heap[bm]? = some (.cells #[.int .i64 z, .slice A' n' cp'] 30 (0, 0))) : Sml w (fun q => q = bm) := by
  rintro g cs t fz hg rfl
  rw [hx] at hg
  obtain ⟨rfl, rfl, rfl⟩ : #[Value.int .i64 z, .slice A' n' cp'] = cs ∧ 30 = t ∧ (0, 0) = fz := by simpa using hg
  exact ⟨by simp, fun j z h => (by rcases j with _ | _ | j <;> simp at h), by decide⟩
theorem off_tbox (w : World) (bm : Nat) (cs : Array Value) : Off (fun q => q = bm) w (w.setRow bm cs) := Off.setRow (S := fun q => q = bm) (Off.refl _ w) rfl _
theorem TblOf.exact {T : List Tb.Ms} (h : TblOf w S b r T) : ∃ m A n cp X, TblAt w (Own b m A n cp X) b r m A n cp X ∧ X.map Sx.ms = T ∧ ∀ q, Own b m A n cp X q → S q := by
  obtain ⟨m, A, n, cp, X, h, e⟩ := h
  exact ⟨m, A, n, cp, X, h.exact, e, h.own_sub⟩
theorem DocAt.toff {A : Option Addr} {n cp : Nat} {L : List Ds} {w0 : World} (h : DocAt w A n cp L) (hsrc : SrcL (fun g => g.At w0 w0.heap.size) L) (hb : Below w0.heap.size w0 w') (ho : TOff S w w') (hS : Tys w S) : DocAt w' A n cp L :=
  h.tys (fun d hd g hg => ((hsrc d hd g hg).below hb).mono hb.size) (Off.mono ho fun _ _ h => h.1) hS
theorem keysL {A : Option Addr} {n cp : Nat} {L : List Ds} (h : DocAt w A n cp L) : ∀ x ∈ L.map Ds.ms, Sl.Keys x.C := fun x hx => by
  obtain ⟨d, hd, rfl⟩ := List.mem_map.1 hx
  exact (h.at' d hd).ref.keys
theorem filter_ds (L : List Ds) (z : Int) : Tb.drop (L.map Ds.ms) z = (L.filter fun d => d.s != z).map Ds.ms := by
  unfold Tb.drop
  rw [List.filter_map]
  rfl
end
theorem tys_sub {w : World} {S S' : Nat → Prop} (h : Tys w S) (hs : ∀ q, S' q → S q) : Tys w S' := fun g cs t fz hg hq hf => h g cs t fz hg (hs g hq) hf
theorem tys_below {w w' : World} {S : Nat → Prop} (h : Tys w S) (hb : Below w.heap.size w w') (hl : ∀ q, S q → q < w.heap.size) : Tys w' S := fun g cs t fz hg hq hf => h g cs t fz ((hb.block g (hl g hq)).symm.trans hg) hq hf
section
variable {w V : World} {b r bm m n cp : Nat} {A : Option Addr} {X : List Sx} {A3 : Option Addr} {n3 cp3 : Nat} {L3 : List Ds} {z : Int}
/-- Drop of the law's table, the document's already without the number -/
theorem tdrop_law (ht : TblAt V (Own b m A n cp X) b r m A n cp X) (hbox : V.heap[bm]? = some (.cells #[.int .i64 (r : Int), .slice A3 n3 cp3] 30 (0, 0))) (hdoc : DocAt V A3 n3 cp3 L3) (hlk : Tb.Likes (L3.map Ds.ms) (Tb.drop (X.map Sx.ms) z))
    (hsrc : SrcL (fun g => g.At w w.heap.size) L3) (hlow : ∀ q, Own b m A n cp X q → w.heap.size ≤ q) (hlowb : w.heap.size ≤ bm) (hb : Below w.heap.size w V) (hz : 0 ≤ z ∧ z ≤ 4294967295) :
    Calls Try.prog 15 #[.pointer (some ⟨b, 0, none⟩), .int .u32 z] V fun e w' => e = .returned (.bool (Tb.find (X.map Sx.ms) z).isSome) ∧ (∃ m5 A6 n6 cp6 X6, Tw w b r bm m5 A6 n6 cp6 X6 A3 n3 cp3 L3 w') ∧
      ∀ (q : Nat) (cs : Array Value) (t : TypeId), V.heap[q]? = some (.cells cs t (0, 0)) → t ≠ 74 → t ≠ 31 → w'.heap[q]? = some (.cells cs t (0, 0)) := by
  refine (tdrop_any ht hz).mono ?_
  rintro e w' (⟨hno, rfl, rfl⟩ | ⟨⟨x, hx, hxz⟩, rfl, hto, ht'⟩)
  · have hf : Tb.find (X.map Sx.ms) z = none := find_none_ms.2 hno
    rw [hf]
    rw [Tb.drop_none hf] at hlk
    exact ⟨rfl, ⟨m, A, n, cp, X, ht, hbox, hdoc, hlk, hsrc, hlow, hlowb, hb⟩, fun _ _ _ h _ _ => h⟩
  · have hf : (Tb.find (X.map Sx.ms) z).isSome = true := by
      rw [← hxz, ht.find hx]
      rfl
    have hsub : ∀ q, (q = b ∨ q = m ∨ (Value.slice A n cp).ownBlock = some q) → Own b m A n cp X q := fun q h => by
      rcases h with h | h | h
      · exact .inl h
      · exact .inr (.inl h)
      · exact .inr (.inr (.inl h))
    have hty := tys_sub ht.tys hsub
    have hbw := hb.trans (hto.below (fun q h => hlow q (hsub q h)) hb.size)
    have hkeep : ∀ (q : Nat) (cs : Array Value) (t : TypeId), V.heap[q]? = some (.cells cs t (0, 0)) → t ≠ 74 → t ≠ 31 → w'.heap[q]? = some (.cells cs t (0, 0)) := fun q cs t h h1 h2 =>
      (TOff.keep hto (Array.getElem?_eq_some_iff.1 h).1 (hty.not h h1 h2)).trans h
    rw [hf]
    rw [filter_ms] at hlk
    exact ⟨rfl, ⟨m, A, n - 1, cp, _, ht'.exact, hkeep _ _ _ hbox (by decide) (by decide), hdoc.toff hsrc hbw hto hty, hlk, hsrc, fun q hq => hlow q (ht'.own_sub q hq), hlowb, hbw⟩, hkeep⟩
end
/-- a number goes just when there is one slot less -/
theorem drop_less {L : List Ds} {X : List Sx} {z : Int} (he : L.map Ds.s = X.map Sx.s) : ((Tb.find (X.map Sx.ms) z).isSome = true ∧ (L.filter fun d => d.s != z).length < L.length) ∨ ((Tb.find (X.map Sx.ms) z).isSome = false ∧ (L.filter fun d => d.s != z).length = L.length) := by
  cases hf : Tb.find (X.map Sx.ms) z with
  | some y =>
    obtain ⟨x, hx, _, hz⟩ := find_some_ms hf
    obtain ⟨d, hd, hdz⟩ := List.mem_map.1 (by rw [he]; exact List.mem_map.2 ⟨x, hx, hz⟩ : z ∈ L.map Ds.s)
    exact .inl ⟨rfl, List.length_filter_lt_length_iff_exists.2 ⟨d, hd, by simp [hdz]⟩⟩
  | none =>
    have hno := find_none_ms.1 hf
    refine .inr ⟨rfl, ?_⟩
    rw [List.filter_eq_self.2]
    intro d hd
    obtain ⟨x, hx, hz⟩ := List.mem_map.1 (by rw [← he]; exact List.mem_map.2 ⟨d, hd, rfl⟩ : d.s ∈ X.map Sx.s)
    have := hno x hx
    simp only [bne_iff_ne, ne_eq]
    rw [← hz]
    exact this
end Go.Proofs.Ytloncplpjdekoaa

namespace Go.Proofs.Ytloncplpjdekoaa
open Go.RowKit
namespace Sl
theorem cat_more (C : Ct) (i : Nat) (x : List Int) (h : has C i = false) : ∀ n : Nat, (cat ((i, x) :: C) n).length = (if i < n then x.length else 0) + (cat C n).length
  | 0 => by simp [cat]
  | n + 1 => by
    have ih := cat_more C i x h n
    rw [cat_succ, cat_succ, List.length_append, List.length_append, ih]
    by_cases hi : i = n
    · subst hi
      have h1 : at' ((i, x) :: C) i = x := by simp [at']
      rw [h1, at_none h, if_neg (by omega), if_pos (by omega)]
      simp
      omega
    · have h1 : at' ((i, x) :: C) n = at' C n := by
        unfold at'
        rw [List.find?_cons_of_neg (by simpa using hi)]
      rw [h1]
      by_cases hlt : i < n
      · rw [if_pos hlt, if_pos (by omega)]
        omega
      · rw [if_neg hlt, if_neg (by omega)]
        omega
theorem cat_tot : ∀ {C : Ct} {n : Nat}, Keys C → (∀ p ∈ C, p.1 < n) → (cat C n).length = tot C
  | [], n, _, _ => by
    unfold cat
    induction n with
    | zero => simp [tot]
    | succ n ih => rw [List.range_succ, List.flatMap_append, List.length_append, ih (by simp)]; simp [at', tot]
  | (i, x) :: C, n, hk, hf => by
    unfold Keys at hk
    rw [List.map_cons, List.nodup_cons] at hk
    have hno : has C i = false := by
      cases h : has C i with
      | false => rfl
      | true => exact absurd (has_iff.1 h) hk.1
    rw [cat_more C i x hno n, if_pos (hf (i, x) (by simp)), cat_tot hk.2 fun p hp => hf p (List.mem_cons_of_mem _ hp)]
    simp [tot]
end Sl
namespace Tb
/-- what each message of a table has -/
def Good (x : Ms) : Prop := Sl.Keys x.C ∧ (∀ p ∈ x.C, (p.1 : Int) < x.c) ∧ Sl.tot x.C ≤ 192
theorem Good.cat {x : Ms} (h : Good x) (hf : (x.C.length : Int) = x.c) : (Sl.cat x.C x.C.length).length ≤ 192 := by
  rw [Sl.cat_tot h.1 fun p hp => by have := h.2.1 p hp; omega]
  exact h.2.2
theorem Good.push {x : Ms} {f : Fr} (h : Good x) (he : x.err f = 0) : Good (x.push f) := by
  obtain ⟨_, h1, h2, _, h4, h5⟩ := sErr_zero he
  refine ⟨?_, fun p hp => ?_, ?_⟩
  · unfold Sl.Keys
    show ((x.C ++ [f.ct]).map Prod.fst).Nodup
    rw [List.map_append, List.nodup_append]
    refine ⟨h.1, by simp, fun a ha b hb e => ?_⟩
    have hb' : b = f.i.toNat := by simpa [Fr.ct] using hb
    rw [e, hb'] at ha
    rw [Sl.has_iff.2 ha] at h4
    cases h4
  · rcases List.mem_append.1 hp with hp | hp
    · exact h.2.1 p hp
    · obtain rfl := List.mem_singleton.1 hp
      show ((f.i.toNat : Nat) : Int) < x.c
      omega
  · show Sl.tot (x.C ++ [f.ct]) ≤ 192
    rw [Sl.tot_push]
    exact h5
section
variable {r : Nat} {T : List Ms} {f : Fr}
theorem came_zs {T : List Ms} {n : Int} {ev : Bool} {old : Int} (h : ∀ x ∈ T, Good x) : (came T n ev old).2.zs.length ≤ 192 := by
  cases hx : find T n with
  | none => unfold came; rw [hx]; simp
  | some x =>
    by_cases hf : (x.C.length : Int) = x.c
    · rw [came_full hx hf]
      exact (h x (find_mem hx).1).cat hf
    · rw [came_part hx hf]
      simp
theorem came_ev {T : List Ms} {n : Int} {ev : Bool} {old : Int} : (came T n ev old).2.ev = ev := by
  cases hx : find T n with
  | none => unfold came; rw [hx]
  | some x =>
    by_cases hf : (x.C.length : Int) = x.c
    · rw [came_full hx hf]
    · rw [came_part hx hf]
theorem good_new (f : Fr) : Good (Ms.new f) := ⟨by simp [Sl.Keys, Ms.new], fun p hp => (by cases hp), by simp [Ms.new, Sl.tot]⟩
/-- never more than a message's bytes -/
theorem put_zs (hk : (nums T).Nodup) (h : ∀ x ∈ T, Good x) : (put r T f).o.zs.length ≤ 192 := by
  by_cases h1 : chk f.v f.k f.i f.c = 0
  · by_cases h2 : f.zs = []
    · rw [put_short h1 h2]; simp [Out.no]
    · cases hx : find T f.s with
      | some x =>
        rw [put_there h1 h2 hx]
        by_cases he : x.err f = 0
        · rw [if_neg (by simpa using he)]
          refine came_zs fun y hy => ?_
          obtain ⟨z, hz, e⟩ := List.mem_map.1 hy
          by_cases hs : z.s = f.s
          · rw [if_pos hs] at e
            subst e
            have hzx := find_of hk hz
            rw [hs, hx] at hzx
            injection hzx with hzx
            subst hzx
            exact (h _ hz).push he
          · rw [if_neg hs] at e
            subst e
            exact h z hz
        · rw [if_pos he]; simp [Out.no]
      | none =>
        rw [put_new h1 h2 hx]
        by_cases he : (Ms.new f).err f = 0
        · rw [if_neg (by simpa using he)]
          have hp : Good ((Ms.new f).push f) := (good_new f).push he
          split
          · split
            · refine came_zs fun y hy => ?_
              rcases List.mem_append.1 hy with hy | hy
              · exact h y (List.mem_filter.1 hy).1
              · obtain rfl := List.mem_singleton.1 hy
                exact hp
            · simp [Out.no]
          · refine came_zs fun y hy => ?_
            rcases List.mem_append.1 hy with hy | hy
            · exact h y hy
            · obtain rfl := List.mem_singleton.1 hy
              exact hp
        · rw [if_pos he]; simp [Out.no]
  · rw [put_head h1]; simp [Out.no]
/-- a slot goes of a full table alone -/
theorem put_ev (h : (put r T f).o.ev = true) : T.length = r := by
  by_cases h1 : chk f.v f.k f.i f.c = 0
  · by_cases h2 : f.zs = []
    · rw [put_short h1 h2] at h; cases h
    · cases hx : find T f.s with
      | some x =>
        rw [put_there h1 h2 hx] at h
        split at h
        · cases h
        · rw [show (Res.ok (came (put1 T f) f.s false 0)).o.ev = (came (put1 T f) f.s false 0).2.ev from rfl, came_ev] at h; cases h
      | none =>
        rw [put_new h1 h2 hx] at h
        split at h
        · cases h
        · split at h
          · rename_i hr; exact hr
          · rw [show (Res.ok (came (T ++ [(Ms.new f).push f]) f.s false 0)).o.ev = (came (T ++ [(Ms.new f).push f]) f.s false 0).2.ev from rfl, came_ev] at h; cases h
  · rw [put_head h1] at h; cases h
/-- a refused frame changes nothing -/
theorem put_err (h : (put r T f).e ≠ 0) : (put r T f).T = T ∧ (put r T f).o = Out.no := by
  by_cases h1 : chk f.v f.k f.i f.c = 0
  · by_cases h2 : f.zs = []
    · rw [put_short h1 h2]; exact ⟨rfl, rfl⟩
    · cases hx : find T f.s with
      | some x =>
        rw [put_there h1 h2 hx] at h ⊢
        split at h
        · rename_i he; rw [if_pos he]; exact ⟨rfl, rfl⟩
        · exact absurd rfl h
      | none =>
        rw [put_new h1 h2 hx] at h ⊢
        split at h
        · rename_i he; rw [if_pos he]; exact ⟨rfl, rfl⟩
        · rename_i he
          rw [if_neg he]
          split at h
          · rename_i hr
            rw [if_pos hr]
            split at h
            · exact absurd rfl h
            · rename_i ha; rw [if_neg ha]; exact ⟨rfl, rfl⟩
          · exact absurd rfl h
  · rw [put_head h1]; exact ⟨rfl, rfl⟩
end
end Tb
end Go.Proofs.Ytloncplpjdekoaa

namespace Go.Proofs.Ytloncplpjdekoaa
open Go.RowKit Go.Shelf
set_option maxRecDepth 100000

theorem room_of14 (x : Int) : ∃ r : Nat, wrap64 (1 + wrap64 ((IntKind.u64.wrap x).tmod 16)) = (r : Int) ∧ 1 ≤ r ∧ r ≤ 16 := by
  have h0 : 0 ≤ IntKind.u64.wrap x := by rw [IntKind.wrap_u64]; omega
  have h1 := Int.tmod_nonneg 16 h0
  have h2 := Int.tmod_lt_of_pos (IntKind.u64.wrap x) (show (0 : Int) < 16 by omega)
  refine ⟨(1 + (IntKind.u64.wrap x).tmod 16).toNat, ?_, by omega, by omega⟩
  unfold wrap64; omega
theorem TblAt.good {w : World} {S : Nat → Prop} {b r m n cp : Nat} {A : Option Addr} {X : List Sx} (h : TblAt w S b r m A n cp X) : (Tb.nums (X.map Sx.ms)).Nodup ∧ ∀ x ∈ X.map Sx.ms, Tb.Good x := by
  refine ⟨by rw [nums_ms]; exact h.keys.1, fun x hx => ?_⟩
  obtain ⟨y, hy, rfl⟩ := List.mem_map.1 hx
  have hs := h.slots y hy
  refine ⟨SlotAt.keys hs, fun p hp => ?_, SlotAt.most hs⟩
  obtain ⟨q, hq, rfl⟩ := List.mem_map.1 hp
  exact SlotAt.few hs q hq
set_option maxHeartbeats 8000000 in
theorem tbounds_go (x : Int) (A : Option Addr) (n cp : Nat) (fs : List Fr) (w : World) (hn : fs.length = n) (hcp : n ≤ cp) (h1 : FrsAt w w.heap.size A fs) :
    Calls Try.prog 4 #[.int .i64 x, .slice A n cp] w fun e w' => e = .returned (.bool true) ∧ Below w.heap.size w w' := by
  have hnc : (n : Int) ≤ (cp : Int) := by omega
  obtain ⟨r, hr, hr1, hr2⟩ := room_of14 x
  have HKN := Lib.hid (fun W => tbknown_any W)
  have HNW := Lib.hid (tnew_any (r : Int) w)
  have H1 := Lib.hid h1
  have HN := Lib.hid hn
  clear h1 hn
  go_enter Try.func4, Try.ntmps4
  go_wp2_with fail
  refine HNW.out.mono ?_
  rintro e w1 (⟨h, _⟩ | ⟨r', hr', b, m, rfl, hT, hb1⟩)
  · exact absurd ⟨by omega, by omega⟩ h
  obtain rfl : r' = r := by omega
  have hT0 : Hid (TblOf w1 (fun q => w.heap.size ≤ q) b r' []) := ⟨m, none, 0, 0, [], hT, rfl⟩
  have HB1 := Lib.hid hb1
  clear hT hb1 HNW hr'
  go_wp2_with fail
  clear hr
  go_loopw [7] (fun iv wr => ∃ j : Nat, j ≤ n ∧ j ≤ 100 ∧ iv = .int .i64 (j : Int) ∧ ∃ T, Hid (TblOf wr (fun q => w.heap.size ≤ q) b r' T ∧ Below w.heap.size w wr)) (fun iv _ => 100 - (intOf iv).toNat)
  case atStart => exact ⟨0, by omega, by omega, rfl, [], Lib.hid ⟨hT0.out, HB1.out⟩⟩
  case round =>
    obtain ⟨j, hjn, hj100, rfl, T, HTB⟩ := hrel
    by_cases hj1 : j < n
    · by_cases hj2 : j < 100
      · have hj1' : (j : Int) < (n : Int) := by omega
        have hj2' : (j : Int) < 100 := by omega
        obtain ⟨f, hfj⟩ : ∃ f, fs[j]? = some f := ⟨_, List.getElem?_eq_getElem (by rw [HN.out]; omega)⟩
        have hat := H1.out.1 f (List.mem_of_getElem? hfj)
        have hfl : (f.zs.take 250).length = min 250 f.zs.length := List.length_take
        have KC : ∀ W, Calls Try.prog 9 #[.agg #[.int .i64 f.v, .int .i64 f.k, .int .u32 f.s, .int .i64 f.i, .int .i64 f.c, .slice f.a f.zs.length f.cp]] W fun e w' => e = .returned (.agg #[.int .i64 f.cut.v, .int .i64 f.cut.k, .int .u32 f.cut.s, .int .i64 f.cut.i, .int .i64 f.cut.c, .slice f.cut.a f.cut.zs.length f.cut.cp]) ∧ Below W.heap.size W w' :=
          fun W => cut_any f.v f.k f.s f.i f.c f.a f.zs.length (f.zs.take 250).length f.cp W (by omega) (by omega) hat.room
        have HCA := Lib.hid (Fr.cut_at hat)
        have HKC := Lib.hid KC
        have HFJ := Lib.hid hfj
        clear KC hat hfl hfj hj1 hj2
        generalize f.cut = h at HCA HKC
        obtain ⟨m1, A1, n1, cp1, X, hT, hX⟩ := HTB.out.1.small
        have hn1 : T.length = n1 := by rw [← hX, List.length_map]; exact hT.len
        have hn116 : n1 ≤ 16 := by have := hT.few; omega
        have KS := Lib.hid (tseqs_any hT)
        have HT := Lib.hid hT
        have HX := Lib.hid hX
        clear hT
        go_wp2_with fail
        refine KS.out.mono ?_
        rintro e W1 ⟨v, rfl, hmk⟩
        obtain ⟨A2, c2, rfl, hc2, hnum2⟩ := hmk.slice
        have hlen2 : (X.map Sx.s).length = n1 := by rw [List.length_map]; exact HT.out.len
        have hnS2 := hmk.numsS rfl
        rw [hlen2] at hc2 ⊢
        have hb1 := hmk.2
        have KH := Lib.hid (theld_any (HT.out.below hb1))
        have HNS := Lib.hid hnS2
        have HB1 := Lib.hid hb1
        clear hmk hnum2 hnS2 hb1 KS
        go_wp2_with fail
        refine KH.out.mono ?_
        rintro e W2 ⟨rfl, hb2⟩
        have hbr2 := HB1.out.trans (hb2.mono HB1.out.size)
        obtain ⟨g, off, hAA, hg, a0, a1, a2, a3, a4, a5⟩ := (H1.out.below (HTB.out.2.trans (hbr2.mono HTB.out.2.size))).six HFJ.out
        subst hAA
        have HBR2 := Lib.hid hbr2
        have hw12 := hb2.size
        have HB12 := Lib.hid hb2
        clear hb2 hbr2 KH HB1
        go_wp2_with fail
        refine (HKC.out W2).mono ?_
        rintro e W3 ⟨rfl, hb3⟩
        have hbr3 := HBR2.out.trans (hb3.mono HBR2.out.size)
        have hbw3 := HTB.out.2.trans (hbr3.mono HTB.out.2.size)
        have hT3 : TblOf W3 (fun q => w.heap.size ≤ q ∧ q < wr.heap.size) b r' T := ⟨m1, A1, n1, cp1, X, HT.out.below hbr3, HX.out⟩
        have hh3 : h.At W3 W3.heap.size := (HCA.out.below hbw3).mono hbw3.size
        have KP := tput_of hT3 h hh3
        unfold frV frC at KP
        have HKP := Lib.hid KP
        have HBR3 := Lib.hid hbr3
        have HBW3 := Lib.hid hbw3
        have hw23 := hb3.size
        have HB13 := Lib.hid (HB12.out.trans (hb3.mono HB12.out.size))
        clear KP hT3 hh3 hb3 hbr3 hbw3 HBR2 a0 a1 a2 a3 a4 a5
        go_wp2_with fail
        refine HKP.out.mono ?_
        rintro e W4 ⟨A5, c5, rfl, hc5, hnum5, hto5, m5, A6, n6, cp6, X6, hT5, hX6⟩
        have hgd := HT.out.good
        rw [HX.out] at hgd
        have hz192 := Tb.put_zs (r := r') (f := h) hgd.1 hgd.2
        have hev := @Tb.put_ev r' T h
        have herr := @Tb.put_err r' T h
        clear hgd
        generalize Tb.put r' T h = R at *
        obtain ⟨er, T', zs, wh, ev, old⟩ := R
        simp only at hc5 hnum5 hX6 hz192 hev herr ⊢
        rw [hn1] at hev
        have hw34 := hto5.size
        have hw03 := HBW3.out.size
        have hbw4 := HBW3.out.trans (hto5.below (fun q hq => hq.1) HBW3.out.size)
        have hks : KeepS (fun b => wr.heap.size ≤ b ∧ b < W1.heap.size) W1 W4 := by
          exact ⟨by omega, fun k hk => (TOff.keep hto5 (by omega) (fun hq => by omega)).trans (HB13.out.block k hk.2)⟩
        have hnS4 := HNS.out.keeps hks
        have hal := (Below.refl W4.heap.size W4).alloc (Nat.le_refl _) (.cells (outC A5 zs.length c5 wh ev old) 48)
        have hO5 := World.alloc_heap_new W4 (.cells (outC A5 zs.length c5 wh ev old) 48)
        have hT5' := hT5.below hal
        have hbw5 := hbw4.alloc hbw4.size (.cells (outC A5 zs.length c5 wh ev old) 48)
        have hs5 : W4.heap.size < (W4.alloc (.cells (outC A5 zs.length c5 wh ev old) 48)).heap.size := by simp
        have hn6 := hT5.few
        have hr6 := hT5.room
        have hld : Tb.held T' ≤ 192 * n6 := by
          rw [← hX6, ← tots_held, ← hT5.len]
          exact tots_le hT5.slots
        unfold outV
        simp only [outC] at hO5 hT5' hbw5 hs5 hal ⊢
        obtain ⟨W5, hW5⟩ : ∃ W5, W4.alloc (.cells #[.slice A5 zs.length c5, .bool wh, .bool ev, .int .u32 old] 48) = W5 := ⟨_, rfl⟩
        rw [hW5] at hO5 hT5' hbw5 hs5 hal
        have hnS5 := hnS4.keeps (KeepS.of_below hal fun k hk => by omega)
        have HW5 := Lib.hid hW5
        have HO5 := Lib.hid hO5
        have HT5 := Lib.hid hT5'
        have HX6 := Lib.hid hX6
        have HBW5 := Lib.hid hbw5
        have HNS5 := Lib.hid hnS5
        have HERR := Lib.hid herr
        have HEV := Lib.hid hev
        generalize zs.length = q5 at *
        clear hW5 hO5 hT5' hX6 hbw5 hnS5 hnS4 hks hbw4 hto5 hT5 hnum5 hal hev herr HKP HBR3 HBW3 HNS HKC
        by_cases er0 : er = 0
        · subst er0
          clear HERR
          go_wp2_with fail
          rw [HW5.out]
          refine (tlen_any HT5.out).mono ?_
          rintro e W9 ⟨rfl, rfl⟩
          rename World => W6
          have hle1 : (n6 : Int) ≤ (r' : Int) := by omega
          have hle2 : (n6 : Int) ≤ 16 := by omega
          have KH := Lib.hid (theld_any HT5.out)
          rw [HX6.out] at KH
          generalize Tb.held T' = H' at *
          have hle3 : (H' : Int) ≤ 192 * (n6 : Int) := by omega
          go_wp2_with fail
          refine KH.out.mono ?_
          rintro e W7 ⟨rfl, hb7⟩
          have hT7 := HT5.out.below hb7
          obtain ⟨k0, k1, k2, k3⟩ := out_block (row_stays HO5.out hb7)
          have HREL : Hid (TblOf W7 (fun q => w.heap.size ≤ q) b r' T' ∧ Below w.heap.size w W7) :=
            Lib.hid ⟨⟨m5, A6, n6, cp6, X6, hT7.mono fun q hq => hq.elim (fun h => h.1) (fun h => by omega), HX6.out⟩, HBW5.out.trans (hb7.mono HBW5.out.size)⟩
          have KL := Lib.hid (tlen_any hT7)
          have hq192 : (q5 : Int) ≤ 192 := by omega
          clear hb7 KH hT7 HT5 HBW5 HNS5 HW5 HO5 HX6
          go_wp2_with fail
          refine KL.out.mono ?_
          rintro e W9 ⟨rfl, rfl⟩
          clear KL
          cases wh <;> cases ev
          case' false.true =>
            have hnr : ((n1 : Int) != (r' : Int)) = false := by have := HEV.out rfl; simp [this]
          case' true.true =>
            have hnr : ((n1 : Int) != (r' : Int)) = false := by have := HEV.out rfl; simp [this]
          all_goals (
            clear HEV
            go_wp2
            go_roundw
            case rel => exact ⟨j + 1, by omega, by omega, by go_num, T', HREL⟩
            case measure => simp [intOf]; omega)
        · obtain ⟨hTT, ho⟩ := HERR.out er0
          simp only [Tb.Out.no, Tb.Out.mk.injEq] at ho
          obtain ⟨-, rfl, rfl, rfl⟩ := ho
          subst hTT
          have hnn : n6 = n1 := by
            rw [← hn1, ← HX6.out, List.length_map]
            exact HT5.out.len.symm
          subst hnn
          have hXs : X6.map Sx.s = X.map Sx.s := by rw [← nums_ms, ← nums_ms, HX6.out, HX.out]
          have her : (er != 0) = true := by simpa using er0
          have hle1 : (n6 : Int) ≤ (r' : Int) := by omega
          have hle2 : (n6 : Int) ≤ 16 := by omega
          have KH : Hid (∀ W, Below W5.heap.size W5 W → Calls Try.prog 19 #[.pointer (some ⟨b, 0, none⟩)] W fun e w' => e = .returned (.int .i64 (Tb.held T' : Int)) ∧ Below W.heap.size W w') := Lib.hid fun W hW => by
            have := theld_any (HT5.out.below hW)
            rw [HX6.out] at this
            exact this
          have HXS := Lib.hid hXs
          have HN5 := Lib.hid hs5
          clear HERR er0 HEV hXs
          generalize hH' : Tb.held T' = H' at *
          have hle3 : (H' : Int) ≤ 192 * (n6 : Int) := by omega
          go_wp2_with fail
          rw [HW5.out]
          refine (tlen_any HT5.out).mono ?_
          rintro e W9 ⟨rfl, rfl⟩
          rename World => W6
          go_wp2_with fail
          refine (KH.out _ (Below.refl _ _)).mono ?_
          rintro e W7 ⟨rfl, hb7⟩
          have hT7 := HT5.out.below hb7
          have KL := Lib.hid (tlen_any hT7)
          have KS7 := Lib.hid (tseqs_any hT7)
          have HB7 := Lib.hid hb7
          clear hb7 hT7
          go_wp2_with fail
          refine KL.out.mono ?_
          rintro e W9 ⟨rfl, rfl⟩
          clear KL
          go_wp2_with fail
          refine KS7.out.mono ?_
          rintro e W8 ⟨v8, rfl, hm8⟩
          obtain ⟨A8, c8, rfl, hc8, hnum8⟩ := hm8.slice
          have hlen8 : (X6.map Sx.s).length = n6 := by rw [HXS.out]; exact hlen2
          rw [hlen8] at hc8 ⊢
          rw [HXS.out] at hnum8
          have hb68 := HB7.out.trans (hm8.2.mono HB7.out.size)
          have hnum2 := (HNS5.out.keeps (KeepS.of_below hb68 fun k hk => by have := HN5.out; omega)).nums (B := W8.heap.size) fun k hk => by have := hb68.size; have := HN5.out; omega
          have KQ := Lib.hid (tseqsame_any A8 A2 n6 c8 c2 (X.map Sx.s) W8 W8.heap.size hlen2 (by omega) hnum8 hnum2)
          have HB68 := Lib.hid hb68
          clear hm8 hnum8 hnum2 hb68 KS7
          go_wp2_with fail
          refine KQ.out.mono ?_
          rintro e W9 ⟨rfl, d, rfl⟩
          have hb69 := below_drewN HB68.out d
          clear KQ HB68
          generalize W8.drewN d = W9 at *
          have KH9 := Lib.hid (KH.out _ hb69)
          have HB69 := Lib.hid hb69
          clear hb69 KH
          go_wp2_with fail
          refine KH9.out.mono ?_
          rintro e W10 ⟨rfl, hb10⟩
          have hb610 := HB69.out.trans (hb10.mono HB69.out.size)
          obtain ⟨k0, k1, k2, k3⟩ := out_block (row_stays HO5.out hb610)
          have HREL : Hid (TblOf W10 (fun q => w.heap.size ≤ q) b r' T' ∧ Below w.heap.size w W10) :=
            Lib.hid ⟨⟨m5, A6, n6, cp6, X6, (HT5.out.below hb610).mono fun q hq => hq.elim (fun h => h.1) (fun h => by omega), HX6.out⟩, HBW5.out.trans (hb610.mono HBW5.out.size)⟩
          clear hb10 hb610 HT5 HBW5 HNS5 HW5 HO5 HX6 HB69 HB7 KH9
          go_wp2
          go_roundw
          case rel => exact ⟨j + 1, by omega, by omega, by go_num, T', HREL⟩
          case measure => simp [intOf]; omega
      · have hj' : j = 100 := by omega
        have h100 : ¬ (j : Int) < 100 := by omega
        have hj1' : (j : Int) < (n : Int) := by omega
        clear hj'
        go_wp2_with fail
        refine (HKN.out _).mono ?_
        rintro e W9 ⟨rfl, hb9⟩
        have HFIN := Lib.hid (HTB.out.2.trans (hb9.mono HTB.out.2.size))
        clear hb9
        go_wp2
        go_ret
        exact ⟨rfl, HFIN.out⟩
    · have hj1' : ¬ (j : Int) < (n : Int) := by omega
      go_wp2_with fail
      refine (HKN.out _).mono ?_
      rintro e W9 ⟨rfl, hb9⟩
      have HFIN := Lib.hid (HTB.out.2.trans (hb9.mono HTB.out.2.size))
      clear hb9
      go_wp2
      go_ret
      exact ⟨rfl, HFIN.out⟩
end Go.Proofs.Ytloncplpjdekoaa

namespace Go.Proofs.Ytloncplpjdekoaa
section
variable {P : Program} {ops : Array Oper} {md : Region.Mode} {I : World → Prop}

/-- one operation, in a class of worlds -/
def Step4 (P : Program) (ops : Array Oper) (I : World → Prop) (o : Oper) (a : Act) (C : World → Prop) (K : (World → Prop) → Act → Prop) : Prop :=
  (kind3 o = 0 ∧ ∃ v, YieldsIn P ops (fun _ => True) o v a ∧ K C (a.put o.dst v)) ∨
  (kind3 o = 1 ∧ ∃ v, YieldsIn P ops I o v a ∧ K C (a.put o.dst v)) ∨
  (kind3 o = 2 ∧ ∃ v C', (∀ w, C' w → I w) ∧ StepsIn P ops C C' o v a ∧ K C' (a.put o.dst v)) ∨
  (kind3 o = 3 ∧ ((Region.wanted o (yielded ops a.tmps) = false ∧ K C (a.put o.dst undef)) ∨ (Region.wanted o (yielded ops a.tmps) = true ∧ ∃ (V : Value → Prop) (C' : Value → World → Prop), (∀ v w, C' v w → I w) ∧ (∀ w, C w → famUpon P V C' ((execOp a.eval o).run P w)) ∧ ∀ v, V v → K (C' v) (a.put o.dst v))))

def wpAny4 (P : Program) (md : Region.Mode) (ops : Array Oper) (I : World → Prop) (Q : (World → Prop) → Act → Prop) : Nat → Array Bool → (World → Prop) → Act → Prop
  | 0, listed, C, a => Region.ready md ops listed = [] ∧ Q C a
  | fuel + 1, listed, C, a =>
    (Region.ready md ops listed = [] → Q C a) ∧
    ∀ i ∈ Region.ready md ops listed, ∀ o, ops[i]? = some o → Step4 P ops I o a C (wpAny4 P md ops I Q fuel (listed.setIfInBounds i true))
theorem Step4.wpOp {C : World → Prop} {i : Nat} {o : Oper} {a : Act} {K : (World → Prop) → Act → Prop} {K' : Act → World → Prop} {Q' : Exit → Act → World → Prop} {w : World} (hi : ops[i]? = some o) (h : Step4 P ops I o a C K) (hC : C w) (hCI : ∀ w, C w → I w) (hK : ∀ (C' : World → Prop) a' w', C' w' → (∀ w, C' w → I w) → K C' a' → K' a' w') : wpOp P ops Q' i K' a w := by
  rcases h with ⟨hk, v, hy, hn⟩ | ⟨hk, v, hy, hn⟩ | ⟨hk, v, C', hI, hy, hn⟩ | ⟨hk, h⟩
  · exact OpR.wpOp (C := C) (C' := C) hi (.inl ⟨kind3_pure hk, rfl, hy⟩) hC fun w' hw' => hK C _ w' hw' hCI hn
  · have hk1 : kindOf o = 1 := by
      obtain ⟨t, x, ho⟩ := kind3_load hk
      simp [kindOf, pureOp, ho]
    exact OpR.wpOp (C := C) (C' := C) hi (.inr (.inl ⟨hk1, rfl, yields_load hk hy hCI⟩)) hC fun w' hw' => hK C _ w' hw' hCI hn
  · have hk2 : kindOf o = 2 := by
      unfold kind3 at hk
      unfold kindOf
      split at hk
      · simp at hk
      · rename_i hp
        rw [if_neg hp]
        split at hk
        · simp at hk
        · rename_i heq; simp [heq]
        · simp at hk
    exact OpR.wpOp (C := C) (C' := C') hi (.inr (.inr ⟨hk2, hy⟩)) hC fun w' hw' => hK C' _ w' hw' hI hn
  · unfold Go.wpOp
    simp only [hi]
    rcases h with ⟨hw, hn⟩ | ⟨hw, V, C', hI, hv, hn⟩
    · simp only [hw, Bool.false_eq_true, if_false]
      exact hK C _ w hC hCI hn
    · simp only [hw, if_true]
      left
      have h1 := hv w hC
      unfold Oper.wp
      generalize (execOp a.eval o).run P w = r at h1
      cases r with
      | ok n w' =>
        cases n <;> simp only [famUpon] at h1 <;> simp only [Oper.upon]
        case value u => exact hK (C' u) _ w' h1.2 (hI u) (hn u h1.1)
        case enter f args =>
          refine h1.mono fun e w'' ⟨v, he, hV, hc⟩ => ?_
          subst he
          exact hK (C' v) _ w'' hc (hI v) (hn v hV)
      | halt x w' => simp only [famUpon] at h1
theorem wpAny_of_4 {Q : (World → Prop) → Act → Prop} {Q' : Exit → Act → World → Prop} (hQ : ∀ (C : World → Prop) a w, C w → Q C a → Q' .normal a w) : ∀ (fuel : Nat) (listed : Array Bool) (C : World → Prop) (a : Act) (w : World), C w → (∀ w, C w → I w) →
    wpAny4 P md ops I Q fuel listed C a → wpAny P md ops Q' fuel listed a w
  | 0, _, _, _, _, hw, _, h => ⟨h.1, hQ _ _ _ hw h.2⟩
  | fuel + 1, _, _, _, _, hw, hI, h => ⟨fun h0 => hQ _ _ _ hw (h.1 h0), fun i hi => by
      obtain ⟨_, o, ho, _⟩ := mem_ready.1 hi
      exact (h.2 i hi o ho).wpOp ho hw hI fun C' a' w' hw' hI' hn => wpAny_of_4 hQ fuel _ C' a' w' hw' hI' hn⟩
/-- an operation apart: its step is the same whether another's value is in its slot or not -/
theorem Step4.put {oi oj : Oper} {v : Value} {a : Act} {C : World → Prop} {K1 K2 : (World → Prop) → Act → Prop} (hap : oi.apart ops oj = true) (hsj : ∀ cs b, oj.op ≠ .select cs b)
    (hK : ∀ (C' : World → Prop) u, K1 C' ((a.put oi.dst v).put oj.dst u) → K2 C' (a.put oj.dst u)) (h : Step4 P ops I oj (a.put oi.dst v) C K1) : Step4 P ops I oj a C K2 := by
  obtain ⟨p1, p2, p3⟩ := Oper.apart_spec hap
  have he := execOp_put oj hsj a oi.dst v p1
  have hw := wanted_put oj a oi.dst v p1
  rcases h with ⟨hk, u, hy, hn⟩ | ⟨hk, u, hy, hn⟩ | ⟨hk, u, C', hI, hy, hn⟩ | ⟨hk, h⟩
  · exact .inl ⟨hk, u, hy.of_same he.symm hw.symm, hK C u hn⟩
  · exact .inr (.inl ⟨hk, u, hy.of_same he.symm hw.symm, hK C u hn⟩)
  · refine .inr (.inr (.inl ⟨hk, u, C', hI, ?_, hK C' u hn⟩))
    unfold StepsIn at hy ⊢
    rwa [he, hw] at hy
  · refine .inr (.inr (.inr ⟨hk, ?_⟩))
    rcases h with ⟨hwf, hn⟩ | ⟨hwt, V, C', hsub, hv, hn⟩
    · exact .inl ⟨by rw [← hw]; exact hwf, hK C undef hn⟩
    · exact .inr ⟨by rw [← hw]; exact hwt, V, C', hsub, by rwa [he] at hv, fun u hu => hK (C' u) u (hn u hu)⟩
/-! as XQ3's, but a load is free of stores too: they stay in I -/
def free4 (md : Region.Mode) (ops : Array Oper) (listed : Array Bool) (k : Nat) : Bool :=
  let U := blocked md ops k
  U.getD k false && U.size == ops.size &&
  match ops[k]? with
  | none => false
  | some ok => (List.range ops.size).all fun j =>
    match ops[j]? with
    | some oj =>
      if U.getD j false then !listed.getD j false && (j == k || oj.after.any (fun e => Region.binds md e && U.getD e.on false))
      else listed.getD j true || (ok.apart ops oj && (kind3 ok == 0 || kind3 ok == 1))
    | none => true
structure Free4 (md : Region.Mode) (ops : Array Oper) (listed : Array Bool) (i : Nat) (oi : Oper) (U : Array Bool) : Prop where
  size : U.size = ops.size
  own : U.getD i false = true
  wait : ∀ j oj, ops[j]? = some oj → U.getD j false = true → j ≠ i → ∃ e ∈ oj.after, Region.binds md e = true ∧ U.getD e.on false = true
  un : ∀ j, U.getD j false = true → listed.getD j false = false
  free : ∀ j oj, ops[j]? = some oj → U.getD j false = false → listed.getD j true = false → oi.apart ops oj = true ∧ (kind3 oi = 0 ∨ kind3 oi = 1)
theorem free4_spec {i : Nat} {oi : Oper} {listed : Array Bool} (hi : ops[i]? = some oi) (h : free4 md ops listed i = true) : Free4 md ops listed i oi (blocked md ops i) := by
  simp only [free4, hi, List.all_eq_true, List.mem_range, Bool.and_eq_true, beq_iff_eq] at h
  obtain ⟨⟨hown, hsz⟩, h⟩ := h
  have at_ : ∀ j oj, ops[j]? = some oj → (if (blocked md ops i).getD j false = true then (!listed.getD j false && (j == i || oj.after.any (fun e => Region.binds md e && (blocked md ops i).getD e.on false))) = true
      else (listed.getD j true || (oi.apart ops oj && (kind3 oi == 0 || kind3 oi == 1))) = true) := fun j oj hj => by
    have h1 := h j (Array.getElem?_eq_some_iff.1 hj).1
    simp only [hj] at h1
    split at h1 <;> rename_i hu
    · rw [if_pos hu]; exact h1
    · rw [if_neg hu]; exact h1
  refine ⟨hsz, hown, fun j oj hj hu hne => ?_, fun j hu => ?_, fun j oj hj hu hun => ?_⟩
  · have h1 := at_ j oj hj
    rw [if_pos hu] at h1
    simp only [Bool.and_eq_true, Bool.or_eq_true, beq_iff_eq, hne, false_or] at h1
    obtain ⟨e, he, hb⟩ := Array.any_eq_true'.1 h1.2
    simp only [Bool.and_eq_true] at hb
    exact ⟨e, he, hb.1, hb.2⟩
  · have hlt : j < ops.size := by
      rw [← hsz]
      rcases Nat.lt_or_ge j (blocked md ops i).size with h' | h'
      · exact h'
      · simp [Array.getElem?_eq_none h'] at hu
    have h1 := at_ j _ (Array.getElem?_eq_getElem hlt)
    rw [if_pos hu] at h1
    simp only [Bool.and_eq_true, Bool.not_eq_true'] at h1
    exact h1.1
  · have h1 := at_ j oj hj
    rw [if_neg (by rw [hu]; exact Bool.false_ne_true)] at h1
    simp only [hun, Bool.or_eq_true, Bool.false_eq_true, false_or, Bool.and_eq_true, beq_iff_eq] at h1
    exact h1
theorem Free4.ready {i j : Nat} {oi oj : Oper} {listed U : Array Bool} (h : Free4 md ops listed i oi U) (hj : ops[j]? = some oj) (hji : j ≠ i) (hall : ∀ e ∈ oj.after, Region.binds md e = true → listed.getD e.on false = true) : U.getD j false = false := by
  cases hu : U.getD j false with
  | false => rfl
  | true =>
    obtain ⟨e, he, hb, hue⟩ := h.wait j oj hj hu hji
    have h1 := hall e he hb
    rw [h.un e.on hue] at h1
    cases h1
theorem Free4.set {i j : Nat} {oi : Oper} {listed U : Array Bool} (h : Free4 md ops listed i oi U) (hu : U.getD j false = false) : Free4 md ops (listed.setIfInBounds j true) i oi U := by
  refine ⟨h.size, h.own, h.wait, fun k hk => ?_, fun k ok hk hku hun => h.free k ok hk hku ?_⟩
  · have hne : j ≠ k := fun e => by subst e; rw [hu] at hk; cases hk
    rw [getD_set_ne false hne]; exact h.un k hk
  · by_cases hjk : j = k
    · subst hjk
      rcases Nat.lt_or_ge j listed.size with h' | h'
      · simp [h'] at hun
      · simp [Array.getElem?_eq_none (show (listed.setIfInBounds j true).size ≤ j by simpa using h')] at hun
    · rw [getD_set_ne true hjk] at hun; exact hun
/-- may the operations be walked in this order? -/
def orderB4 (md : Region.Mode) (ops : Array Oper) : List Nat → Array Bool → Bool
  | [], listed => (Region.ready md ops listed).isEmpty
  | k :: r, listed => (Region.ready md ops listed).contains k && free4 md ops listed k && orderB4 md ops r (listed.setIfInBounds k true)
def order4 (md : Region.Mode) (ops : Array Oper) (ks : List Nat) : Bool := Region.noSelect ops && ks.length == ops.size && orderB4 md ops ks (Array.replicate ops.size false)
theorem wpAny4_first {Q : (World → Prop) → Act → Prop} {i : Nat} {oi : Oper} (hi : ops[i]? = some oi) (hsel : ∀ (j : Nat) (o : Oper) cs b, ops[j]? = some o → o.op ≠ .select cs b) :
    ∀ (fuel : Nat) (listed : Array Bool) (C : World → Prop) (a : Act) (U : Array Bool), Free4 md ops listed i oi U → i ∈ Region.ready md ops listed →
      Step4 P ops I oi a C (wpAny4 P md ops I Q fuel (listed.setIfInBounds i true)) → wpAny4 P md ops I Q (fuel + 1) listed C a := by
  intro fuel
  induction fuel with
  | zero =>
    intro listed C a U hfree hr H
    refine ⟨fun h => (by rw [h] at hr; cases hr), fun j hj o ho => ?_⟩
    by_cases hji : j = i
    · subst hji
      have : o = oi := Option.some.inj (ho.symm.trans hi)
      subst this
      exact H
    · exfalso
      have hmono := ready_mono hj hji
      obtain ⟨hjun, oj', hoj', hall⟩ := mem_ready.1 hj
      have hju := hfree.ready hoj' hji hall
      obtain ⟨_, hkind⟩ := hfree.free j oj' hoj' hju hjun
      have nil : ∀ {C' : World → Prop} {a' : Act}, wpAny4 P md ops I Q 0 (listed.setIfInBounds i true) C' a' → False := fun h => by
        rw [h.1] at hmono; cases hmono
      rcases H with ⟨_, _, _, hn⟩ | ⟨_, _, _, hn⟩ | ⟨hk, _⟩ | ⟨hk, _⟩
      · exact nil hn
      · exact nil hn
      · rcases hkind with h | h <;> rw [hk] at h <;> simp at h
      · rcases hkind with h | h <;> rw [hk] at h <;> simp at h
  | succ fuel ih =>
    intro listed C a U hfree hr H
    refine ⟨fun h => (by rw [h] at hr; cases hr), fun j hj oj hoj => ?_⟩
    by_cases hji : j = i
    · subst hji
      have : oj = oi := Option.some.inj (hoj.symm.trans hi)
      subst this
      exact H
    · obtain ⟨hjun, oj', hoj', hall⟩ := mem_ready.1 hj
      have : oj' = oj := Option.some.inj (hoj'.symm.trans hoj)
      subst this
      have hju := hfree.ready hoj' hji hall
      obtain ⟨hap, hkind⟩ := hfree.free j oj' hoj hju hjun
      obtain ⟨p1, p2, p3⟩ := Oper.apart_spec hap
      have hsi : ∀ cs b, oi.op ≠ .select cs b := fun cs b => hsel i oi cs b hi
      have hsj : ∀ cs b, oj'.op ≠ .select cs b := fun cs b => hsel j oj' cs b hoj
      have hfree' := hfree.set hju
      have hr' := ready_mono hr (Ne.symm hji)
      have next : ∀ v, (kind3 oi = 0 ∧ YieldsIn P ops (fun _ => True) oi v a ∨ kind3 oi = 1 ∧ YieldsIn P ops I oi v a) → wpAny4 P md ops I Q (fuel + 1) (listed.setIfInBounds i true) C (a.put oi.dst v) → Step4 P ops I oj' a C (wpAny4 P md ops I Q (fuel + 1) (listed.setIfInBounds j true)) := by
        intro v hy hn
        refine Step4.put (v := v) hap hsj (fun C' u h3 => ih _ C' _ U hfree' hr' ?_) (hn.2 j (ready_mono hj hji) oj' hoj)
        have h4 : wpAny4 P md ops I Q fuel ((listed.setIfInBounds j true).setIfInBounds i true) C' ((a.put oj'.dst u).put oi.dst v) := by
          rw [Array.setIfInBounds_comm _ _ hji]
          rw [Act.put_comm a v u p2] at h3
          exact h3
        have hs1 := execOp_put oi hsi a oj'.dst u p3
        have hs2 := wanted_put oi a oj'.dst u p3
        rcases hy with ⟨hk, hy⟩ | ⟨hk, hy⟩
        · exact .inl ⟨hk, v, hy.of_same hs1 hs2, h4⟩
        · exact .inr (.inl ⟨hk, v, hy.of_same hs1 hs2, h4⟩)
      rcases H with ⟨hk, v, hy, hn⟩ | ⟨hk, v, hy, hn⟩ | ⟨hk, _⟩ | ⟨hk, _⟩
      · exact next v (.inl ⟨hk, hy⟩) hn
      · exact next v (.inr ⟨hk, hy⟩) hn
      · rcases hkind with h | h <;> rw [hk] at h <;> simp at h
      · rcases hkind with h | h <;> rw [hk] at h <;> simp at h

/-- the walk in that order -/
def wpO4 (P : Program) (ops : Array Oper) (I : World → Prop) (Q : (World → Prop) → Act → Prop) : List Nat → (World → Prop) → Act → Prop
  | [], C, a => Q C a
  | k :: r, C, a => ∃ o, ops[k]? = some o ∧ Step4 P ops I o a C (wpO4 P ops I Q r)
theorem Step4.mono {o : Oper} {a : Act} {C : World → Prop} {K K' : (World → Prop) → Act → Prop} (h : Step4 P ops I o a C K) (hK : ∀ C a, K C a → K' C a) : Step4 P ops I o a C K' := by
  rcases h with ⟨hk, v, hy, hn⟩ | ⟨hk, v, hy, hn⟩ | ⟨hk, v, C', hI, hy, hn⟩ | ⟨hk, h⟩
  · exact .inl ⟨hk, v, hy, hK _ _ hn⟩
  · exact .inr (.inl ⟨hk, v, hy, hK _ _ hn⟩)
  · exact .inr (.inr (.inl ⟨hk, v, C', hI, hy, hK _ _ hn⟩))
  · refine .inr (.inr (.inr ⟨hk, ?_⟩))
    rcases h with ⟨hw, hn⟩ | ⟨hw, V, C', hs, hv, hn⟩
    · exact .inl ⟨hw, hK _ _ hn⟩
    · exact .inr ⟨hw, V, C', hs, hv, fun v hV => hK _ _ (hn v hV)⟩
theorem wpAny4_order {Q : (World → Prop) → Act → Prop} (hs : Region.noSelect ops = true) : ∀ (ks : List Nat) (listed : Array Bool) (C : World → Prop) (a : Act),
    orderB4 md ops ks listed = true → wpO4 P ops I Q ks C a → wpAny4 P md ops I Q ks.length listed C a
  | [], _, _, _, hB, h => ⟨by simpa [orderB4] using hB, h⟩
  | k :: r, listed, C, a, hB, h => by
    obtain ⟨o, ho, h⟩ := h
    simp only [orderB4, Bool.and_eq_true] at hB
    obtain ⟨⟨hr, hf⟩, hB'⟩ := hB
    exact wpAny4_first ho (Region.noSelect_spec hs) r.length listed C a _ (free4_spec ho hf) (by simpa using hr) (h.mono fun C' a' hn => wpAny4_order hs r _ C' a' hB' hn)
theorem wp_region_order4 {id : Nat} {Q : Exit → Act → World → Prop} {a : Act} {w : World} {l : List Oper} (ks : List Nat) (I : World → Prop) {C : World → Prop} (hm : P.follows .mixedOrders = true) (hB : order4 .any l.toArray ks = true) (hC : C w.drew) (hI : ∀ w, C w → I w)
    (h : wpO4 P l.toArray I (fun C a' => ∀ w', C w' → Q .normal a' w') ks C a) : (Code.region id l.toArray true).wp P Q a w := by
  simp only [order4, Bool.and_eq_true, beq_iff_eq] at hB
  refine wp_region_any hm (wpAny_of_4 (I := I) (Q := fun C a' => ∀ w', C w' → Q .normal a' w') (fun C a w' hw' h => h w' hw') _ _ C _ _ hC hI ?_)
  have := wpAny4_order (md := .any) hB.1.1 ks (Array.replicate l.toArray.size false) C a hB.2 h
  rwa [hB.1.2] at this
end
/-! one operation of the walk -/
section
variable {P : Program} {I : World → Prop} {l : List Oper} {Q : (World → Prop) → Act → Prop} {o : Oper} {k : Nat} {r : List Nat} {C : World → Prop} {a : Act}
theorem wpO4_pure (ho : l[k]? = some o) (hk : kind3 o = 0) (h : wpQuiet P l.toArray (fun _ => True) (fun a' => wpO4 P l.toArray I Q r C a') [o] a) : wpO4 P l.toArray I Q (k :: r) C a :=
  ⟨o, at_list ho, .inl ⟨hk, yields_of_quiet h⟩⟩
theorem wpO4_load {t : TypeId} {x : Operand} {ad : Addr} (v : Value) (ho : l[k]? = some o) (hop : o.op = .load t x) (hw : Region.wanted o (yielded l.toArray a.tmps) = true) (hx : a.eval x = .pointer (some ad))
    (hrun : ∀ w, I w → (Instr.loadAt t (.pointer (some ad))).run P w = .ok v w) (h : wpO4 P l.toArray I Q r C (a.put o.dst v)) : wpO4 P l.toArray I Q (k :: r) C a := by
  refine ⟨o, at_list ho, .inr (.inl ⟨by simp [kind3, pureOp, hop], v, .inl ⟨hw, fun w hC => ?_⟩, h⟩)⟩
  unfold Oper.quietAt execOp
  simp only [hop, hx]
  rw [Sem.run_bind, hrun w hC]
  exact ⟨rfl, rfl⟩
theorem wpO4_call (V : Value → Prop) (C' : Value → World → Prop) {f : FuncId} {args : Array Value} (ho : l[k]? = some o) (hk : kind3 o = 3) (hw : Region.wanted o (yielded l.toArray a.tmps) = true) (hsub : ∀ v w, C' v w → I w)
    (hrun : ∀ w, (execOp a.eval o).run P w = .ok (.enter f args) w) (hc : ∀ w, C w → Calls P f args w fun e w'' => ∃ v, e = .returned v ∧ V v ∧ C' v w'') (h : ∀ v, V v → wpO4 P l.toArray I Q r (C' v) (a.put o.dst v)) : wpO4 P l.toArray I Q (k :: r) C a :=
  ⟨o, at_list ho, .inr (.inr (.inr ⟨hk, .inr ⟨hw, V, C', hsub, fun w hC => by rw [hrun w]; exact hc w hC, h⟩⟩))⟩
theorem wpO4_skip (ho : l[k]? = some o) (hk : kind3 o = 3) (hw : Region.wanted o (yielded l.toArray a.tmps) = false) (h : wpO4 P l.toArray I Q r C (a.put o.dst undef)) : wpO4 P l.toArray I Q (k :: r) C a :=
  ⟨o, at_list ho, .inr (.inr (.inr ⟨hk, .inl ⟨hw, h⟩⟩))⟩
theorem wpO4_store (C' : World → Prop) {t : TypeId} {x y : Operand} (ho : l[k]? = some o) (hop : o.op = .store t x y) (hd : o.dst = none) (hg : o.guard = none) (ad : Addr) (v : Value) (hx : a.eval x = .pointer (some ad)) (hy : a.eval y = v) (hsub : ∀ w, C' w → I w)
    (hrun : ∀ w, C w → ∃ w', (Instr.storeAt t (.pointer (some ad)) v).run P w = .ok () w' ∧ C' w') (h : wpO4 P l.toArray I Q r C' a) : wpO4 P l.toArray I Q (k :: r) C a := by
  refine ⟨o, at_list ho, .inr (.inr (.inl ⟨by simp [kind3, pureOp, hop], undef, C', hsub, .inl ⟨by simp [Region.wanted, hg], fun w hw => ?_⟩, ?_⟩))⟩
  · obtain ⟨w', hr, hc⟩ := hrun w hw
    unfold execOp
    simp only [hop, hx, hy]
    rw [Sem.run_bind, hr]
    exact ⟨rfl, hc⟩
  · rw [hd]; exact h
end
end Go.Proofs.Ytloncplpjdekoaa
