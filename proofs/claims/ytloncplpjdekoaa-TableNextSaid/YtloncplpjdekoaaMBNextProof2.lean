/-
  Whatever messages of numbers ahead a table has, one of a later number whose frames come in order is whole behind its last frame
-/
import Derived.Laws.MakeOwn
import Derived.Test.YtloncplpjdekoaaRows
import Derived.Below
import Derived.WalkKit
import Derived.ProofKit
import Derived.OpenShut
import Derived.ShutString
import Derived.ChangeOld
import Derived.Test.YtloncplpjdekoaaMBNextProof1
namespace Go.Proofs.Ytloncplpjdekoaa
open Go.RowKit Go.Shelf
set_option maxRecDepth 100000
attribute [local go_sem] Oper.semAt_some

theorem fzInfo : (Try.prog.info? 36).map (fun i => (i.zero, i.size, i.bytes)) = some (some (.agg #[.int .i64 0, .int .i64 0, .int .u32 0, .int .i64 0, .int .i64 0, .slice none 0 0]), 6, 64) := by kernel_rfl
theorem own_slC {W : World} {base e size n : Nat} {v : Value} {xs : List Value} (h : W.ownsRow base e size v n xs) : ∃ A c, v = .slice A n c ∧ n ≤ c := by
  rcases h.2 with ⟨rfl, rfl⟩ | ⟨g, cap, cur, rfl, _, _, hle, _⟩
  · exact ⟨none, 0, rfl, Nat.le_refl _⟩
  · exact ⟨_, cap, rfl, hle⟩
theorem cells_newC {W : World} {cs : List Value} (t : TypeId) (j : Nat) (u : Value) (h : cs[j]? = some u) : (W.alloc (.cells cs.toArray t)).cell? ((⟨W.heap.size, 0, none⟩ : Addr).add j) = some u := by
  rw [Addr.add_lit, Nat.zero_add, World.cell?_alloc_at _ _ _ _ rfl]
  simpa using h
theorem make_frames (n : Nat) (hn : n ≤ 1000000) : ∃ cs : Array Value, cs.size = n * 6 ∧ ∀ W, (Instr.makeSlice 57 (.int .i64 0) (.int .i64 (n : Int))).run Try.prog W = .ok (.slice (some ⟨W.heap.size, 0, none⟩) 0 n) (W.alloc (.cells cs 36)) := by
  obtain ⟨j0, hj, hj0, hj1, hj2⟩ := info_parts fzInfo
  refine ⟨madeCells (Value.agg #[.int .i64 0, .int .i64 0, .int .u32 0, .int .i64 0, .int .i64 0, .slice none 0 0]).cells (n * j0.size), by rw [size_madeCells, hj1], fun W => ?_⟩
  have h := run_make (P := Try.prog) W 57 36 j0 _ Try.underlying57 hj hj0 .i64 .i64 0 (n : Int) (by omega) (by omega) (by rw [hj2]; omega) (by omega)
  simpa using h

/-- what Frames leaves, and where: the payloads lie in rows of bytes, the frames in a row that the call made -/
def FramesG (w : World) (v k s : Int) (zs : List Int) (room : Int) (e : Ending) (w' : World) : Prop :=
  Below w.heap.size w w' ∧ ((Ct.fErr v k zs.length room ≠ 0 ∧ e = .returned (.tuple #[.slice none 0 0, .int .i64 (Ct.fErr v k zs.length room)])) ∨
    (Ct.fErr v k zs.length room = 0 ∧ ∃ A c fs, e = .returned (.tuple #[.slice A fs.length c, .int .i64 0]) ∧ fs.length ≤ c ∧ Ct.Cut v k s zs room.toNat fs ∧ FrsAt w' w'.heap.size A fs ∧ PayIn w' fs ∧ ∀ g off, A = some ⟨g, off, none⟩ → w.heap.size ≤ g))
theorem FramesG.all {w w' : World} {v k s room : Int} {zs : List Int} {e : Ending} (h : FramesG w v k s zs room e w') : FramesR w v k s zs room e w' :=
  ⟨h.1, h.2.imp id fun ⟨hE, A, c, fs, he, hc, hcut, hat, _⟩ => ⟨hE, A, c, fs, he, hc, hcut, hat⟩⟩
theorem FramesG.bad {w w' : World} {v k s room : Int} {zs : List Int} {e : Ending} (h : FramesR w v k s zs room e w') (h0 : Ct.fErr v k zs.length room ≠ 0) : FramesG w v k s zs room e w' :=
  ⟨h.1, h.2.imp id fun ⟨hE, _⟩ => absurd hE h0⟩
theorem FramesG.good {w W : World} {v k s room : Int} {zs : List Int} {base t : TypeId} {u : Value} {fs : List Fr} {m : Nat} (hE : Ct.fErr v k zs.length room = 0) (hm : Ct.cnt zs.length room.toNat = m) (hl : fs.length = m) (hg : CutGo v k s zs room.toNat m fs)
    (hat : ∀ f ∈ fs, f.At W W.heap.size) (hrow : W.ownsRow base t 6 u fs.length (flatF fs)) (hb : Below w.heap.size w W) (hpay : PayIn W fs) (hbs : w.heap.size ≤ base) : FramesG w v k s zs room (.returned (.tuple #[u, .int .i64 0])) W := by
  obtain ⟨A, c, rfl, hc, hf⟩ := own_frs hrow hat
  refine ⟨hb, .inr ⟨hE, A, c, fs, rfl, hc, ⟨by rw [hm]; exact hl, by rw [hm]; exact hg⟩, hf, hpay, fun g off hA => ?_⟩⟩
  subst hA
  have := (hrow.lt g rfl).1
  omega

set_option maxHeartbeats 8000000 in
theorem frames_cut (v k s i c : Int) (hs : 0 ≤ s ∧ s ≤ 4294967295) (a : Option Addr) (n cp r : Nat) (zs : List Int) (w : World) (hn : zs.length = n) (h0 : 1 ≤ n) (hn2 : n ≤ 192) (hr1 : 1 ≤ r) (hr2 : r ≤ 242) (hz : Bytes zs) (h1 : Nums .u8 w w.heap.size a zs) (hE : chk v k 0 (Ct.cnt n r : Int) = 0) :
    Calls Try.prog 22 #[hdV v k s i c, .slice a n cp, .int .i64 (r : Int)] w (FramesG w v k s zs (r : Int)) := by
  obtain ⟨z0, hf, hz0, hz1, hz2⟩ := info_parts fzInfo
  obtain ⟨m, hm⟩ : ∃ m, Ct.cnt n r = m := ⟨_, rfl⟩
  rw [hm] at hE
  have hm1 : 1 ≤ m := by rw [← hm]; exact Ct.cnt_pos hr1 h0
  have hmn : m ≤ n := by rw [← hm]; exact Ct.cnt_le hr1
  have hfe : Ct.fErr v k zs.length (r : Int) = 0 := by unfold Ct.fErr; rw [if_neg (by omega), if_neg (by omega), if_neg (by omega), Int.toNat_natCast, hn, hm]; exact hE
  have HGood := Lib.hid (fun (W : World) (base t : Nat) (u : Value) (fs : List Fr) => FramesG.good (w := w) (W := W) (v := v) (k := k) (s := s) (room := (r : Int)) (zs := zs) (base := base) (t := t) (u := u) (fs := fs) (m := m) hfe (by rw [Int.toNat_natCast, hn, hm]))
  rw [Int.toNat_natCast] at HGood
  have KN : ∀ W, Calls Try.prog 47 #[.int .i64 (n : Int), .int .i64 (r : Int)] W fun e w' => e = .returned (.int .i64 (m : Int)) ∧ w' = W := fun W => by
    have h := ccount_any n (r : Int) (by omega) (by omega) W
    have e1 : cntZ n (r : Int) = (m : Int) := by unfold cntZ; rw [if_neg (by omega), if_neg (by omega), Int.toNat_natCast, hm]
    rwa [e1] at h
  have KC := fun W => check_any v k s 0 (m : Int) W
  rw [hE] at KC
  unfold hdV at KC
  obtain ⟨cs0, hcs, hmk⟩ := make_frames m (by omega)
  have h2 : ¬ (n : Int) = 0 := by omega
  have h3 : ¬ 192 < (n : Int) := by omega
  have h4 : ¬ (r : Int) < 1 := by omega
  have h5 : ¬ 242 < (r : Int) := by omega
  have HM := Lib.hid hm
  have HN := Lib.hid hn
  have HZ := Lib.hid hz
  have H1 := Lib.hid h1
  have HCS := Lib.hid hcs
  clear hfe hm hE hz h1 hcs
  generalize FramesG w v k s zs (r : Int) = G at *
  unfold hdV
  refine (callsIn_wide (n := 3)).1 ?_
  refine callsIn_of_wp_marks Try.func22 rfl trivial ?_ rfl
  simp only [Try.ntmps22, List.size_toArray, List.length_cons, List.length_nil, Nat.reduceAdd, Nat.reduceSub, Array.replicate_succ, Array.replicate_zero, List.push_toArray, List.append_toArray, List.nil_append, List.cons_append]
  gi_wp2_with fail
  refine ⟨trivial, ?_⟩
  refine (callsIn_wide.2 (KN _)).mono ?_
  rintro e w1 ⟨rfl, rfl⟩
  gi_wp2_with fail
  refine ⟨trivial, ?_⟩
  refine (callsIn_wide.2 (KC _)).mono ?_
  rintro e w2 ⟨rfl, hb⟩
  obtain ⟨d0, d1, d2, d3, d4⟩ := hd_cells hb
  have hh2 : w2.heap[w.heap.size]? = some (.cells #[.int .i64 v, .int .i64 k, .int .u32 s, .int .i64 0, .int .i64 (m : Int)] 33 (0, 0)) := (hb.block _ (by simp)).trans (World.alloc_heap_new _ _)
  rw [World.size_alloc] at hb
  have hb2 : Below w.heap.size w w2 := ((Below.refl _ w).alloc (Nat.le_refl _) _).trans (hb.mono (by omega))
  have hs2 : w.heap.size + 1 ≤ w2.heap.size := by have := hb.size; rwa [World.size_alloc] at this
  have HH2 := Lib.hid hh2
  have HB2 := Lib.hid hb2
  clear hb hh2 hb2
  gi_wp2_with fail
  refine ⟨trivial, ?_⟩
  obtain ⟨w3, hw3⟩ : ∃ w3, (w2.alloc (.cells cs0 36)).alloc (.cells #[.slice (some ⟨w2.heap.size, 0, none⟩) 0 m] 57) = w3 := ⟨_, rfl⟩
  have hs3 : w3.heap.size = w2.heap.size + 2 := by rw [← hw3]; simp
  have hb23 : Below w2.heap.size w2 w3 := by rw [← hw3]; exact ((Below.refl _ w2).alloc (Nat.le_refl _) _).alloc (by simp) _
  have hbl3 : Boxed w3 (w2.heap.size + 1) 57 (.slice (some ⟨w2.heap.size, 0, none⟩) 0 m) := by
    rw [← hw3]
    have := Boxed.new (w2.alloc (.cells cs0 36)) 57 (.slice (some ⟨w2.heap.size, 0, none⟩) 0 m)
    rwa [World.size_alloc] at this
  have hrow3 : w3.ownsRow w2.heap.size 36 6 (.slice (some ⟨w2.heap.size, 0, none⟩) 0 m) 0 [] := by
    rw [← hw3]
    exact (World.ownsRow_made w2 cs0 m (Nat.le_refl _) (by unfold maxLen; omega) HCS.out).alloc _
  have hh3 := (hb23.block _ (by omega)).trans HH2.out
  have hb3 := HB2.out.trans (hb23.mono HB2.out.size)
  have KP := cparts_any a n cp r zs w3 HN.out (by omega) hr1 ((H1.out.below hb3).mono hb3.size)
  rw [hw3]
  refine (callsIn_wide.2 KP).mono ?_
  rintro e w4 ⟨Bo, Br, A1, k1, rfl, HP⟩
  have hb34 := HP.below
  have hs4 := hb34.size
  have hF0 : Fq w.heap.size (w2.heap.size + 1) w2.heap.size v k s zs r m w w4 0 w4 := ⟨⟨_, [], (hb34.block _ (by omega)).trans hbl3, own_below6 hrow3 hb34, rfl, fun j f hf => by simp at hf, fun f hf => by simp at hf⟩, ⟨0, (hb34.block _ (by omega)).trans hh3⟩, KpT.refl _, hb3.trans (hb34.mono hb3.size)⟩
  have HF0 := Lib.hid hF0
  have hws : w.heap.size ≤ w4.heap.size := by omega
  clear KP KN KC hw3 hbl3 hrow3 hh3 hb3 hb23 hmk d0 d1 d2 d3 d4 hb34 hF0 HH2
  gi_wp2_with fail
  refine range_stops rfl (by omega) (gf := 67) (lb := #[.pointer (some ⟨Bo, 0, none⟩), .pointer (some ⟨Br, 0, none⟩)]) rfl trivial (enters_of Try.func67 (by kernel_rfl) rfl)
    (fun x : Nat × Option Addr × List Int => #[Value.int .i64 (x.1 : Int), Value.slice x.2.1 x.2.2.length x.2.2.length]) (fun _ => rfl)
    (fun j x V => Fq w.heap.size (w2.heap.size + 1) w2.heap.size v k s zs r m w w4 j V ∧ x.1 = j ∧ x.2.2 = Ct.part zs r j ∧ InRow V x.2.1 x.2.2)
    (fun j V => Fq w.heap.size (w2.heap.size + 1) w2.heap.size v k s zs r m w w4 j V) (fun _ _ => False) KpT m
    (fun j x V l o o' h hl ho hc' => ⟨h.1.putObj (by omega) ho hc', h.2.1, h.2.2.1, h.2.2.2.keeps (KpT.putObj ho hc')⟩)
    (fun j V l o o' h hl ho hc' => h.putObj (by omega) ho hc')
    (fun _ _ _ _ _ h _ _ _ => h)
    (fun _ _ _ h k => h.trans k) (fun V l o o' hl ho hc' => KpT.putObj ho hc')
    (fun o => HF0.out.later (((Below.refl w4.heap.size w4).alloc (Nat.le_refl _) _).alloc (by simp) _))
    ?a1 ?assign ?body ?iter ?done ?stop
  case assign =>
    intro l x V K hK
    gi_wp2
    exact hK
  case body =>
    rintro l j ⟨xi, xa, xz⟩ V hl ⟨hFq, hxi, hxz, hin⟩ hj
    simp only at hxi hxz hin
    subst hxi
    obtain ⟨u, fs, h1, h2, h3, h4, h5⟩ := hFq.list
    obtain ⟨i0, hh⟩ := hFq.head
    obtain ⟨e0, e1, e2, e3, e4⟩ := hd_block hh
    have HPU : Hid (∀ (V4 : World) (u' : Value), V4.ownsRow w2.heap.size 36 6 u' (fs.length + 1) (flatF fs ++ [.int .i64 v, .int .i64 k, .int .u32 s, .int .i64 (xi : Int), .int .i64 (m : Int), .slice xa xz.length xz.length]) →
        ((V.setCell ⟨w.heap.size, 3, none⟩ (.int .i64 (xi : Int))).alloc (.cells #[.int .i64 v, .int .i64 k, .int .u32 s, .int .i64 (xi : Int), .int .i64 (m : Int), .slice xa xz.length xz.length] 36)).grownBy V4 u.ownBlock → _) := fun V4 u' hown hg =>
      Fq.push (s0 := w4.heap.size) (w := w) (w4 := w4) (by omega) (Nat.le_refl _) (by omega) rfl (by omega) h1 h2 h3 h4 h5 hh hFq.keep hFq.below hxz (Nat.le_refl _) hin hown hg
    have hh1 := setCell_at (j := 3) (u := .int .i64 (xi : Int)) hh
    simp only [List.setIfInBounds_toArray, List.set_cons_succ, List.set_cons_zero] at hh1
    obtain ⟨p0, p1, p2, p3, p4⟩ := hd_block hh1
    have fH : V.frozen? ⟨w.heap.size, 3, none⟩ = false := by simp [World.frozen?, hh]
    obtain ⟨Av, cv, rfl, hcv⟩ := own_slC h2
    have hL1 : Boxed (V.setCell ⟨w.heap.size, 3, none⟩ (.int .i64 (xi : Int))) (w2.heap.size + 1) 57 (.slice Av fs.length cv) := (Below.heap_setCell V ⟨w.heap.size, 3, none⟩ _ _ (by simp only; omega)).trans h1
    have kL1 := hL1.cell
    have hrow1 : (V.setCell ⟨w.heap.size, 3, none⟩ (.int .i64 (xi : Int))).ownsRow w2.heap.size 36 6 (.slice Av fs.length cv) fs.length (flatF fs) := ⟨h2.1, h2.2.imp id fun ⟨g, cap, cur, hv, hge, hh', r'⟩ => ⟨g, cap, cur, hv, hge, (Below.heap_setCell V ⟨w.heap.size, 3, none⟩ _ g (by simp only; omega)).trans hh', r'⟩⟩
    have hsz1 : (V.setCell ⟨w.heap.size, 3, none⟩ (.int .i64 (xi : Int))).heap.size = V.heap.size := by simp [World.setCell]
    have HROW := Lib.hid (hrow1.alloc (.cells #[.int .i64 v, .int .i64 k, .int .u32 s, .int .i64 (xi : Int), .int .i64 (m : Int), .slice xa xz.length xz.length] 36))
    have hVl := h1.lt
    have hX1 : fs.length + 1 ≤ maxLen := by unfold maxLen; omega
    have hX2 : (fs.length + 1) * 64 ≤ 140737488355328 := by omega
    have HX1 := Lib.hid hX1
    have HX2 := Lib.hid hX2
    have HX3 : Hid (w2.heap.size ≤ ((V.setCell ⟨w.heap.size, 3, none⟩ (.int .i64 (xi : Int))).alloc (.cells #[.int .i64 v, .int .i64 k, .int .u32 s, .int .i64 (xi : Int), .int .i64 (m : Int), .slice xa xz.length xz.length] 36)).heap.size) := by show _ ≤ _; rw [World.size_alloc, hsz1]; omega
    have HNW : Hid (∀ (q : Nat) (x : Value), [Value.int .i64 v, .int .i64 k, .int .u32 s, .int .i64 (xi : Int), .int .i64 (m : Int), .slice xa xz.length xz.length][q]? = some x → ((V.setCell ⟨w.heap.size, 3, none⟩ (.int .i64 (xi : Int))).alloc (.cells #[.int .i64 v, .int .i64 k, .int .u32 s, .int .i64 (xi : Int), .int .i64 (m : Int), .slice xa xz.length xz.length] 36)).cell? ((⟨V.heap.size, 0, none⟩ : Addr).add q) = some x) := fun q x hq => by
      have := cells_newC (W := V.setCell ⟨w.heap.size, 3, none⟩ (.int .i64 (xi : Int))) 36 q x hq
      rwa [hsz1] at this
    have HS1 := Lib.hid hsz1
    have HL3 := Lib.hid h3
    clear hFq hin h1 h2 h3 h4 h5 hh hh1 hL1 hrow1 hsz1 hcv hX1 hX2 hxz
    gi_wp2_with (gi_at_builtin; refine wpListIn_append_own_at rfl (.tmp 46) (.tmp 50) 57 rfl w2.heap.size 36 z0 _ 6 64 Try.underlying57 hf hz0 hz1 hz2 rfl (by decide) _ fs.length (flatF fs) rfl HROW.out ⟨V.heap.size, 0, none⟩ 1 1 [Value.int .i64 v, .int .i64 k, .int .u32 s, .int .i64 (xi : Int), .int .i64 (m : Int), .slice xa xz.length xz.length] rfl rfl HNW.out (by simp [Value.oneCell']) HX1.out HX2.out HX3.out ?_)
    intro u' V4 hown hg _
    obtain ⟨b4, f1, f2, f3⟩ := HPU.out V4 u' hown hg
    obtain ⟨A4, c4, rfl, hc4⟩ := own_slC hown
    have kB4 := b4.cell
    have fB4 := b4.frozen
    have hL3 := HL3.out
    have HF := Lib.hid (And.intro f2 (And.intro f1 f3))
    clear HPU f1 f2 f3 b4 hown hg hL3
    gi_wp2_with fail
    exact HF.out
  case iter =>
    intro Bk X l V hBk hBlt hX hl2 hD hB hY
    have hbo := hD.keep.same _ _ _ (.inr (.inr rfl)) HP.boxO
    have hbr : Boxed V Br 3 (.int .i64 (r : Int)) := hD.keep.same _ _ _ (.inr (.inl rfl)) HP.boxR
    have hbo' : Boxed V Bo 34 (.slice A1 n k1) := hbo
    refine (cparts_in 2 (by omega) 1 l Bo Br n k1 r w4.heap.size A1 zs HN.out h0 (by omega) hr1 (by omega) (fun j V => Fq w.heap.size (w2.heap.size + 1) w2.heap.size v k s zs r m w w4 j V) Bk X KpT
      (fun A B hA hAB => ?_) hBk hBlt (fun A B h => h) (fun j A' W1 hj hjm hin hb => ?_) V hbo'.cell hbr ((HP.nums.keeps hD.keep).nums) hD hB).mono ?_
    · exact hA.later hAB
    · rw [HM.out] at hjm
      exact hY j (j, A', Ct.part zs r j) W1 ⟨hj, rfl, rfl, hin⟩ hb hjm
    · rintro e V2 ⟨hv, h⟩
      rw [HM.out] at h
      exact ⟨hv, h⟩
  case done =>
    rintro D V hD hFq hK
    obtain ⟨u, fs, h1, h2, h3, h4, h5⟩ := hFq.list
    have kL := h1.cell
    have hFq2 := hFq.putObj (o' := .deferred none) (by omega : w.heap.size ≤ D) hK rfl
    have HFin : Hid (G (Ending.returned (.tuple #[u, .int .i64 0])) (V.putObj D (.deferred none))) := HGood.out _ w2.heap.size 36 u fs h3 h4 (fun f hf => by
      obtain ⟨q1, q2⟩ := h5 f hf
      obtain ⟨j, hj⟩ := List.mem_iff_getElem?.1 hf
      obtain ⟨_, _, e3, _, _, e6⟩ := h4 j f hj
      have hle := Ct.part_len zs r j
      rw [← e6] at hle
      exact ⟨by rw [e3]; exact hs.1, by rw [e3]; exact hs.2, q1, by omega, fun z hz => by
        rw [e6] at hz
        exact HZ.out z (Ct.part_mem hz), (q2.keeps (KpT.putObj hK rfl)).nums⟩) (ownsRow_putObj h2 _ hK rfl) hFq2.below (h5.keeps (KpT.putObj hK rfl)) (by omega)
    clear hFq hFq2 h1 h2 h3 h4 h5
    gi_wp2
    refine ⟨by simp, .inl ⟨_, _, rfl, run_takeDeferred hK, ?_⟩⟩
    refine ⟨_, results_tmp2 rfl _ _ _, ?_⟩
    exact HFin.out
  case stop =>
    rintro D cd W' _ h _
    exact h.elim

/-- Frames, of any head, body and room -/
theorem frames_any12G (v k s i c : Int) (hs : 0 ≤ s ∧ s ≤ 4294967295) (a : Option Addr) (n cp : Nat) (room : Int) (zs : List Int) (w : World) (hn : zs.length = n) (hz : Bytes zs) (h1 : Nums .u8 w w.heap.size a zs) :
    Calls Try.prog 22 #[hdV v k s i c, .slice a n cp, .int .i64 room] w (FramesG w v k s zs room) := by
  by_cases h0 : n = 0
  · subst h0
    obtain rfl : zs = [] := List.eq_nil_of_length_eq_zero hn
    exact (frames_short v k s i c a cp room w).mono fun e w' h => .bad h (by simp [Ct.fErr])
  · by_cases h2 : 192 < n
    · exact (frames_long v k s i c a n cp zs room w hn h2).mono fun e w' h => .bad h (by unfold Ct.fErr; rw [if_neg (by omega), if_pos (by omega)]; omega)
    · by_cases h3 : room < 1 ∨ 242 < room
      · exact (frames_range v k s i c a n cp zs room w hn (by omega) (by omega) h3).mono fun e w' h => .bad h (by unfold Ct.fErr; rw [if_neg (by omega), if_neg (by omega), if_pos h3]; omega)
      · obtain ⟨r, rfl⟩ := Int.eq_ofNat_of_zero_le (a := room) (by omega)
        by_cases h4 : chk v k 0 (Ct.cnt n r : Int) = 0
        · exact frames_cut v k s i c hs a n cp r zs w hn (by omega) (by omega) (by omega) (by omega) hz h1 h4
        · exact (frames_chk v k s i c a n cp r zs w hn (by omega) (by omega) (by omega) (by omega) h4).mono fun e w' h => .bad h (by unfold Ct.fErr; rw [if_neg (by omega), if_neg (by omega), if_neg h3, Int.toNat_natCast, hn]; exact h4)
theorem frames_any12 (v k s i c : Int) (hs : 0 ≤ s ∧ s ≤ 4294967295) (a : Option Addr) (n cp : Nat) (room : Int) (zs : List Int) (w : World) (hn : zs.length = n) (hz : Bytes zs) (h1 : Nums .u8 w w.heap.size a zs) :
    Calls Try.prog 22 #[hdV v k s i c, .slice a n cp, .int .i64 room] w (FramesR w v k s zs room) :=
  (frames_any12G v k s i c hs a n cp room zs w hn hz h1).mono fun _ _ h => h.all
end Go.Proofs.Ytloncplpjdekoaa

namespace Go.Proofs.Ytloncplpjdekoaa
open Go.RowKit Go.Shelf
set_option maxRecDepth 100000
attribute [local go_sem] Oper.semAt_some

theorem room_of13 (x : Int) : ∃ r : Nat, wrap64 (1 + wrap64 ((IntKind.u64.wrap x).tmod 242)) = (r : Int) ∧ 1 ≤ r ∧ r ≤ 242 := by
  have h0 : 0 ≤ IntKind.u64.wrap x := by rw [IntKind.wrap_u64]; omega
  have h1 := Int.tmod_nonneg 242 h0
  have h2 := Int.tmod_lt_of_pos (IntKind.u64.wrap x) (show (0 : Int) < 242 by omega)
  refine ⟨(1 + (IntKind.u64.wrap x).tmod 242).toNat, ?_, by omega, by omega⟩
  unfold wrap64; omega
theorem box_load13 {w W : World} {v k s i c : Int} {t : TypeId} (hb : Below (w.alloc (.cells #[.int .i64 v, .int .i64 k, .int .u32 s, .int .i64 i, .int .i64 c] t)).heap.size (w.alloc (.cells #[.int .i64 v, .int .i64 k, .int .u32 s, .int .i64 i, .int .i64 c] t)) W) :
    W.cell? ⟨w.heap.size, 0, none⟩ = some (.int .i64 v) ∧ W.cell? ⟨w.heap.size, 1, none⟩ = some (.int .i64 k) ∧ W.cell? ⟨w.heap.size, 2, none⟩ = some (.int .u32 s) ∧ W.cell? ⟨w.heap.size, 3, none⟩ = some (.int .i64 i) ∧ W.cell? ⟨w.heap.size, 4, none⟩ = some (.int .i64 c) := by
  have h : W.heap[w.heap.size]? = some (.cells #[.int .i64 v, .int .i64 k, .int .u32 s, .int .i64 i, .int .i64 c] t (0, 0)) := (hb.block _ (by simp)).trans (World.alloc_heap_new _ _)
  refine ⟨?_, ?_, ?_, ?_, ?_⟩ <;> simp [World.cell?, h]
/-- what may be wrong with a cut by a room that may be -/
theorem fErr_roomy {v k : Int} {n r : Nat} (hn : n ≤ 192) (hr : 1 ≤ r ∧ r ≤ 242) (h : Ct.fErr v k n (r : Int) ≠ 0) : n = 0 ∨ Ct.fErr v k n (r : Int) = 10 ∨ Ct.fErr v k n (r : Int) = 9 := by
  by_cases h0 : n = 0
  · exact .inl h0
  · right
    have h1 := Ct.cnt_pos hr.1 (by omega : 1 ≤ n)
    have h3 := Ct.cnt_le (n := n) hr.1
    unfold Ct.fErr at h ⊢
    rw [if_neg h0, if_neg (by omega), if_neg (by omega), Int.toNat_natCast] at h ⊢
    unfold chk at h ⊢
    rw [if_neg (by omega : ¬ ((Ct.cnt n r : Int) < 1 ∨ 255 < (Ct.cnt n r : Int) ∨ (0 : Int) < 0 ∨ (Ct.cnt n r : Int) ≤ 0))] at h ⊢
    split
    · simp
    · rename_i h5
      rw [if_neg h5] at h
      split
      · simp
      · rename_i h6
        rw [if_neg h6] at h
        exact absurd rfl h

end Go.Proofs.Ytloncplpjdekoaa

namespace Go.Proofs.Ytloncplpjdekoaa
open Go.RowKit Go.Shelf
set_option maxRecDepth 100000

/-- a table beside frames that lie in a row of block g, their payloads in rows of bytes -/
structure Lat (B : Nat) (w0 : World) (b r g off : Nat) (fs : List Fr) (T : List Tb.Ms) (W : World) : Prop where
  tbl : ∃ S, TblOf W S b r T ∧ (∀ q, S q → B ≤ q) ∧ ¬ S g
  frs : FrsAt W W.heap.size (some ⟨g, off, none⟩) fs
  pay : PayIn W fs
  below : Below B w0 W
  lo : B ≤ w0.heap.size
  lt : g < W.heap.size
theorem InRow.toff {S : Nat → Prop} {W W' : World} {A : Option Addr} {zs : List Int} (h : InRow W A zs) (ho : TOff S W W') : InRow W' A zs := fun hn => by
  obtain ⟨g, off, cur, e, hh, hc⟩ := h hn
  exact ⟨g, off, cur, e, (Off.block ho g (Array.getElem?_eq_some_iff.1 hh).1 fun hS => hS.2.1 cur hh).trans hh, hc⟩
theorem frs_toff {S : Nat → Prop} {W W' : World} {g off : Nat} {fs : List Fr} (h : FrsAt W W.heap.size (some ⟨g, off, none⟩) fs) (hp : PayIn W fs) (ho : TOff S W W') (hg : ¬ S g) : FrsAt W' W'.heap.size (some ⟨g, off, none⟩) fs ∧ PayIn W' fs := by
  have hp' : PayIn W' fs := fun f hf => ⟨(hp f hf).1, (hp f hf).2.toff ho⟩
  refine ⟨⟨fun f hf => ?_, fun j f hj => ?_⟩, hp'⟩
  · have h1 := h.1 f hf
    exact ⟨h1.s0, h1.s1, h1.room, h1.few, h1.byte, (hp' f hf).2.nums⟩
  · obtain ⟨b, o, e, hlt, hc⟩ := h.2 j f hj
    injection e with e
    injection e with e1 e2 e3
    subst e1 e2
    have hb := TOff.keep ho hlt hg
    exact ⟨g, off, rfl, by have := ho.size; omega, fun q u hq => by
      rw [← hc q u hq]
      simp only [World.cell?, hb]⟩
section
variable {B : Nat} {w0 W W' : World} {b r g off : Nat} {fs : List Fr} {T : List Tb.Ms}
theorem Lat.later (h : Lat B w0 b r g off fs T W) (hb : Below W.heap.size W W') : Lat B w0 b r g off fs T W' := by
  obtain ⟨S, h1, h2, h3⟩ := h.tbl
  exact ⟨⟨S, h1.below hb, h2, h3⟩, (h.frs.below hb).mono hb.size, fun f hf => ⟨(h.pay f hf).1, (h.pay f hf).2.keeps (KpT.of_below hb)⟩, h.below.trans (hb.mono (Nat.le_trans h.lo h.below.size)), h.lo, by have := hb.size; have := h.lt; omega⟩
theorem Lat.put (h : Lat B w0 b r g off fs T W) (f : Fr) (hf : f.At W W.heap.size) :
    Calls Try.prog 12 #[.pointer (some ⟨b, 0, none⟩), frV f.v f.k f.s f.i f.c (.slice f.a f.zs.length f.cp)] W fun e W' => ∃ A2 c2, e = .returned (.tuple #[outV A2 (Tb.put r T f).o.zs.length c2 (Tb.put r T f).o.wh (Tb.put r T f).o.ev (Tb.put r T f).o.old, .int .i64 (Tb.put r T f).e]) ∧
      (Tb.put r T f).o.zs.length ≤ c2 ∧ Nums .u8 W' W'.heap.size A2 (Tb.put r T f).o.zs ∧ Lat B w0 b r g off fs (Tb.put r T f).T W' := by
  obtain ⟨S, h1, h2, h3⟩ := h.tbl
  refine (tput_of h1 f hf).mono ?_
  rintro e W' ⟨A2, c2, rfl, hc, hn, ho, ht⟩
  obtain ⟨k1, k2⟩ := frs_toff h.frs h.pay ho h3
  have hlt := h.lt
  have hbs := Nat.le_trans h.lo h.below.size
  exact ⟨A2, c2, rfl, hc, hn.nums fun q hq => hq.2, ⟨_, ht, fun q hq => hq.elim (h2 q) (fun e => by omega), fun hq => hq.elim h3 (fun e => by omega)⟩, k1, k2, h.below.trans (ho.below h2 hbs), h.lo, by have := ho.size; omega⟩
theorem Lat.gone (h : Lat B w0 b r g off fs T W) {z : Int} (hz : 0 ≤ z ∧ z ≤ 4294967295) (hT : ∀ x ∈ T, x.s ≠ z) :
    Calls Try.prog 15 #[.pointer (some ⟨b, 0, none⟩), .int .u32 z] W fun e W' => e = .returned (.bool false) ∧ W' = W := by
  obtain ⟨S, ⟨m, A, n, cp, X, h1, h2⟩, _⟩ := h.tbl
  refine (tdrop_any h1 hz).mono ?_
  rintro e W' (⟨_, he, hw⟩ | ⟨⟨x, hx, e⟩, _⟩)
  · exact ⟨he, hw⟩
  · exact absurd e (hT x.ms (by rw [← h2]; exact List.mem_map.2 ⟨x, hx, rfl⟩))
end
theorem row_stays' {w0 W : World} {q : Nat} {o : Obj} (h : w0.heap[q]? = some o) (hb : Below w0.heap.size w0 W) {B : Nat} (_ : B < w0.heap.size) : W.heap[q]? = some o := (hb.block q (Array.getElem?_eq_some_iff.1 h).1).trans h
/-- a frame of another number -/
def Fr.num (f : Fr) (z : Int) : Fr := ⟨f.v, f.k, z, f.i, f.c, f.a, f.cp, f.zs⟩
set_option maxHeartbeats 8000000 in
theorem tnext_go (x : Int) (A : Option Addr) (n cp : Nat) (fs : List Fr) (st : Int) (hst : 0 ≤ st ∧ st ≤ 4294967295) (v k s i c : Int) (a : Option Addr) (bn bm bcp : Nat) (es : List Int) (y : Int) (w : World) (hn : fs.length = n) (hcp : n ≤ cp) (h1 : FrsAt w w.heap.size A fs)
    (hbn : es.length = bn) (hbc : bn ≤ bcp) (hz : Bytes es) (h2 : Nums .u8 w w.heap.size a es) (hm : min (bn : Int) 192 = (bm : Int)) (hmn : bm ≤ bn) (hm2 : bm ≤ 192) :
    Calls Try.prog 5 #[.int .i64 x, .slice A n cp, .int .u32 st, hdV v k s i c, .slice a bn bcp, .int .i64 y] w fun e w' => e = .returned (.bool true) ∧ Below w.heap.size w w' := by
  have hnc : (n : Int) ≤ (cp : Int) := by omega
  have hbmc : (bm : Int) ≤ (bcp : Int) := by omega
  obtain ⟨r, hr, hr1, hr2⟩ := room_of14 x
  obtain ⟨Y, hY, hY1, hY2⟩ := room_of13 y
  have hlen : (es.take bm).length = bm := by rw [List.length_take]; omega
  have hzb := hz.take bm
  have hnum := h2.take bm
  generalize es.take bm = bs at *
  clear hz h2 hbn
  obtain ⟨w0, hw0⟩ : ∃ w0, w.alloc (.cells #[.int .i64 v, .int .i64 k, .int .u32 s, .int .i64 i, .int .i64 c] 33) = w0 := ⟨_, rfl⟩
  have hb0 : Below w.heap.size w w0 := by rw [← hw0]; exact (Below.refl _ w).alloc (Nat.le_refl _) _
  have hs0 : w.heap.size < w0.heap.size := by rw [← hw0]; simp
  have hbox : w0.heap[w.heap.size]? = some (.cells #[.int .i64 v, .int .i64 k, .int .u32 s, .int .i64 i, .int .i64 c] 33 (0, 0)) := by rw [← hw0]; exact World.alloc_heap_new _ _
  have HKN := Lib.hid (fun W => tbknown_any W)
  have HNW := Lib.hid (tnew_any (r : Int) w0)
  have H1 := Lib.hid h1
  have HN := Lib.hid hn
  have HW0 := Lib.hid hw0
  have HB0 := Lib.hid hb0
  have HBOX := Lib.hid hbox
  have HZ := Lib.hid hzb
  have HL := Lib.hid hlen
  have HNM := Lib.hid hnum
  have HST := Lib.hid hst
  have HR := Lib.hid hr
  have HY := Lib.hid hY
  clear h1 hn hw0 hb0 hbox hzb hlen hnum hst hr hY
  unfold hdV
  go_enter Try.func5, Try.ntmps5
  go_wp2_with fail
  rw [HW0.out, HR.out, HY.out]
  refine HNW.out.mono ?_
  rintro e w1 (⟨h, _⟩ | ⟨r', hr', b, m, rfl, hT, hb1⟩)
  · exact absurd ⟨by omega, by omega⟩ h
  obtain rfl : r' = r := by omega
  have hT0 : Hid (TblOf w1 (fun q => w0.heap.size ≤ q) b r' []) := Lib.hid ⟨m, none, 0, 0, [], hT, rfl⟩
  have HB1 := Lib.hid hb1
  clear hT hb1 HNW hr' HR HY
  go_wp2_with fail
  go_loopw [15] (fun iv wr => ∃ j : Nat, j ≤ n ∧ j ≤ 100 ∧ iv = .int .i64 (j : Int) ∧ ∃ T, Hid (TblOf wr (fun q => w0.heap.size ≤ q) b r' T ∧ Below w0.heap.size w0 wr ∧ ∀ x ∈ T, Tb.Ahead st x)) (fun iv _ => 100 - (intOf iv).toNat)
  case atStart => exact ⟨0, by omega, by omega, rfl, [], Lib.hid ⟨hT0.out, HB1.out, fun x hx => (by cases hx)⟩⟩
  case round =>
    obtain ⟨j, hjn, hj100, rfl, T, HTB⟩ := hrel
    by_cases hA : j < n ∧ j < 100
    · have hj1' : (j : Int) < (n : Int) := by omega
      have hj2' : (j : Int) < 100 := by omega
      obtain ⟨f, hfj⟩ : ∃ f, fs[j]? = some f := ⟨_, List.getElem?_eq_getElem (by rw [HN.out]; omega)⟩
      have hat := H1.out.1 f (List.mem_of_getElem? hfj)
      have hfl : (f.zs.take 250).length = min 250 f.zs.length := List.length_take
      have KC : ∀ W, Calls Try.prog 9 #[.agg #[.int .i64 f.v, .int .i64 f.k, .int .u32 f.s, .int .i64 f.i, .int .i64 f.c, .slice f.a f.zs.length f.cp]] W fun e w' => e = .returned (.agg #[.int .i64 f.cut.v, .int .i64 f.cut.k, .int .u32 f.cut.s, .int .i64 f.cut.i, .int .i64 f.cut.c, .slice f.cut.a f.cut.zs.length f.cut.cp]) ∧ Below W.heap.size W w' :=
        fun W => cut_any f.v f.k f.s f.i f.c f.a f.zs.length (f.zs.take 250).length f.cp W (by omega) (by omega) hat.room
      have hbw := HB0.out.trans (HTB.out.2.1.mono HB0.out.size)
      obtain ⟨g, off, hAA, hg, a0, a1, a2, a3, a4, a5⟩ := (H1.out.below hbw).six hfj
      subst hAA
      have HCA := Lib.hid (Fr.cut_at hat)
      have HKC := Lib.hid KC
      clear KC hat hfl hfj hbw
      generalize f.cut = h at HCA HKC
      go_wp2_with fail
      refine (HKC.out wr).mono ?_
      rintro e W3 ⟨rfl, hb3⟩
      obtain ⟨zz, hzz⟩ : ∃ zz, (st - 1 - h.s.tmod 1073741824) % 4294967296 = zz := ⟨_, rfl⟩
      have hzz1 : zz = (st - 1 - h.s % 1073741824) % 4294967296 := by
        rw [← hzz, Int.tmod_eq_emod_of_nonneg HCA.out.s0]
      obtain ⟨W4, hW4⟩ : ∃ W4, W3.alloc (.cells (h.num zz).cs 36) = W4 := ⟨_, rfl⟩
      have hb34 : Below W3.heap.size W3 W4 := by rw [← hW4]; exact (Below.refl _ _).alloc (Nat.le_refl _) _
      have hb4 := hb3.trans (hb34.mono hb3.size)
      have hbw4 := HTB.out.2.1.trans (hb4.mono HTB.out.2.1.size)
      have hat4 : (h.num zz).At W4 W4.heap.size := by
        have h0 := (HCA.out.below (HB0.out.trans (hbw4.mono HB0.out.size))).mono (HB0.out.trans (hbw4.mono HB0.out.size)).size
        exact ⟨by show 0 ≤ zz; omega, by show zz ≤ 4294967295; omega, h0.room, h0.few, h0.byte, h0.nums⟩
      have KP := Lib.hid (tput_of (HTB.out.1.below hb4) (h.num zz) hat4)
      have HAH := Lib.hid (Tb.put_ahead (r := r') HTB.out.2.2 (f := h.num zz) fun x hx => Tb.ahead_of (x := x) (z := h.s) (by rw [hx]; exact hzz1))
      have HBW4 := Lib.hid hbw4
      have HW4 := Lib.hid hW4
      have HWR := Lib.hid (HTB.out.2.1.size)
      have HZZ := Lib.hid hzz
      clear hzz hzz1 hW4 hb34 hb4 hbw4 hat4 hb3 a0 a1 a2 a3 a4 a5 HKC
      unfold frV frC at KP
      unfold Fr.cs frC at HW4
      simp only [Fr.num] at HW4 KP HAH
      go_wp2_with fail
      rw [HZZ.out, HW4.out]
      refine KP.out.mono ?_
      rintro e W5 ⟨A2, c2, rfl, _, _, ho, ht⟩
      have HREL : Hid (TblOf W5 (fun q => w0.heap.size ≤ q) b r' _ ∧ Below w0.heap.size w0 W5 ∧ ∀ x ∈ _, Tb.Ahead st x) :=
        Lib.hid ⟨ht.mono fun q hq => hq.elim (fun h => h) (fun h => by have := HBW4.out.size; omega), HBW4.out.trans (ho.below (fun q hq => hq) HBW4.out.size), HAH.out⟩
      clear KP HAH ho ht HW4
      go_wp2
      go_roundw
      case rel => exact ⟨j + 1, by omega, by omega, by go_num, _, HREL⟩
      case measure => simp [intOf]; omega
    · by_cases hj1 : j < n
      case' pos =>
        have hj1' : (j : Int) < (n : Int) := by omega
        have hj2' : ¬ (j : Int) < 100 := by omega
      case' neg =>
        have hj1' : ¬ (j : Int) < (n : Int) := by omega
      all_goals (
        clear hA hj1
        have hbx := row_stays' HBOX.out HTB.out.2.1 hs0
        have f2 : ∀ j, wr.frozen? ⟨w.heap.size, j, none⟩ = false := fun j => by simp [World.frozen?, hbx]
        obtain ⟨-, -, e2, -, -⟩ := hd_block hbx
        have hh1 := setCell_at (j := 2) (u := .int .u32 st) hbx
        simp only [List.setIfInBounds_toArray, List.set_cons_succ, List.set_cons_zero] at hh1
        obtain ⟨p0, p1, p2, p3, p4⟩ := hd_block hh1
        have hof : Off (fun q => q = w.heap.size) wr (wr.setCell ⟨w.heap.size, 2, none⟩ (.int .u32 st)) := (Off.refl (fun q => q = w.heap.size) wr).setCell (p := ⟨w.heap.size, 2, none⟩) rfl _
        have hT2 : TblOf (wr.setCell ⟨w.heap.size, 2, none⟩ (.int .u32 st)) (fun q => w0.heap.size ≤ q ∧ q < wr.heap.size) b r' T := by
          obtain ⟨m, A, n, cp, X, h, hX⟩ := HTB.out.1.small
          exact ⟨m, A, n, cp, X, h.off hof (fun q hq e => by omega) (fun x _ cs hc e => by rw [e, hbx] at hc; simp at hc) (fun g cs hc e => by rw [e, hbx] at hc; simp at hc), hX⟩
        have hwr := HB0.out.trans (HTB.out.2.1.mono HB0.out.size)
        have hb2 : Below w.heap.size w (wr.setCell ⟨w.heap.size, 2, none⟩ (.int .u32 st)) := hwr.trans (hof.below (fun q hq => by omega) hwr.size)
        have KF := frames_any12G v k st i c HST.out a bm bcp (Y : Int) bs (wr.setCell ⟨w.heap.size, 2, none⟩ (.int .u32 st)) HL.out HZ.out ((HNM.out.below hb2).mono hb2.size)
        unfold hdV at KF
        have hs2 : (wr.setCell ⟨w.heap.size, 2, none⟩ (.int .u32 st)).heap.size = wr.heap.size := by simp [World.setCell]
        obtain ⟨W2, hW2⟩ : ∃ W2, wr.setCell ⟨w.heap.size, 2, none⟩ (.int .u32 st) = W2 := ⟨_, rfl⟩
        rw [hW2] at hT2 hb2 KF hs2
        have HW2 := Lib.hid hW2
        have HT2 := Lib.hid hT2
        have HB2 := Lib.hid hb2
        have HWR := Lib.hid HTB.out.2.1.size
        have HS2 := Lib.hid hs2
        have HAH := Lib.hid HTB.out.2.2
        clear hbx hh1 hof hT2 hb2 hwr hW2 hs2
        go_wp2_with fail
        rw [HW2.out]
        refine KF.mono ?_
        rintro e W3 ⟨hb3, ⟨hE, rfl⟩ | ⟨hE, A3, c1, gs, rfl, hc1, hcut, hat, hpay, hge⟩⟩
        · have HB3 := Lib.hid (HB2.out.trans (hb3.mono HB2.out.size))
          rw [HL.out] at hE ⊢
          generalize Ct.fErr v k bm (Y : Int) = E at *
          have hne0 : (E != 0) = true := by simpa using hE
          clear KF hb3 p0 p1 p2 p3 p4
          go_wp2_with fail
          refine (HKN.out W3).mono ?_
          rintro e W4 ⟨rfl, hb4⟩
          have HB4 := Lib.hid (HB3.out.trans (hb4.mono HB3.out.size))
          clear hb4
          go_wp2
          go_ret
          exact ⟨rfl, HB4.out⟩
        · rw [HL.out] at hE
          obtain ⟨hE0, _, _, _, hck⟩ := Ct.fErr_zero hE
          rw [Int.toNat_natCast] at hck hcut
          have hfl := hcut.len
          rw [HL.out] at hfl
          have hcm := Ct.cnt_le (n := bm) (r := Y) hY1
          have hcp2 := Ct.cnt_pos (n := bm) (r := Y) hY1 hE0
          rw [← hfl] at hck hcm hcp2
          obtain ⟨f0, hf0⟩ : ∃ f, gs[0]? = some f := ⟨_, List.getElem?_eq_getElem (by omega)⟩
          obtain ⟨g, off, rfl, hg, -⟩ := hat.six hf0
          have hgw := hge g off rfl
          obtain ⟨S3, hS3, hlo, hng⟩ : ∃ S, TblOf W3 S b r' T ∧ (∀ q, S q → w0.heap.size ≤ q) ∧ ¬ S g := ⟨_, HT2.out.below hb3, fun q hq => hq.1, fun hq => by have := HS2.out; omega⟩
          have HLT : Hid (Lat w0.heap.size W2 b r' g off gs T W3) := Lib.hid ⟨⟨S3, hS3, hlo, hng⟩, hat, hpay, hb3.mono (by have := HS2.out; have := HWR.out; omega), by have := HS2.out; have := HWR.out; omega, hg⟩
          obtain ⟨q, hq⟩ : ∃ q, gs.length = q := ⟨_, rfl⟩
          have HST0 : Hid (Tb.St v k st gs 0 T) := Lib.hid (Tb.St.start HAH.out)
          have HCUT := Lib.hid hcut
          have HCK := Lib.hid hck
          have hq192 : q ≤ 192 := by omega
          have hq1 : 1 ≤ q := by omega
          rw [hq] at hc1 ⊢
          have hqc : (q : Int) ≤ (c1 : Int) := by omega
          have HQ := Lib.hid hq
          clear KF hE hcut hat hpay hge hq hfl hck hf0 hb3 p0 p1 p2 p3 p4 hcm hcp2 S3 hS3 hlo hng hgw hg
          go_wp2_with fail
          go_loopw [19] (fun iv wq => ∃ j : Nat, j ≤ q ∧ iv = .int .i64 (j : Int) ∧ ∃ T, Hid (Lat w0.heap.size W2 b r' g off gs T wq ∧ Tb.St v k st gs j T)) (fun iv _ => q - (intOf iv).toNat)
          case atStart => exact ⟨0, by omega, rfl, _, Lib.hid ⟨HLT.out, HST0.out⟩⟩
          case round =>
            obtain ⟨l, hlq, rfl, T', HL2⟩ := hrel
            by_cases hl : l < q
            · have hl' : (l : Int) < (q : Int) := by omega
              obtain ⟨f, hf⟩ : ∃ f, gs[l]? = some f := ⟨_, List.getElem?_eq_getElem (by rw [HQ.out]; exact hl)⟩
              obtain ⟨g', off', eg, hg', a0, a1, a2, a3, a4, a5⟩ := HL2.out.1.frs.six hf
              obtain ⟨rfl, rfl⟩ : g = g' ∧ off = off' := by
                injection eg with eg
                injection eg with e1 e2 e3
                exact ⟨e1, e2⟩
              obtain ⟨T2, ev, old, hput, hst2⟩ := Tb.put_nx (R := r') HCUT.out hY1 (by rw [HL.out]; exact hm2) HCK.out hr1 hf HL2.out.2
              have KP := HL2.out.1.put f (HL2.out.1.frs.1 f (List.mem_of_getElem? hf))
              rw [hput, HQ.out] at KP
              have HST2 := Lib.hid hst2
              clear hput hst2 hf eg hg'
              obtain ⟨fv, fk, fq, fi, fc, fa, fcp, fz⟩ := f
              simp only at a0 a1 a2 a3 a4 a5 KP
              unfold frV frC outV at KP
              simp only [outC] at KP
              by_cases hlast : l + 1 = q
              · simp only [if_pos hlast, decide_eq_true hlast] at KP
                rw [HL.out] at KP
                have hlz : ((l : Int) == (q : Int) - 1) = true := by simp; omega
                go_wp2_with fail
                refine KP.mono ?_
                rintro e W4 ⟨A4, c4, rfl, hc4, hn4, hlat⟩
                have hal := (Below.refl W4.heap.size W4).alloc (Nat.le_refl _) (.cells (outC A4 bm c4 true ev old) 48)
                have hl5 := hlat.later hal
                have hbw5 := HB2.out.trans (hl5.below.mono (by omega))
                have hn5 := (hn4.below hal).mono hal.size
                have KS := Lib.hid (same_any _ A4 a bm bm c4 bcp bs bs _ HL.out HL.out (by omega) hn5 ((HNM.out.below hbw5).mono hbw5.size))
                rw [decide_eq_true rfl] at KS
                have HL5 := Lib.hid hl5
                clear hal hl5 hbw5 hn5 hn4 hlat KP a0 a1 a2 a3 a4 a5
                go_wp2_with fail
                refine KS.out.mono ?_
                rintro e W9 ⟨rfl, d, rfl⟩
                have HREL : Hid (Lat w0.heap.size W2 b r' g off gs T2 _ ∧ Tb.St v k st gs (l + 1) T2) := Lib.hid ⟨HL5.out.later (below_drewN (Below.refl _ _) d), HST2.out⟩
                clear KS HL5
                go_wp2
                go_roundw
                case rel => exact ⟨l + 1, by omega, by go_num, T2, HREL⟩
                case measure => simp [intOf]; omega
              · simp only [if_neg hlast, decide_eq_false hlast, List.length_nil] at KP
                have hlz : ((l : Int) == (q : Int) - 1) = false := by simp; omega
                go_wp2_with fail
                refine KP.mono ?_
                rintro e W4 ⟨A4, c4, rfl, hc4, hn4, hlat⟩
                have hal := (Below.refl W4.heap.size W4).alloc (Nat.le_refl _) (.cells (outC A4 0 c4 false ev old) 48)
                have HREL : Hid (Lat w0.heap.size W2 b r' g off gs T2 _ ∧ Tb.St v k st gs (l + 1) T2) := Lib.hid ⟨hlat.later hal, HST2.out⟩
                clear hal hn4 hlat KP a0 a1 a2 a3 a4 a5
                go_wp2
                go_roundw
                case rel => exact ⟨l + 1, by omega, by go_num, T2, HREL⟩
                case measure => simp [intOf]; omega
            · obtain rfl : l = q := by omega
              have hl' : ¬ (l : Int) < (l : Int) := by omega
              go_wp2_with fail
              refine (HKN.out _).mono ?_
              rintro e W4 ⟨rfl, hb4⟩
              have hst := HL2.out.2
              rw [← HQ.out] at hst
              have hgone := fun x hx => (hst.done x hx).ne
              have hl4 := HL2.out.1.later hb4
              have KD := hl4.gone HST.out hgone
              have HFIN := Lib.hid (HB2.out.trans (hl4.below.mono (by omega)))
              clear hst hgone hb4 hl4
              go_wp2_with fail
              refine KD.mono ?_
              rintro e W9 ⟨rfl, rfl⟩
              clear KD
              go_wp2
              go_ret
              exact ⟨rfl, HFIN.out⟩)
end Go.Proofs.Ytloncplpjdekoaa

namespace Go.Proofs.Ytloncplpjdekoaa.tableNext
open Go.ChangeShapes Go.WideShapes Go.ChangeAt Go.RowKit
open Go.ChangeMaps (open_string shut_string)
set_option linter.unusedVariables false

theorem own : ownKnob Try.prog.godebug = none := by kernel_rfl
theorem laidOut : laidOutB Try.prog = true := by kernel_rfl

set_option maxRecDepth 100000 in
theorem lifted (os : Os) (started : os.Started) (H : Type) (enc : TypeId × Value → H) :
    ReturnsInHanded {} Try.checked os 5 .any (Rows.tableNextSpec.pre6 enc Try.prog Try.f5 Rows.tableNextRow.domain false) (Rows.tableNextSpec.post enc Try.prog Try.f5 false true false false) := by
  refine returnsInHanded_of_change (C := Try.checked) own started (by kernel_rfl) Try.func5
    (ChangeSpec.witness6 (enc := enc) (C := Try.checked) false ⟨#[], #[.int .i64 0, .slice none 0 0, .int .u32 0, .agg #[.int .i64 0, .int .i64 0, .int .u32 0, .int .i64 0, .int .i64 0], .slice none 0 0, .int .i64 0], []⟩ 8 (by kernel_rfl) (by kernel_rfl) (by kernel_rfl) (by kernel_rfl)) ?_
  intro W base args ds gs before hval0 hW hcnd _
  have hval : ∀ (j : Nat) t v, Try.f5.params[j]? = some t → args[j]? = some v → Value.okWide Try.prog W .any base t v := hval0
  have hW' := hW
  obtain ⟨p, q, hA0, hV, rfl, hfz, hnd⟩ := hW
  have hA : DataW.TrodAll enc Try.prog W 0 (fun _ => true) true Try.f5.params.toList args.toList ds p := hA0
  rw [Try.params5] at hA hval
  obtain ⟨v0, vs0, d0, ds0, p0, q0, hargs, rfl, rfl, h0, r0⟩ := trodAll_cons hA
  obtain ⟨v1, vs1, d1, ds1, p1, q1, rfl, rfl, rfl, h1, r1⟩ := trodAll_cons r0
  obtain ⟨v2, vs2, d2, ds2, p2, q2, rfl, rfl, rfl, h2, r2⟩ := trodAll_cons r1
  obtain ⟨v3, vs3, d3, ds3, p3, q3, rfl, rfl, rfl, h3, r3⟩ := trodAll_cons r2
  obtain ⟨v4, vs4, d4, ds4, p4, q4, rfl, rfl, rfl, h4, r4⟩ := trodAll_cons r3
  obtain ⟨v5, vs5, d5, ds5, p5, q5, rfl, rfl, rfl, h5, r5⟩ := trodAll_cons r4
  obtain ⟨rfl, rfl, rfl⟩ := trodAll_nil r5
  obtain rfl : args = #[v0, v1, v2, v3, v4, v5] := by cases args; simp_all
  obtain ⟨rfl, rfl⟩ := trodVars_none hV
  obtain ⟨a0, rfl, rfl, rfl, w0⟩ := open_int Try.underlying3 (hval 0 3 v0 rfl rfl) h0
  obtain ⟨a1, len1, cap1, rfl⟩ := okWide_slice Try.underlying57 (hval 1 57 v1 rfl rfl)
  have k1 := h1
  have lt1 : ∀ x ∈ p1, x.block < W.heap.size := by obtain ⟨m, hm⟩ := k1; exact DataW.trod_lt m _ _ _ hm
  obtain ⟨e1, hd1, hx1, hm1, w1, wf1⟩ := (by
    obtain ⟨fuel, hf⟩ := h1
    exact frs_of hf : ∃ fs : List Fr, fs.length = len1 ∧ len1 ≤ 9223372036854775807 ∧ len1 ≤ cap1 ∧ FrsAt W W.heap.size a1 fs ∧ ∀ f ∈ fs, f.Wf)
  obtain ⟨a2, rfl, rfl, rfl, w2⟩ := open_int Try.underlying31 (hval 2 31 v2 rfl rfl) h2
  have k3 := h3
  have lt3 : ∀ x ∈ p3, x.block < W.heap.size := by obtain ⟨m, hm⟩ := k3; exact DataW.trod_lt m _ _ _ hm
  obtain ⟨x3_1, x3_2, x3_3, x3_4, x3_5, rfl, y3_1, y3_2, y3_3, y3_4, y3_5⟩ := open_head (hval 3 33 v3 rfl rfl) h3
  obtain ⟨a4, len4, cap4, rfl⟩ := okWide_slice Try.underlying34 (hval 4 34 v4 rfl rfl)
  have k4 := h4
  have lt4 : ∀ x ∈ p4, x.block < W.heap.size := by obtain ⟨m, hm⟩ := k4; exact DataW.trod_lt m _ _ _ hm
  obtain ⟨e4, hd4, hm4, w4⟩ : ∃ es : List Int, es.length = len4 ∧ len4 ≤ cap4 ∧ Nums .u8 W W.heap.size a4 es ∧ ∀ z ∈ es, (Lit.int .u8 z).wf = true := by
    obtain ⟨fuel, hf⟩ := h4
    obtain ⟨_, _, _, es, he, q⟩ := row_of Try.underlying34 Try.underlying5 (by kernel_rfl) hf
    injection he with e1 e2 e3
    subst e1 e2 e3
    exact ⟨es, q⟩
  obtain ⟨a5, rfl, rfl, rfl, w5⟩ := open_int Try.underlying3 (hval 5 3 v5 rfl rfl) h5
  clear hA0 hval0
  refine (tnext_go a0 a1 len1 cap1 e1 a2 (bounds_u32 w2) x3_1 x3_2 x3_3 x3_4 x3_5 a4 len4 (min len4 192) cap4 e4 a5 W hd1 hm1 w1 hd4 hm4 (bytes_of w4.2) w4.1 (by omega) (by omega) (by omega)).mono fun e W' ⟨he, bel⟩ => ?_
  subst he
  exact ⟨_, rfl, _, _, _, [], _, [], hW', trodAll_mk1 (shut_bool Try.underlying4 _), (trodAll_cons_mk (shut_int Try.underlying3 w0) (trodAll_cons_mk (Below.trod laidOut (by kernel_rfl) (of_decide_eq_true (by kernel_rfl)) k1 bel lt1) (trodAll_cons_mk (shut_int Try.underlying31 w2) (trodAll_cons_mk (Below.trod laidOut (by kernel_rfl) (of_decide_eq_true (by kernel_rfl)) k3 bel lt3) (trodAll_cons_mk (Below.trod laidOut (by kernel_rfl) (of_decide_eq_true (by kernel_rfl)) k4 bel lt4) (trodAll_cons_mk (shut_int Try.underlying3 w5) trodAll_mk0)))))), rfl, bel.frame _, fun h => by cases h⟩

theorem over : Rows.tableNextRow.holds Try.pinned (OpenSpec.ofChange Rows.tableNextSpec) :=
  OpenClaim.holds_of_wide 5 Try.f5 rfl rfl rfl rfl rfl rfl rfl ⟨rfl, rfl, rfl, rfl, rfl⟩ rfl rfl rfl rfl rfl (by kernel_rfl) Try.func5 (by kernel_rfl)
    (of_decide_eq_true (by kernel_rfl)) (by unfold Func.isWrapper; first | (rw [if_pos (by decide +kernel)]; kernel_rfl) | (rw [if_neg (by decide +kernel)]; exact ⟨rfl, rfl⟩))
    (fun os started H enc _ => lifted os started H enc)

theorem proved : Rows.TableNextSaid := over
#print axioms proved
end Go.Proofs.Ytloncplpjdekoaa.tableNext
