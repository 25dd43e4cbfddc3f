/-
  The walk of LensReads.
-/
import Derived.Test.YtmilcmgohlfpiaaReadsS
import Derived.Deep.LoopGhost
import Derived.Deep.QuietTactic
namespace Go.Proofs.Ytmilcmgohlfpiaa
open Go.RowKit
set_option maxRecDepth 100000

/-- a read that the law asks for -/
structure ActD where
  kind : Int
  N : Int
  most : Int
  least : Int
  high : Int
def ActD.ok (d : ActD) : Prop := (-9223372036854775808 ≤ d.N ∧ d.N ≤ 9223372036854775807)
/-- the reads that came in -/
def ActRow (w : World) (A : Option Addr) (ds : List ActD) : Prop :=
  ∀ i d, ds[i]? = some d → d.ok ∧ ∃ b o, A = some ⟨b, o, none⟩ ∧ b < w.heap.size ∧ w.cell? ⟨b, o + i * 5, none⟩ = some (.int .i64 d.kind) ∧ w.cell? ⟨b, o + i * 5 + 1, none⟩ = some (.int .i64 d.N) ∧ w.cell? ⟨b, o + i * 5 + 2, none⟩ = some (.int .u64 d.most) ∧ w.cell? ⟨b, o + i * 5 + 3, none⟩ = some (.int .i64 d.least) ∧ w.cell? ⟨b, o + i * 5 + 4, none⟩ = some (.int .i64 d.high)

theorem ansB_len {e : Nat} {L : List Int} (h : L.length ≤ 1000000000) : (ansB e L).length ≤ 9223372036854775807 := by
  unfold ansB; split
  · omega
  · exact Nat.zero_le _
theorem drop_len (zs : List Int) (q : Nat) : (zs.drop q).length ≤ zs.length := by rw [List.length_drop]; omega
theorem rawR_len {l : List Int} (m : Int) : (rawR l m).1.length ≤ l.length := by
  unfold rawR; split
  · simp
  · split
    · simp
    · simp only [List.length_take]; omega
theorem fldR_len {l : List Int} (m : Int) : (fldR l m).1.length ≤ l.length := by
  unfold fldR; split
  · simp
  · split
    · simp
    · split
      · simp
      · simp only [List.length_take, List.length_drop]; omega
theorem keep_in {W1 W2 : World} {s : Nat} {A : Option Addr} {L : List Int} (h : NumsIn .u8 W1 s W1.heap.size A L) (hb : Below W1.heap.size W1 W2) : NumsIn .u8 W2 s W2.heap.size A L := (h.keeps (Keeps.of_below hb)).mono hb.size
theorem act_cells {k x1 x2 x3 x4 : Value} {bl : Nat} {W W1 : World} (hb : bl < W.heap.size) (ho : Off (fun j => j = bl) (W.alloc (.cells #[k, x1, x2, x3, x4] 30)) W1) :
    W1.cell? ⟨W.heap.size, 1, none⟩ = some x1 ∧ W1.cell? ⟨W.heap.size, 2, none⟩ = some x2 ∧ W1.cell? ⟨W.heap.size, 3, none⟩ = some x3 ∧ W1.cell? ⟨W.heap.size, 4, none⟩ = some x4 := by
  have hn : ¬ W.heap.size = bl := by omega
  have h := heap_alloc_new W (.cells #[k, x1, x2, x3, x4] 30)
  generalize W.alloc (.cells #[k, x1, x2, x3, x4] 30) = W2 at h ho
  generalize W.heap.size = n at *
  exact ⟨ho.cell (by simp [World.cell?, h]) hn, ho.cell (by simp [World.cell?, h]) hn, ho.cell (by simp [World.cell?, h]) hn, ho.cell (by simp [World.cell?, h]) hn⟩
theorem rs_cells {w W : World} {lo bl n c bm q e m f : Nat} {zs : List Int} {A : Option Addr} (h : ∀ o, RS w lo bl zs A n c bm q e m f (W.alloc o)) :
    (∀ o, (W.alloc o).cell? ⟨bm, 0, none⟩ = some (.slice A n c)) ∧ (∀ o, (W.alloc o).cell? ⟨bm, 1, none⟩ = some (.int .i64 m)) ∧ (∀ o, (W.alloc o).cell? ⟨bm, 2, none⟩ = some (.int .i64 f)) ∧ (∀ o, (W.alloc o).frozen? ⟨bm, 0, none⟩ = false) ∧ (∀ o, (W.alloc o).frozen? ⟨bm, 1, none⟩ = false) ∧ (∀ o, (W.alloc o).frozen? ⟨bm, 2, none⟩ = false) :=
  ⟨fun o => (h o).cells.1, fun o => (h o).cells.2.1, fun o => (h o).cells.2.2.1, fun o => (h o).cells.2.2.2.1, fun o => (h o).cells.2.2.2.2.1, fun o => (h o).cells.2.2.2.2.2⟩
theorem rfld_all (A : Option Addr) (n c p e : Nat) (l : List Int) (m : Int) (w : World) (hn : l.length = n) (hcn : n ≤ c) (hl : n ≤ 1000000000) (hp : p ≤ n) (hz : ∀ x ∈ l, 0 ≤ x ∧ x ≤ 255) (hm1 : m ≤ 9223372036854775807) (h1 : Nums .u8 w w.heap.size A l) :
    Calls Try.prog 19 #[RefL A n c p e, .int .i64 m] w fun r w' => RefB A n c p e (fldR (l.drop p) m) w r w' := by
  by_cases h : m < 0
  · exact rfld_pos A n c p e l m 0 w hn hcn hl hp hz (.inl ⟨h, rfl⟩) hm1 h1
  · exact rfld_pos A n c p e l m m w hn hcn hl hp hz (.inr ⟨h, rfl⟩) hm1 h1
/-- the copy of the bytes that is turned: its row -/
def BRow (lo0 lo : Nat) (A : Option Addr) (m : Nat) (W : World) : Prop := m = 0 ∨ ∃ g cur, A = some ⟨g, 0, none⟩ ∧ lo0 ≤ g ∧ g < lo ∧ W.heap[g]? = some (.cells cur 5 (0, 0)) ∧ m ≤ cur.size
theorem BRow.of {w w1 W : World} {zs : List Int} {A : Option Addr} {c : Nat} (h : MadeK 5 .u8 w w1 zs (.slice A zs.length c)) (hb : Below w1.heap.size w1 W) : BRow w.heap.size w1.heap.size A zs.length W := by
  rcases h.1.2 with ⟨_, h0⟩ | ⟨g, cap, cur, hv, hg, hh, hn, _, hc, _⟩
  · exact .inl h0
  · injection hv with h1 _ _
    have hlt := (Array.getElem?_eq_some_iff.1 hh).1
    exact .inr ⟨g, cur, h1, hg, hlt, (hb.block g hlt).trans hh, by omega⟩
theorem BRow.set {lo0 lo m : Nat} {g o : Nat} {W : World} {v : Value} (h : BRow lo0 lo (some ⟨g, 0, none⟩) m W) : BRow lo0 lo (some ⟨g, 0, none⟩) m (W.setCell ⟨g, o, none⟩ v) := by
  rcases h with h | ⟨g', cur, hA, h1, h2, h3, h4⟩
  · exact .inl h
  · injection hA with hA; injection hA with hA; subst hA
    exact .inr ⟨g, cur.setIfInBounds o v, rfl, h1, h2, setCell_at h3, by simpa using h4⟩
theorem rs_start {w w1 w2 w3 : World} {bl cm : Nat} {zs : List Int} {Am : Option Addr} (h0 : Below w.heap.size w w1) (hl : LensAt w2 w1.heap.size bl zs 0 0) (h2 : Below w1.heap.size w1 w2) (hm : MadeK 5 .u8 w2 w3 zs (.slice Am zs.length cm)) :
    RS w w1.heap.size bl zs Am zs.length cm w3.heap.size 0 0 0 0 (w3.alloc (RefC Am zs.length cm 0 0)) := by
  have hb4 : Below w3.heap.size w3 (w3.alloc (RefC Am zs.length cm 0 0)) := (Below.refl _ w3).alloc (Nat.le_refl _) _
  have hl4 := (hl.below hm.2).below hb4
  have hlt := hl.lt
  have h3 := hm.2.size
  have hs1 := h0.size
  have hs2 := h2.size
  refine ⟨hl4, heap_alloc_new w3 _, (hm.numsIn.nums.below hb4).mono hb4.size, ((h0.trans (h2.mono hs1)).trans (hm.2.mono (by omega))).trans (hb4.mono (by omega)), h0.size, by omega, ?_⟩
  intro hz g hg
  obtain ⟨b, o, hA, q1, q2, _⟩ := hm.numsIn hz
  obtain ⟨o2, s2, hA2⟩ := hg
  rw [hA] at hA2
  injection hA2 with hA2; injection hA2 with hA2
  omega

set_option maxHeartbeats 4000000 in
theorem reads_go (a0 : Option Addr) (len cap : Nat) (es : List Int) (A1 : Option Addr) (len1 cap1 : Nat) (ds : List ActD) (w : World) (hlen : es.length = len) (hlc : len ≤ cap) (hz0 : ∀ c ∈ es, 0 ≤ c ∧ c ≤ 255) (hn : Nums .u8 w w.heap.size a0 es)
    (hd : ds.length = len1) (hr : ActRow w A1 ds) :
    Calls Try.prog 3 #[.slice a0 len cap, .slice A1 len1 cap1] w fun e w' => e = .returned (.bool true) ∧ Below w.heap.size w w' := by
  obtain ⟨i0, hi, hz0', hz1, hz2⟩ := info_parts byteInfo
  obtain ⟨m, hm⟩ : ∃ m : Nat, (if 300 < (len : Int) then (300 : Int) else (len : Int)) = (m : Int) := ⟨min len 300, by split <;> omega⟩
  have hm1 : m ≤ 300 := by split at hm <;> omega
  have hm2 : m ≤ len := by split at hm <;> omega
  obtain ⟨zs, hzs⟩ : ∃ zs, es.take m = zs := ⟨_, rfl⟩
  have HZL : Hid (zs.length = m) := by show _ = _; rw [← hzs, List.length_take]; omega
  have HZB : Hid (∀ c ∈ zs, 0 ≤ c ∧ c ≤ 255) := by intro c hc; rw [← hzs] at hc; exact hz0 c (List.mem_of_mem_take hc)
  have hzn : Nums .u8 w w.heap.size a0 zs := by rw [← hzs]; exact hn.take m
  have HLit := Lib.hid (MadeK.lit (w := w) (w1 := w) 5 .u8 (Below.refl _ _))
  have HN1 := Lib.hid (hzn.below ((Below.refl _ w).alloc (Nat.le_refl _) (.cells #[] 5)))
  have hmc : (m : Int) ≤ (cap : Int) := by omega
  have HR := Lib.hid hr
  have HD := Lib.hid hd
  have HZ9 : Hid (zs.length ≤ 1000000000) := by have := HZL.out; show _ ≤ _; omega
  clear hz0 hn hzs hzn hr hd
  go_enter Try.func3, Try.ntmps3
  go_wp2_with (first
    | (at_builtin; (refine wpList_append_any rfl (.tmp 18) (.tmp 23) 22 rfl w.heap.size 5 i0 (.int .u8 0) 1 Try.underlying22 hi hz0' hz1 hz2 rfl .u8 [] zs _ rfl HLit.out.1 a0 m cap w.heap.size rfl HZL.out HN1.out ?c1 ?c2 HLit.out.2.size ?_); rotate_left 2; intro v1 w1 hown hg; have HM1 : Hid (MadeK 5 .u8 w w1 zs v1) := (by have h := HLit.out.more hown hg; rwa [List.nil_append] at h); clear hown hg HLit HN1; obtain ⟨Ab, cb, rfl, hcb, hnb⟩ := HM1.out.slice; have HNB := Lib.hid hnb; clear hnb)
    | (go_at_call 7; refine (lnew_any Ab zs.length cb zs w1 rfl HZ9.out HNB.out).mono ?_; rintro e w2 ⟨bl, rfl, hl2, hb2⟩; have HL2 := Lib.hid hl2; have HB2 := Lib.hid hb2; have HLit2 := Lib.hid (MadeK.lit (w := w2) (w1 := w2) 5 .u8 (Below.refl _ _)); have HN2 := Lib.hid ((HNB.out.below hb2).below ((Below.refl _ w2).alloc (B := w1.heap.size) hb2.size (.cells #[] 5))); clear hl2 hb2)
    | (at_builtin; (refine wpList_append_any rfl (.tmp 27) (.tmp 28) 22 rfl w2.heap.size 5 i0 (.int .u8 0) 1 Try.underlying22 hi hz0' hz1 hz2 rfl .u8 [] zs _ rfl HLit2.out.1 Ab zs.length cb w1.heap.size rfl rfl HN2.out ?d1 ?d2 HLit2.out.2.size ?_); rotate_left 2; intro v2 w3 hown hg; have HM2 : Hid (MadeK 5 .u8 w2 w3 zs v2) := (by have h := HLit2.out.more hown hg; rwa [List.nil_append] at h); clear hown hg HLit2 HN2; obtain ⟨Am, cm, rfl, hcm, hnm⟩ := HM2.out.slice; clear hnm))
  · have HRS := Lib.hid (rs_start HM1.out.2 HL2.out HB2.out HM2.out)
    have HBR : Hid (BRow w.heap.size w1.heap.size Ab zs.length (w3.alloc (RefC Am zs.length cm 0 0))) := BRow.of HM1.out ((HB2.out.trans (HM2.out.2.mono HB2.out.size)).alloc (by have h1 := HB2.out.size; have h2 := HM2.out.2.size; omega) _)
    have HAG : Hid (∀ g : Nat, g < w1.heap.size → zs ≠ [] → ∀ q, blockOf Am q → q ≠ g) := fun g hg hz q hq e => by
      have h1 := HM2.out.ge hq
      have h2 := HB2.out.size
      omega
    generalize w3.alloc (RefC Am zs.length cm 0 0) = W3 at *
    have HCM : Hid (zs.length ≤ cm) := hcm
    clear HM1 HL2 HB2 HM2 HNB hm hmc hm2 hcm
    go_loopw [7] (fun i wr => ∃ k : Nat, k ≤ zs.length ∧ i = .int .i64 k ∧ Hid (RS w w1.heap.size bl zs Am zs.length cm w3.heap.size 0 0 0 0 wr ∧ BRow w.heap.size w1.heap.size Ab zs.length wr)) (fun i _ => zs.length - (intOf i).toNat)
    case atStart => exact ⟨0, Nat.zero_le _, rfl, ⟨HRS.out, HBR.out⟩⟩
    case round =>
      obtain ⟨k, hk, rfl, HI⟩ := hrel
      clear HRS HBR
      have hz9 : zs.length ≤ 1000000000 := HZ9.out
      by_cases hlt : k < zs.length
      · have hlt' : (k : Int) < (zs.length : Int) := by omega
        rcases HI.out.2 with h0 | ⟨g, cur, rfl, hg1, hg2, hg3, hg4⟩
        · omega
        · obtain ⟨v0, hv0⟩ : ∃ v, cur[k]? = some v := ⟨_, Array.getElem?_eq_getElem (by omega)⟩
          have hc : wr.cell? ⟨g, k, none⟩ = some v0 := by simp [World.cell?, hg3, hv0]
          have hf : wr.frozen? ⟨g, k, none⟩ = false := by simp [World.frozen?, hg3]
          have HN : Hid (RS w w1.heap.size bl zs Am zs.length cm w3.heap.size 0 0 0 0 (wr.setCell ⟨g, k, none⟩ (.int .u8 7)) ∧ BRow w.heap.size w1.heap.size (some ⟨g, 0, none⟩) zs.length (wr.setCell ⟨g, k, none⟩ (.int .u8 7))) :=
            ⟨HI.out.1.out hg1 hg2 (HAG.out g hg2) _, HI.out.2.set⟩
          clear hv0 hg3 HI
          go_wp2
          go_roundw
          case rel => exact ⟨k + 1, hlt, by go_num, HN⟩
          case measure => simp [intOf]; omega
      · have HS := Lib.hid HI.out.1
        clear HI
        go_wp2
        go_loopw [8] (fun i wr => ∃ (j q e : Nat), j ≤ len1 ∧ j ≤ 40 ∧ i = .int .i64 j ∧ Hid (RS w w1.heap.size bl zs Am zs.length cm w3.heap.size q e q e wr)) (fun i _ => len1 - (intOf i).toNat)
        case atStart => exact ⟨0, 0, 0, Nat.zero_le _, Nat.zero_le _, rfl, HS⟩
        case round =>
          obtain ⟨j, q, e, hj, hj40, rfl, HI⟩ := hrel
          clear HS
          by_cases hl1 : j < len1
          · by_cases hl2 : j < 40
            · obtain ⟨d, hd⟩ : ∃ d, ds[j]? = some d := ⟨_, List.getElem?_eq_getElem (by rw [HD.out]; exact hl1)⟩
              obtain ⟨hok, b1, o1, rfl, hb1, f0, f1, f2, f3, f4⟩ := HR.out j d hd
              have fb := HI.out.base
              have F0 := (fb.cell (p := ⟨b1, o1 + j * 5, none⟩) hb1).trans f0
              have F1 := (fb.cell (p := ⟨b1, o1 + j * 5 + 1, none⟩) hb1).trans f1
              have F2 := (fb.cell (p := ⟨b1, o1 + j * 5 + 2, none⟩) hb1).trans f2
              have F3 := (fb.cell (p := ⟨b1, o1 + j * 5 + 3, none⟩) hb1).trans f3
              have F4 := (fb.cell (p := ⟨b1, o1 + j * 5 + 4, none⟩) hb1).trans f4
              have HS0 : Hid (∀ o, RS w w1.heap.size bl zs Am zs.length cm w3.heap.size q e q e (wr.alloc o)) := fun o => HI.out.below ((Below.refl _ wr).alloc (Nat.le_refl _) o)
              have HBL : Hid (bl < wr.heap.size) := Nat.lt_trans HI.out.hbm HI.out.lt
              obtain ⟨dk, dN, dm, dl, dh⟩ := d
              simp only at F0 F1 F2 F3 F4 hok
              have HOK := Lib.hid hok
              clear f0 f1 f2 f3 f4 fb hd HI hok
              have hl1' : (j : Int) < (len1 : Int) := by omega
              have hl2' : (j : Int) < 40 := by omega
              have hqn : q ≤ zs.length := (HS0.out (.cells #[] 5)).lens.place
              by_cases hk0 : dk = 0
              · subst hk0
                obtain ⟨x, hx⟩ : ∃ x, wordR (zs.drop q) 1 = x := ⟨_, rfl⟩
                obtain ⟨X, hX⟩ : ∃ X, ansI e x.1 = X := ⟨_, rfl⟩
                obtain ⟨q', hq'⟩ : ∃ q', placeOf q e x.2.1 = q' := ⟨_, rfl⟩
                obtain ⟨e', he'⟩ : ∃ e', errOf e x.2.2 = e' := ⟨_, rfl⟩
                have hXr : 0 ≤ X ∧ X ≤ 255 := by
                  have h := wordR_range1 (drop_bytes HZB.out q)
                  rw [hx] at h
                  have h2 := ansI_range (e := e) h.1 h.2 (by decide) (by decide)
                  rw [hX] at h2
                  exact h2
                have HA1 : Hid (∀ W, RS w w1.heap.size bl zs Am zs.length cm w3.heap.size q e q e W → Calls Try.prog 8 #[.pointer (some ⟨bl, 0, none⟩)] W fun r W1 => r = .returned (.int .u8 X) ∧ RS w w1.heap.size bl zs Am zs.length cm w3.heap.size q' e' q e W1 ∧ Off (fun j => j = bl) W W1) := fun W h =>
                  (lu8_any w1.heap.size bl zs q e W h.lens HZ9.out HZB.out).mono fun r W1 hr => by rw [hx] at hr; have h3 := h.int hr; rw [hX, hq', he'] at h3; exact ⟨h3.1, h3.2, hr.2.2⟩
                have HA2 : Hid (∀ W, RS w w1.heap.size bl zs Am zs.length cm w3.heap.size q' e' q e W → Calls Try.prog 9 #[RefL Am zs.length cm q e, .int .i64 1] W fun r W2 => r = .returned (.tuple #[RefL Am zs.length cm q' e', .int .u32 X]) ∧ RS w w1.heap.size bl zs Am zs.length cm w3.heap.size q' e' q e W2) := fun W h =>
                  (rword_any Am zs.length cm q e 1 zs W rfl HZ9.out hqn (by decide) HZB.out h.nums).mono fun r W2 hr => by rw [hx] at hr; rw [RefI, hX, hq', he'] at hr; exact ⟨hr.1, h.below hr.2⟩
                clear hx hX hq' he'
                go_wp2_with (first
                  | (go_at_call 8; refine (HA1.out _ (HS0.out _)).mono ?_; rintro r W1 ⟨rfl, hrs, ho⟩; obtain ⟨p0, p1, p2, p3, p4, p5⟩ := hrs.cells; clear ho; have HS1 := Lib.hid hrs; clear hrs)
                  | (go_at_call 9; refine (HA2.out _ HS1.out).mono ?_; rintro r W2 ⟨rfl, hrs⟩; obtain ⟨u0, u1, u2, u3, u4, u5⟩ := hrs.cells; have HS3 := Lib.hid (hrs.set (m' := q') (f' := e')); obtain ⟨s0, s1, s2, s3, s4, s5⟩ := HS3.out.cells; clear hrs)
                  | (go_at_call 22; refine (same_eq 0 none none 0 0 [] _ (by decide) Nums.nil Nums.nil).mono ?_; rintro r W5 ⟨rfl, nn, rfl⟩; have HS4 := Lib.hid (HS3.out.below (below_drewN (Below.refl _ _) nn)); obtain ⟨t0, t1, t2, t3, t4, t5⟩ := HS4.out.cells)
                  | (go_at_call 23; refine (alike_any _ _ _ _ _ _ _ _ _ HS4.out.lens rfl HZ9.out).mono ?_; rintro r W6 ⟨rfl, hb⟩; have HS5 := Lib.hid (HS4.out.below hb); clear hb))
                go_roundw
                case rel => exact ⟨j + 1, _, _, by omega, by omega, by go_num, HS5⟩
                case measure => simp [intOf]; omega
              by_cases hk1 : dk = 1
              · subst hk1
                obtain ⟨x, hx⟩ : ∃ x, wordR (zs.drop q) 2 = x := ⟨_, rfl⟩
                obtain ⟨X, hX⟩ : ∃ X, ansI e x.1 = X := ⟨_, rfl⟩
                obtain ⟨q', hq'⟩ : ∃ q', placeOf q e x.2.1 = q' := ⟨_, rfl⟩
                obtain ⟨e', he'⟩ : ∃ e', errOf e x.2.2 = e' := ⟨_, rfl⟩
                have hXr : 0 ≤ X ∧ X ≤ 65535 := by
                  have h := wordR_range2 (drop_bytes HZB.out q)
                  rw [hx] at h
                  have h2 := ansI_range (e := e) h.1 h.2 (by decide) (by decide)
                  rw [hX] at h2
                  exact h2
                have HA1 : Hid (∀ W, RS w w1.heap.size bl zs Am zs.length cm w3.heap.size q e q e W → Calls Try.prog 10 #[.pointer (some ⟨bl, 0, none⟩)] W fun r W1 => r = .returned (.int .u16 X) ∧ RS w w1.heap.size bl zs Am zs.length cm w3.heap.size q' e' q e W1 ∧ Off (fun j => j = bl) W W1) := fun W h =>
                  (lu16_any w1.heap.size bl zs q e W h.lens HZ9.out HZB.out).mono fun r W1 hr => by rw [hx] at hr; have h3 := h.int hr; rw [hX, hq', he'] at h3; exact ⟨h3.1, h3.2, hr.2.2⟩
                have HA2 : Hid (∀ W, RS w w1.heap.size bl zs Am zs.length cm w3.heap.size q' e' q e W → Calls Try.prog 9 #[RefL Am zs.length cm q e, .int .i64 2] W fun r W2 => r = .returned (.tuple #[RefL Am zs.length cm q' e', .int .u32 X]) ∧ RS w w1.heap.size bl zs Am zs.length cm w3.heap.size q' e' q e W2) := fun W h =>
                  (rword_any Am zs.length cm q e 2 zs W rfl HZ9.out hqn (by decide) HZB.out h.nums).mono fun r W2 hr => by rw [hx] at hr; rw [RefI, hX, hq', he'] at hr; exact ⟨hr.1, h.below hr.2⟩
                clear hx hX hq' he'
                go_wp2_with (first
                  | (go_at_call 10; refine (HA1.out _ (HS0.out _)).mono ?_; rintro r W1 ⟨rfl, hrs, ho⟩; obtain ⟨p0, p1, p2, p3, p4, p5⟩ := hrs.cells; clear ho; have HS1 := Lib.hid hrs; clear hrs)
                  | (go_at_call 9; refine (HA2.out _ HS1.out).mono ?_; rintro r W2 ⟨rfl, hrs⟩; obtain ⟨u0, u1, u2, u3, u4, u5⟩ := hrs.cells; have HS3 := Lib.hid (hrs.set (m' := q') (f' := e')); obtain ⟨s0, s1, s2, s3, s4, s5⟩ := HS3.out.cells; clear hrs)
                  | (go_at_call 22; refine (same_eq 0 none none 0 0 [] _ (by decide) Nums.nil Nums.nil).mono ?_; rintro r W5 ⟨rfl, nn, rfl⟩; have HS4 := Lib.hid (HS3.out.below (below_drewN (Below.refl _ _) nn)); obtain ⟨t0, t1, t2, t3, t4, t5⟩ := HS4.out.cells)
                  | (go_at_call 23; refine (alike_any _ _ _ _ _ _ _ _ _ HS4.out.lens rfl HZ9.out).mono ?_; rintro r W6 ⟨rfl, hb⟩; have HS5 := Lib.hid (HS4.out.below hb); clear hb))
                go_roundw
                case rel => exact ⟨j + 1, _, _, by omega, by omega, by go_num, HS5⟩
                case measure => simp [intOf]; omega
              by_cases hk2 : dk = 2
              · subst hk2
                obtain ⟨x, hx⟩ : ∃ x, wordR (zs.drop q) 4 = x := ⟨_, rfl⟩
                obtain ⟨X, hX⟩ : ∃ X, ansI e x.1 = X := ⟨_, rfl⟩
                obtain ⟨q', hq'⟩ : ∃ q', placeOf q e x.2.1 = q' := ⟨_, rfl⟩
                obtain ⟨e', he'⟩ : ∃ e', errOf e x.2.2 = e' := ⟨_, rfl⟩
                have hXr : 0 ≤ X ∧ X ≤ 4294967295 := by
                  have h := wordR_range (drop_bytes HZB.out q) (m := 4) (by decide)
                  rw [hx] at h
                  have h2 := ansI_range (e := e) h.1 h.2 (by decide) (by decide)
                  rw [hX] at h2
                  exact h2
                have HA1 : Hid (∀ W, RS w w1.heap.size bl zs Am zs.length cm w3.heap.size q e q e W → Calls Try.prog 11 #[.pointer (some ⟨bl, 0, none⟩)] W fun r W1 => r = .returned (.int .u32 X) ∧ RS w w1.heap.size bl zs Am zs.length cm w3.heap.size q' e' q e W1 ∧ Off (fun j => j = bl) W W1) := fun W h =>
                  (lu32_any w1.heap.size bl zs q e W h.lens HZ9.out HZB.out).mono fun r W1 hr => by rw [hx] at hr; have h3 := h.int hr; rw [hX, hq', he'] at h3; exact ⟨h3.1, h3.2, hr.2.2⟩
                have HA2 : Hid (∀ W, RS w w1.heap.size bl zs Am zs.length cm w3.heap.size q' e' q e W → Calls Try.prog 9 #[RefL Am zs.length cm q e, .int .i64 4] W fun r W2 => r = .returned (.tuple #[RefL Am zs.length cm q' e', .int .u32 X]) ∧ RS w w1.heap.size bl zs Am zs.length cm w3.heap.size q' e' q e W2) := fun W h =>
                  (rword_any Am zs.length cm q e 4 zs W rfl HZ9.out hqn (by decide) HZB.out h.nums).mono fun r W2 hr => by rw [hx] at hr; rw [RefI, hX, hq', he'] at hr; exact ⟨hr.1, h.below hr.2⟩
                clear hx hX hq' he'
                go_wp2_with (first
                  | (go_at_call 11; refine (HA1.out _ (HS0.out _)).mono ?_; rintro r W1 ⟨rfl, hrs, ho⟩; obtain ⟨p0, p1, p2, p3, p4, p5⟩ := hrs.cells; clear ho; have HS1 := Lib.hid hrs; clear hrs)
                  | (go_at_call 9; refine (HA2.out _ HS1.out).mono ?_; rintro r W2 ⟨rfl, hrs⟩; obtain ⟨u0, u1, u2, u3, u4, u5⟩ := hrs.cells; have HS3 := Lib.hid (hrs.set (m' := q') (f' := e')); obtain ⟨s0, s1, s2, s3, s4, s5⟩ := HS3.out.cells; clear hrs)
                  | (go_at_call 22; refine (same_eq 0 none none 0 0 [] _ (by decide) Nums.nil Nums.nil).mono ?_; rintro r W5 ⟨rfl, nn, rfl⟩; have HS4 := Lib.hid (HS3.out.below (below_drewN (Below.refl _ _) nn)); obtain ⟨t0, t1, t2, t3, t4, t5⟩ := HS4.out.cells)
                  | (go_at_call 23; refine (alike_any _ _ _ _ _ _ _ _ _ HS4.out.lens rfl HZ9.out).mono ?_; rintro r W6 ⟨rfl, hb⟩; have HS5 := Lib.hid (HS4.out.below hb); clear hb))
                go_roundw
                case rel => exact ⟨j + 1, _, _, by omega, by omega, by go_num, HS5⟩
                case measure => simp [intOf]; omega
              by_cases hk3 : dk = 3
              · subst hk3
                obtain ⟨x, hx⟩ : ∃ x, numR (zs.drop q) dm = x := ⟨_, rfl⟩
                obtain ⟨X, hX⟩ : ∃ X, ansI e x.1 = X := ⟨_, rfl⟩
                obtain ⟨q', hq'⟩ : ∃ q', placeOf q e x.2.1 = q' := ⟨_, rfl⟩
                obtain ⟨e', he'⟩ : ∃ e', errOf e x.2.2 = e' := ⟨_, rfl⟩
                have HA1 : Hid (∀ W, RS w w1.heap.size bl zs Am zs.length cm w3.heap.size q e q e W → Calls Try.prog 12 #[.pointer (some ⟨bl, 0, none⟩), .int .u64 dm] W fun r W1 => r = .returned (.int .u64 X) ∧ RS w w1.heap.size bl zs Am zs.length cm w3.heap.size q' e' q e W1 ∧ Off (fun j => j = bl) W W1) := fun W h =>
                  (lnum_any w1.heap.size bl zs q e W dm h.lens HZ9.out HZB.out).mono fun r W1 hr => by rw [hx] at hr; have h3 := h.int hr; rw [hX, hq', he'] at h3; exact ⟨h3.1, h3.2, hr.2.2⟩
                have HA2 : Hid (∀ W, RS w w1.heap.size bl zs Am zs.length cm w3.heap.size q' e' q e W → Calls Try.prog 13 #[RefL Am zs.length cm q e, .int .u64 dm] W fun r W2 => r = .returned (.tuple #[RefL Am zs.length cm q' e', .int .u64 X]) ∧ RS w w1.heap.size bl zs Am zs.length cm w3.heap.size q' e' q e W2) := fun W h =>
                  (rnum_any Am zs.length cm q e zs dm W rfl HZ9.out hqn HZB.out h.nums).mono fun r W2 hr => by rw [hx] at hr; rw [RefI, hX, hq', he'] at hr; exact ⟨hr.1, h.below hr.2⟩
                clear hx hX hq' he'
                go_wp2_with (first
                  | (go_at_call 12; refine (HA1.out _ (HS0.out _)).mono ?_; rintro r W1 ⟨rfl, hrs, ho⟩; obtain ⟨p0, p1, p2, p3, p4, p5⟩ := hrs.cells; obtain ⟨y1, y2, y3, y4⟩ := act_cells HBL.out ho; clear ho; have HS1 := Lib.hid hrs; clear hrs)
                  | (go_at_call 13; refine (HA2.out _ HS1.out).mono ?_; rintro r W2 ⟨rfl, hrs⟩; obtain ⟨u0, u1, u2, u3, u4, u5⟩ := hrs.cells; have HS3 := Lib.hid (hrs.set (m' := q') (f' := e')); obtain ⟨s0, s1, s2, s3, s4, s5⟩ := HS3.out.cells; clear hrs)
                  | (go_at_call 22; refine (same_eq 0 none none 0 0 [] _ (by decide) Nums.nil Nums.nil).mono ?_; rintro r W5 ⟨rfl, nn, rfl⟩; have HS4 := Lib.hid (HS3.out.below (below_drewN (Below.refl _ _) nn)); obtain ⟨t0, t1, t2, t3, t4, t5⟩ := HS4.out.cells)
                  | (go_at_call 23; refine (alike_any _ _ _ _ _ _ _ _ _ HS4.out.lens rfl HZ9.out).mono ?_; rintro r W6 ⟨rfl, hb⟩; have HS5 := Lib.hid (HS4.out.below hb); clear hb))
                go_roundw
                case rel => exact ⟨j + 1, _, _, by omega, by omega, by go_num, HS5⟩
                case measure => simp [intOf]; omega
              by_cases hk4 : dk = 4
              · subst hk4
                obtain ⟨x, hx⟩ : ∃ x, sigR (zs.drop q) dl dh = x := ⟨_, rfl⟩
                obtain ⟨X, hX⟩ : ∃ X, ansI e x.1 = X := ⟨_, rfl⟩
                obtain ⟨q', hq'⟩ : ∃ q', placeOf q e x.2.1 = q' := ⟨_, rfl⟩
                obtain ⟨e', he'⟩ : ∃ e', errOf e x.2.2 = e' := ⟨_, rfl⟩
                have HA1 : Hid (∀ W, RS w w1.heap.size bl zs Am zs.length cm w3.heap.size q e q e W → Calls Try.prog 14 #[.pointer (some ⟨bl, 0, none⟩), .int .i64 dl, .int .i64 dh] W fun r W1 => r = .returned (.int .i64 X) ∧ RS w w1.heap.size bl zs Am zs.length cm w3.heap.size q' e' q e W1 ∧ Off (fun j => j = bl) W W1) := fun W h =>
                  (lsig_any w1.heap.size bl zs q e W dl dh h.lens HZ9.out HZB.out).mono fun r W1 hr => by rw [hx] at hr; have h3 := h.int hr; rw [hX, hq', he'] at h3; exact ⟨h3.1, h3.2, hr.2.2⟩
                have HA2 : Hid (∀ W, RS w w1.heap.size bl zs Am zs.length cm w3.heap.size q' e' q e W → Calls Try.prog 15 #[RefL Am zs.length cm q e, .int .i64 dl, .int .i64 dh] W fun r W2 => r = .returned (.tuple #[RefL Am zs.length cm q' e', .int .i64 X]) ∧ RS w w1.heap.size bl zs Am zs.length cm w3.heap.size q' e' q e W2) := fun W h =>
                  (rsig_any Am zs.length cm q e zs dl dh W rfl HZ9.out hqn HZB.out h.nums).mono fun r W2 hr => by rw [hx] at hr; rw [RefI, hX, hq', he'] at hr; exact ⟨hr.1, h.below hr.2⟩
                clear hx hX hq' he'
                go_wp2_with (first
                  | (go_at_call 14; refine (HA1.out _ (HS0.out _)).mono ?_; rintro r W1 ⟨rfl, hrs, ho⟩; obtain ⟨p0, p1, p2, p3, p4, p5⟩ := hrs.cells; obtain ⟨y1, y2, y3, y4⟩ := act_cells HBL.out ho; clear ho; have HS1 := Lib.hid hrs; clear hrs)
                  | (go_at_call 15; refine (HA2.out _ HS1.out).mono ?_; rintro r W2 ⟨rfl, hrs⟩; obtain ⟨u0, u1, u2, u3, u4, u5⟩ := hrs.cells; have HS3 := Lib.hid (hrs.set (m' := q') (f' := e')); obtain ⟨s0, s1, s2, s3, s4, s5⟩ := HS3.out.cells; clear hrs)
                  | (go_at_call 22; refine (same_eq 0 none none 0 0 [] _ (by decide) Nums.nil Nums.nil).mono ?_; rintro r W5 ⟨rfl, nn, rfl⟩; have HS4 := Lib.hid (HS3.out.below (below_drewN (Below.refl _ _) nn)); obtain ⟨t0, t1, t2, t3, t4, t5⟩ := HS4.out.cells)
                  | (go_at_call 23; refine (alike_any _ _ _ _ _ _ _ _ _ HS4.out.lens rfl HZ9.out).mono ?_; rintro r W6 ⟨rfl, hb⟩; have HS5 := Lib.hid (HS4.out.below hb); clear hb))
                go_roundw
                case rel => exact ⟨j + 1, _, _, by omega, by omega, by go_num, HS5⟩
                case measure => simp [intOf]; omega
              by_cases hk5 : dk = 5
              · subst hk5
                obtain ⟨y, hy⟩ : ∃ y, rawR (zs.drop q) dN = y := ⟨_, rfl⟩
                have hyl : y.1.length ≤ 1000000000 := by rw [← hy]; exact Nat.le_trans (rawR_len _) (Nat.le_trans (drop_len zs q) HZ9.out)
                obtain ⟨Y, hY⟩ : ∃ Y, ansB e y.1 = Y := ⟨_, rfl⟩
                obtain ⟨q', hq'⟩ : ∃ q', placeOf q e y.2.1 = q' := ⟨_, rfl⟩
                obtain ⟨e', he'⟩ : ∃ e', errOf e y.2.2 = e' := ⟨_, rfl⟩
                have HYL : Hid (Y.length ≤ 9223372036854775807) := by rw [← hY]; exact ansB_len hyl
                obtain ⟨ny, hny⟩ : ∃ ny, Y.length = ny := ⟨_, rfl⟩
                have HB1 : Hid (∀ W, RS w w1.heap.size bl zs Am zs.length cm w3.heap.size q e q e W → Calls Try.prog 16 #[.pointer (some ⟨bl, 0, none⟩), .int .i64 dN] W fun r W1 => ∃ A2 c2 s, w3.heap.size < s ∧ r = .returned (.slice A2 ny c2) ∧ NumsIn .u8 W1 s W1.heap.size A2 Y ∧ RS w w1.heap.size bl zs Am zs.length cm w3.heap.size q' e' q e W1 ∧ Off (fun j => j = bl) W W1) := fun W h =>
                  (lraw_any w1.heap.size bl zs q e W dN h.lens HZ9.out).mono fun r W1 hr => by
                    rw [hy] at hr
                    obtain ⟨⟨A2, c2, h3, h4⟩, h5⟩ := h.bytes hr
                    rw [hY] at h3 h4
                    rw [hq', he'] at h5
                    rw [hny] at h3
                    exact ⟨A2, c2, _, h.lt, h3, h4, h5, hr.2.2⟩
                have HB2 : Hid (∀ W, RS w w1.heap.size bl zs Am zs.length cm w3.heap.size q' e' q e W → Calls Try.prog 17 #[RefL Am zs.length cm q e, .int .i64 dN] W fun r W2 => ∃ A3 c3 s, w3.heap.size < s ∧ r = .returned (.tuple #[RefL Am zs.length cm q' e', .slice A3 ny c3]) ∧ NumsIn .u8 W2 s W2.heap.size A3 Y ∧ Below W.heap.size W W2 ∧ RS w w1.heap.size bl zs Am zs.length cm w3.heap.size q' e' q e W2) := fun W h =>
                  (rraw_any Am zs.length cm q e zs dN W rfl HCM.out HZ9.out hqn h.nums).mono fun r W2 hr => by
                    rw [hy] at hr
                    obtain ⟨A3, c3, h3, h4, h5⟩ := hr
                    rw [hY] at h3 h4
                    rw [hq', he', hny] at h3
                    exact ⟨A3, c3, _, h.lt, h3, h4, h5, h.below h5⟩
                have HNY := Lib.hid hny
                clear hy hY hq' he' hyl hny
                go_wp2_with (first
                  | (go_at_call 16; refine (HB1.out _ (HS0.out _)).mono ?_; rintro r W1 ⟨A2, c2, z2, hz2, rfl, hn2, hrs, ho⟩; obtain ⟨p0, p1, p2, p3, p4, p5⟩ := hrs.cells; obtain ⟨y1, y2, y3, y4⟩ := act_cells HBL.out ho; clear ho; have HS1 := Lib.hid hrs; have HQ2 := Lib.hid hn2; have HZ2 := Lib.hid hz2; clear hrs hn2 hz2)
                  | (go_at_call 17; refine (HB2.out _ HS1.out).mono ?_; rintro r W2 ⟨A3, c3, z3, hz3, rfl, hn3, hb3, hrs⟩; obtain ⟨u0, u1, u2, u3, u4, u5⟩ := hrs.cells; have HY1 := Lib.hid (nums_set3 (v0 := .slice Am zs.length cm) (v1 := .int .i64 q') (v2 := .int .i64 e') (keep_in HQ2.out hb3) HZ2.out); have HY2 := Lib.hid (nums_set3 (v0 := .slice Am zs.length cm) (v1 := .int .i64 q') (v2 := .int .i64 e') hn3 hz3); have HS3 := Lib.hid (hrs.set (m' := q') (f' := e')); obtain ⟨s0, s1, s2, s3, s4, s5⟩ := HS3.out.cells; clear hrs hn3 hb3 hz3)
                  | (go_at_call 22; refine (same_len _ _ _ _ _ _ _ _ _ _ rfl HNY.out HNY.out (HNY.out ▸ HYL.out) HY1.out HY2.out).mono ?_; rintro r W5 ⟨rfl, nn, rfl⟩; have HS4 := Lib.hid (HS3.out.below (below_drewN (Below.refl _ _) nn)); obtain ⟨t0, t1, t2, t3, t4, t5⟩ := HS4.out.cells)
                  | (go_at_call 23; refine (alike_any _ _ _ _ _ _ _ _ _ HS4.out.lens rfl HZ9.out).mono ?_; rintro r W6 ⟨rfl, hb⟩; have HS5 := Lib.hid (HS4.out.below hb); clear hb))
                go_roundw
                case rel => exact ⟨j + 1, _, _, by omega, by omega, by go_num, HS5⟩
                case measure => simp [intOf]; omega
              by_cases hk6 : dk = 6
              · subst hk6
                obtain ⟨y, hy⟩ : ∃ y, fldR (zs.drop q) dN = y := ⟨_, rfl⟩
                have hyl : y.1.length ≤ 1000000000 := by rw [← hy]; exact Nat.le_trans (fldR_len _) (Nat.le_trans (drop_len zs q) HZ9.out)
                obtain ⟨Y, hY⟩ : ∃ Y, ansB e y.1 = Y := ⟨_, rfl⟩
                obtain ⟨q', hq'⟩ : ∃ q', placeOf q e y.2.1 = q' := ⟨_, rfl⟩
                obtain ⟨e', he'⟩ : ∃ e', errOf e y.2.2 = e' := ⟨_, rfl⟩
                have HYL : Hid (Y.length ≤ 9223372036854775807) := by rw [← hY]; exact ansB_len hyl
                obtain ⟨ny, hny⟩ : ∃ ny, Y.length = ny := ⟨_, rfl⟩
                have HB1 : Hid (∀ W, RS w w1.heap.size bl zs Am zs.length cm w3.heap.size q e q e W → Calls Try.prog 18 #[.pointer (some ⟨bl, 0, none⟩), .int .i64 dN] W fun r W1 => ∃ A2 c2 s, w3.heap.size < s ∧ r = .returned (.slice A2 ny c2) ∧ NumsIn .u8 W1 s W1.heap.size A2 Y ∧ RS w w1.heap.size bl zs Am zs.length cm w3.heap.size q' e' q e W1 ∧ Off (fun j => j = bl) W W1) := fun W h =>
                  (lfld_any w1.heap.size bl zs q e W dN HOK.out.1 HOK.out.2 h.lens HZ9.out HZB.out).mono fun r W1 hr => by
                    rw [hy] at hr
                    obtain ⟨⟨A2, c2, h3, h4⟩, h5⟩ := h.bytes hr
                    rw [hY] at h3 h4
                    rw [hq', he'] at h5
                    rw [hny] at h3
                    exact ⟨A2, c2, _, h.lt, h3, h4, h5, hr.2.2⟩
                have HB2 : Hid (∀ W, RS w w1.heap.size bl zs Am zs.length cm w3.heap.size q' e' q e W → Calls Try.prog 19 #[RefL Am zs.length cm q e, .int .i64 dN] W fun r W2 => ∃ A3 c3 s, w3.heap.size < s ∧ r = .returned (.tuple #[RefL Am zs.length cm q' e', .slice A3 ny c3]) ∧ NumsIn .u8 W2 s W2.heap.size A3 Y ∧ Below W.heap.size W W2 ∧ RS w w1.heap.size bl zs Am zs.length cm w3.heap.size q' e' q e W2) := fun W h =>
                  (rfld_all Am zs.length cm q e zs dN W rfl HCM.out HZ9.out hqn HZB.out HOK.out.2 h.nums).mono fun r W2 hr => by
                    rw [hy] at hr
                    obtain ⟨A3, c3, h3, h4, h5⟩ := hr
                    rw [hY] at h3 h4
                    rw [hq', he', hny] at h3
                    exact ⟨A3, c3, _, h.lt, h3, h4, h5, h.below h5⟩
                have HNY := Lib.hid hny
                clear hy hY hq' he' hyl hny
                go_wp2_with (first
                  | (go_at_call 18; refine (HB1.out _ (HS0.out _)).mono ?_; rintro r W1 ⟨A2, c2, z2, hz2, rfl, hn2, hrs, ho⟩; obtain ⟨p0, p1, p2, p3, p4, p5⟩ := hrs.cells; obtain ⟨y1, y2, y3, y4⟩ := act_cells HBL.out ho; clear ho; have HS1 := Lib.hid hrs; have HQ2 := Lib.hid hn2; have HZ2 := Lib.hid hz2; clear hrs hn2 hz2)
                  | (go_at_call 19; refine (HB2.out _ HS1.out).mono ?_; rintro r W2 ⟨A3, c3, z3, hz3, rfl, hn3, hb3, hrs⟩; obtain ⟨u0, u1, u2, u3, u4, u5⟩ := hrs.cells; have HY1 := Lib.hid (nums_set3 (v0 := .slice Am zs.length cm) (v1 := .int .i64 q') (v2 := .int .i64 e') (keep_in HQ2.out hb3) HZ2.out); have HY2 := Lib.hid (nums_set3 (v0 := .slice Am zs.length cm) (v1 := .int .i64 q') (v2 := .int .i64 e') hn3 hz3); have HS3 := Lib.hid (hrs.set (m' := q') (f' := e')); obtain ⟨s0, s1, s2, s3, s4, s5⟩ := HS3.out.cells; clear hrs hn3 hb3 hz3)
                  | (go_at_call 22; refine (same_len _ _ _ _ _ _ _ _ _ _ rfl HNY.out HNY.out (HNY.out ▸ HYL.out) HY1.out HY2.out).mono ?_; rintro r W5 ⟨rfl, nn, rfl⟩; have HS4 := Lib.hid (HS3.out.below (below_drewN (Below.refl _ _) nn)); obtain ⟨t0, t1, t2, t3, t4, t5⟩ := HS4.out.cells)
                  | (go_at_call 23; refine (alike_any _ _ _ _ _ _ _ _ _ HS4.out.lens rfl HZ9.out).mono ?_; rintro r W6 ⟨rfl, hb⟩; have HS5 := Lib.hid (HS4.out.below hb); clear hb))
                go_roundw
                case rel => exact ⟨j + 1, _, _, by omega, by omega, by go_num, HS5⟩
                case measure => simp [intOf]; omega
              by_cases hk7 : dk = 7
              · subst hk7
                obtain ⟨y, hy⟩ : ∃ y, rawR (zs.drop q) ((zs.length : Int) - q) = y := ⟨_, rfl⟩
                have hyl : y.1.length ≤ 1000000000 := by rw [← hy]; exact Nat.le_trans (rawR_len _) (Nat.le_trans (drop_len zs q) HZ9.out)
                obtain ⟨Y, hY⟩ : ∃ Y, ansB e y.1 = Y := ⟨_, rfl⟩
                obtain ⟨q', hq'⟩ : ∃ q', placeOf q e y.2.1 = q' := ⟨_, rfl⟩
                obtain ⟨e', he'⟩ : ∃ e', errOf e y.2.2 = e' := ⟨_, rfl⟩
                have HYL : Hid (Y.length ≤ 9223372036854775807) := by rw [← hY]; exact ansB_len hyl
                obtain ⟨ny, hny⟩ : ∃ ny, Y.length = ny := ⟨_, rfl⟩
                have HB1 : Hid (∀ W, RS w w1.heap.size bl zs Am zs.length cm w3.heap.size q e q e W → Calls Try.prog 20 #[.pointer (some ⟨bl, 0, none⟩)] W fun r W1 => ∃ A2 c2 s, w3.heap.size < s ∧ r = .returned (.slice A2 ny c2) ∧ NumsIn .u8 W1 s W1.heap.size A2 Y ∧ RS w w1.heap.size bl zs Am zs.length cm w3.heap.size q' e' q e W1 ∧ Off (fun j => j = bl) W W1) := fun W h =>
                  (lrest_any w1.heap.size bl zs q e W h.lens HZ9.out).mono fun r W1 hr => by
                    rw [hy] at hr
                    obtain ⟨⟨A2, c2, h3, h4⟩, h5⟩ := h.bytes hr
                    rw [hY] at h3 h4
                    rw [hq', he'] at h5
                    rw [hny] at h3
                    exact ⟨A2, c2, _, h.lt, h3, h4, h5, hr.2.2⟩
                have HB2 : Hid (∀ W, RS w w1.heap.size bl zs Am zs.length cm w3.heap.size q' e' q e W → Calls Try.prog 17 #[RefL Am zs.length cm q e, .int .i64 ((zs.length : Int) - q)] W fun r W2 => ∃ A3 c3 s, w3.heap.size < s ∧ r = .returned (.tuple #[RefL Am zs.length cm q' e', .slice A3 ny c3]) ∧ NumsIn .u8 W2 s W2.heap.size A3 Y ∧ Below W.heap.size W W2 ∧ RS w w1.heap.size bl zs Am zs.length cm w3.heap.size q' e' q e W2) := fun W h =>
                  (rraw_any Am zs.length cm q e zs ((zs.length : Int) - q) W rfl HCM.out HZ9.out hqn h.nums).mono fun r W2 hr => by
                    rw [hy] at hr
                    obtain ⟨A3, c3, h3, h4, h5⟩ := hr
                    rw [hY] at h3 h4
                    rw [hq', he', hny] at h3
                    exact ⟨A3, c3, _, h.lt, h3, h4, h5, h.below h5⟩
                have HNY := Lib.hid hny
                clear hy hY hq' he' hyl hny
                go_wp2_with (first
                  | (go_at_call 20; refine (HB1.out _ (HS0.out _)).mono ?_; rintro r W1 ⟨A2, c2, z2, hz2, rfl, hn2, hrs, ho⟩; obtain ⟨p0, p1, p2, p3, p4, p5⟩ := hrs.cells; clear ho; have HS1 := Lib.hid hrs; have HQ2 := Lib.hid hn2; have HZ2 := Lib.hid hz2; clear hrs hn2 hz2)
                  | (go_at_call 17; refine (HB2.out _ HS1.out).mono ?_; rintro r W2 ⟨A3, c3, z3, hz3, rfl, hn3, hb3, hrs⟩; obtain ⟨u0, u1, u2, u3, u4, u5⟩ := hrs.cells; have HY1 := Lib.hid (nums_set3 (v0 := .slice Am zs.length cm) (v1 := .int .i64 q') (v2 := .int .i64 e') (keep_in HQ2.out hb3) HZ2.out); have HY2 := Lib.hid (nums_set3 (v0 := .slice Am zs.length cm) (v1 := .int .i64 q') (v2 := .int .i64 e') hn3 hz3); have HS3 := Lib.hid (hrs.set (m' := q') (f' := e')); obtain ⟨s0, s1, s2, s3, s4, s5⟩ := HS3.out.cells; clear hrs hn3 hb3 hz3)
                  | (go_at_call 22; refine (same_len _ _ _ _ _ _ _ _ _ _ rfl HNY.out HNY.out (HNY.out ▸ HYL.out) HY1.out HY2.out).mono ?_; rintro r W5 ⟨rfl, nn, rfl⟩; have HS4 := Lib.hid (HS3.out.below (below_drewN (Below.refl _ _) nn)); obtain ⟨t0, t1, t2, t3, t4, t5⟩ := HS4.out.cells)
                  | (go_at_call 23; refine (alike_any _ _ _ _ _ _ _ _ _ HS4.out.lens rfl HZ9.out).mono ?_; rintro r W6 ⟨rfl, hb⟩; have HS5 := Lib.hid (HS4.out.below hb); clear hb))
                go_roundw
                case rel => exact ⟨j + 1, _, _, by omega, by omega, by go_num, HS5⟩
                case measure => simp [intOf]; omega
              by_cases hk8 : dk = 8
              · subst hk8
                obtain ⟨p0, p1, p2, p3, p4, p5⟩ := rs_cells HS0.out
                go_wp2_with (first
                  | (go_at_call 21; refine ((HS0.out _).words rfl HZ9.out HZB.out).mono ?_; rintro r W2 ⟨q', rfl, hrs⟩; obtain ⟨u0, u1, u2, u3, u4, u5⟩ := hrs.cells; have HS3 := Lib.hid (hrs.set (m' := q') (f' := e)); obtain ⟨s0, s1, s2, s3, s4, s5⟩ := HS3.out.cells; clear hrs)
                  | (go_at_call 22; refine (same_eq 0 none none 0 0 [] _ (by decide) Nums.nil Nums.nil).mono ?_; rintro r W5 ⟨rfl, nn, rfl⟩; have HS4 := Lib.hid (HS3.out.below (below_drewN (Below.refl _ _) nn)); obtain ⟨t0, t1, t2, t3, t4, t5⟩ := HS4.out.cells)
                  | (go_at_call 23; refine (alike_any _ _ _ _ _ _ _ _ _ HS4.out.lens rfl HZ9.out).mono ?_; rintro r W6 ⟨rfl, hb⟩; have HS5 := Lib.hid (HS4.out.below hb); clear hb))
                go_roundw
                case rel => exact ⟨j + 1, _, _, by omega, by omega, by go_num, HS5⟩
                case measure => simp [intOf]; omega
              · have t0 : (dk == 0) = false := by simp; omega
                have t1 : (dk == 1) = false := by simp; omega
                have t2 : (dk == 2) = false := by simp; omega
                have t3 : (dk == 3) = false := by simp; omega
                have t4 : (dk == 4) = false := by simp; omega
                have t5 : (dk == 5) = false := by simp; omega
                have t6 : (dk == 6) = false := by simp; omega
                have t7 : (dk == 7) = false := by simp; omega
                have t8 : (dk == 8) = false := by simp; omega
                have HS3 := Lib.hid (HS0.out (.cells #[.int .i64 dk, .int .i64 dN, .int .u64 dm, .int .i64 dl, .int .i64 dh] 30))
                clear hk0 hk1 hk2 hk3 hk4 hk5 hk6 hk7 hk8
                go_wp2_with (first
                  | (go_at_call 22; refine (same_eq 0 none none 0 0 [] _ (by decide) Nums.nil Nums.nil).mono ?_; rintro r W5 ⟨rfl, nn, rfl⟩; have HS4 := Lib.hid (HS3.out.below (below_drewN (Below.refl _ _) nn)); obtain ⟨t0, t1, t2, t3, t4, t5⟩ := HS4.out.cells)
                  | (go_at_call 23; refine (alike_any _ _ _ _ _ _ _ _ _ HS4.out.lens rfl HZ9.out).mono ?_; rintro r W6 ⟨rfl, hb⟩; have HS5 := Lib.hid (HS4.out.below hb); clear hb))
                go_roundw
                case rel => exact ⟨j + 1, _, _, by omega, by omega, by go_num, HS5⟩
                case measure => simp [intOf]; omega
            · have hl2' : ¬ (j : Int) < 40 := by omega
              go_wp2_with (go_at_call 24; refine (known3_any _).mono ?_; rintro e w2 ⟨rfl, hb⟩; have HB := Lib.hid hb; clear hb)
              go_ret
              exact ⟨rfl, HI.out.base.trans (HB.out.mono HI.out.base.size)⟩
          · have hl1' : ¬ (j : Int) < (len1 : Int) := by omega
            go_wp2_with (go_at_call 24; refine (known3_any _).mono ?_; rintro e w2 ⟨rfl, hb⟩; have HB := Lib.hid hb; clear hb)
            go_ret
            exact ⟨rfl, HI.out.base.trans (HB.out.mono HI.out.base.size)⟩
  all_goals first
    | (unfold maxLen; omega)
    | ((try simp only [List.length_nil]); (try unfold maxLen); have h1 := HZL.out; omega)
end Go.Proofs.Ytmilcmgohlfpiaa
