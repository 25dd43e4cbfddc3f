/-
  The walk of PenFull.
-/
import Derived.Test.YtajeefnogdledaaDo
namespace Go.Proofs.Ytajeefnogdledaa
open Go.RowKit
set_option maxRecDepth 100000

/-- acts that came in: nil, or a row of structs -/
def ActRow (w : World) (A : Option Addr) (ds : List ActD) : Prop :=
  ∀ i d, ds[i]? = some d → d.ok ∧ ∃ b o AL AS AB nL cL nS cS nB cB, A = some ⟨b, o, none⟩ ∧ b < w.heap.size ∧ w.cell? ⟨b, o + i * 5, none⟩ = some (.int .i64 d.kind) ∧ w.cell? ⟨b, o + i * 5 + 1, none⟩ = some (.int .u32 d.N) ∧ w.cell? ⟨b, o + i * 5 + 2, none⟩ = some (.slice AL nL cL) ∧
    w.cell? ⟨b, o + i * 5 + 3, none⟩ = some (.slice AS nS cS) ∧ w.cell? ⟨b, o + i * 5 + 4, none⟩ = some (.slice AB nB cB) ∧ ActAt w w.heap.size d (.agg #[.int .i64 d.kind, .int .u32 d.N, .slice AL nL cL, .slice AS nS cS, .slice AB nB cB])

/-- an act's cells -/
def ActCells (w : World) (b o : Nat) (d : ActD) (AL AS AB : Option Addr) (nL cL nS cS nB cB : Nat) : Prop :=
  w.cell? ⟨b, o, none⟩ = some (.int .i64 d.kind) ∧ w.cell? ⟨b, o + 1, none⟩ = some (.int .u32 d.N) ∧ w.cell? ⟨b, o + 2, none⟩ = some (.slice AL nL cL) ∧ w.cell? ⟨b, o + 3, none⟩ = some (.slice AS nS cS) ∧ w.cell? ⟨b, o + 4, none⟩ = some (.slice AB nB cB)
theorem ActCells.below {w w' : World} {b o B : Nat} {d : ActD} {AL AS AB : Option Addr} {nL cL nS cS nB cB : Nat} (h : ActCells w b o d AL AS AB nL cL nS cS nB cB) (hb : Below B w w') (hlt : b < B) : ActCells w' b o d AL AS AB nL cL nS cS nB cB := by
  obtain ⟨c0, c1, c2, c3, c4⟩ := h
  exact ⟨(hb.cell hlt).trans c0, (hb.cell hlt).trans c1, (hb.cell hlt).trans c2, (hb.cell hlt).trans c3, (hb.cell hlt).trans c4⟩
theorem ActRow.get {w wr : World} {A : Option Addr} {ds : List ActD} {k : Nat} {d : ActD} (h : ActRow w A ds) (hk : ds[k]? = some d) (hb : Below w.heap.size w wr) : d.ok ∧ ∃ b o AL AS AB nL cL nS cS nB cB, A = some ⟨b, o, none⟩ ∧ b < w.heap.size ∧ Hid (ActCells wr b (o + k * 5) d AL AS AB nL cL nS cS nB cB) ∧
    Hid (ActAt wr w.heap.size d (.agg #[.int .i64 d.kind, .int .u32 d.N, .slice AL nL cL, .slice AS nS cS, .slice AB nB cB])) := by
  obtain ⟨hok, b, o, AL, AS, AB, nL, cL, nS, cS, nB, cB, e, hlt, c0, c1, c2, c3, c4, ha⟩ := h k d hk
  exact ⟨hok, b, o, AL, AS, AB, nL, cL, nS, cS, nB, cB, e, hlt, ⟨(hb.cell hlt).trans c0, (hb.cell hlt).trans c1, (hb.cell hlt).trans c2, (hb.cell hlt).trans c3, (hb.cell hlt).trans c4⟩, ha.kept hb⟩

/-- behind a write: the pen, and bytes of old -/
def FS (w0 : World) (g : Nat) (room : Int) (L : List Int) (f : Bool) (A : Option Addr) (L0 : List Int) (x : World) : Prop := PenAt x w0.heap.size g room L f ∧ w0.heap.size ≤ g ∧ Below w0.heap.size w0 x ∧ Nums .u8 x x.heap.size A L0
section
variable {w0 x y : World} {g : Nat} {room : Int} {L L0 : List Int} {f : Bool} {A : Option Addr}
theorem FS.below (h : FS w0 g room L f A L0 x) (hb : Below x.heap.size x y) : FS w0 g room L f A L0 y := by
  obtain ⟨h1, h2, h3, h4⟩ := h
  exact ⟨h1.below hb, h2, h3.trans (hb.mono (by have := h1.lt; omega)), (h4.below hb).mono hb.size⟩
theorem FS.bytes (h : FS w0 g room L f A L0 x) (hl : L.length ≤ 1000000000) : Calls Try.prog 13 #[.pointer (some ⟨w0.heap.size, 0, none⟩)] x fun e y => ∃ A2 c2, e = .returned (.slice A2 L.length c2) ∧ L.length ≤ c2 ∧ Nums .u8 y y.heap.size A2 L ∧ FS w0 g room L f A L0 y :=
  (Bytes_any _ g room L f x h.1 hl).mono fun e y ⟨v, he, hm⟩ => by
    obtain ⟨A2, c2, rfl, hc, hn⟩ := hm.slice
    exact ⟨A2, c2, he, hc, hn, h.below hm.2⟩
end
/-- what holds at a round's head -/
def FullInv (w : World) (room : Int) (L : List Int) (f : Bool) (wr : World) : Prop := Pn w.heap.size w w.heap.size room L f wr ∧ (L.length : Int) ≤ room
/-- one write, as the law's round sees it -/
theorem full_do {w wr w2 : World} {room : Int} {L L0 : List Int} {f : Bool} {g : Nat} {A : Option Addr} {d : ActD} {v : Value} (h0 : 0 ≤ room) (h1 : room ≤ 9223372036854775807) (hl : L.length + 1000 ≤ 1000000000) (hp : PenAt wr w.heap.size g room L f) (hg : w.heap.size ≤ g) (hb : Below w.heap.size w wr) (hn : Nums .u8 wr wr.heap.size A L0) (hA : L0 ≠ [] → ∀ q, blockOf A q → ¬ penS w.heap.size g q)
    (hw2 : Below wr.heap.size wr w2) (ha : ActAt w2 w.heap.size d v) (hok : d.ok) (hs : d.short) :
    Calls Try.prog 11 #[.pointer (some ⟨w.heap.size, 0, none⟩), v] w2 fun e w3 => e = .returned (.int .i64 (codeOf (fullNext room L f (actBytes d).length))) ∧ ∃ g3, FS w g3 room (bytesNext room L f (actBytes d)) (fullNext room L f (actBytes d).length) A L0 w3 :=
  (do_any w.heap.size g room L f w2 w.heap.size d v (hp.below hw2) h0 h1 hl (Nat.le_refl _) hg ha hok hs).mono fun e w3 ⟨he, g3, q1, q2, q3⟩ => by
    have hlt := (hp.below hw2).lt
    refine ⟨he, g3, q1, by rcases q3 with q3 | q3 <;> omega, (hb.trans (hw2.mono (by have := hp.lt; omega))).trans (q2.below ?_ (by omega)), ((((hn.below hw2).mono hw2.size).off q2 hA).mono q2.size)⟩
    rintro k (rfl | rfl) <;> omega

set_option maxHeartbeats 2000000 in
theorem full_go (a0 : Int) (A : Option Addr) (len cap : Nat) (ds : List ActD) (w : World) (hlen : ds.length = len) (hlc : len ≤ 9223372036854775807) (hr : ActRow w A ds) :
    Calls Try.prog 4 #[.int .i64 a0, .slice A len cap] w fun e w' => e = .returned (.bool true) ∧ Below w.heap.size w w' := by
  have HR := Lib.hid hr
  have HD := Lib.hid hlen
  clear hr hlen
  obtain ⟨room, hroom⟩ : ∃ r : Int, wrap64 ((IntKind.u64.wrap a0).tmod 2000) = r := ⟨_, rfl⟩
  have hr01 : 0 ≤ room ∧ room ≤ 1999 := by
    rw [IntKind.wrap_u64] at hroom
    have e : (a0 % 18446744073709551616).tmod 2000 = (a0 % 18446744073709551616) % 2000 := Int.tmod_eq_emod_of_nonneg (by omega)
    rw [e] at hroom
    unfold wrap64 at hroom
    omega
  obtain ⟨hr0, hr1⟩ := hr01
  have hrm : max room 0 = room := by omega
  have HN0 := new_any room w (by omega) (by omega)
  rw [hrm] at HN0
  clear hrm
  go_enter Try.func4, Try.ntmps4
  go_wp2_with (go_at_call 7; refine HN0.mono ?_; rintro e w1 ⟨rfl, hp, hb⟩; have HP1 : Hid (FullInv w room [] false w1) := ⟨⟨_, hp, Nat.le_refl _, Nat.le_refl _, hb⟩, hr0⟩; clear hp hb HN0)
  go_loopw [6, 7] (fun f i wr => ∃ (k : Nat) (L : List Int) (fl : Bool), k ≤ len ∧ k ≤ 40 ∧ i = .int .i64 k ∧ f = .bool fl ∧ Hid (FullInv w room L fl wr)) (fun _ i _ => len - (intOf i).toNat)
  case atStart => exact ⟨0, [], false, by omega, by omega, rfl, rfl, HP1⟩
  case round =>
    obtain ⟨k, L, fl, hk, hk40, rfl, rfl, HI⟩ := hrel
    have HBW := Lib.hid HI.out.1.base
    by_cases hlt : k < len
    · by_cases hl4 : k < 40
      · obtain ⟨d, hd⟩ : ∃ d, ds[k]? = some d := ⟨_, List.getElem?_eq_getElem (by rw [HD.out]; exact hlt)⟩
        obtain ⟨hok, b1, o1, AL, AS, AB, nL, cL, nS, cS, nB, cB, rfl, hb1, HCELL, HACT⟩ := HR.out.get hd HBW.out
        have hcok := hok.cut
        have hsh := d.cut_short
        have hnb := actBytes_length hcok hsh
        have hLr := HI.out.2
        obtain ⟨g, hp, _, hg, hb⟩ := HI.out.1
        have HSZ := Lib.hid HI.out.1.size
        have HP := Lib.hid hp
        have hLb : L.length ≤ 1000000000 := by omega
        have hL63 : L.length ≤ 9223372036854775807 := by omega
        have hlti : (k : Int) < (len : Int) := by omega
        have hdo : ∀ w1 w2 A1 c1 v', Made wr w1 L (.slice A1 L.length c1) → Nums .u8 w1 w1.heap.size A1 L → Below w1.heap.size w1 w2 → ActAt w2 w.heap.size d.cut v' → Calls Try.prog 11 #[.pointer (some ⟨w.heap.size, 0, none⟩), v'] w2 fun e w3 => e = .returned (.int .i64 (codeOf (fullNext room L fl (actBytes d.cut).length))) ∧ ∃ g3, FS w g3 room (bytesNext room L fl (actBytes d.cut)) (fullNext room L fl (actBytes d.cut).length) A1 L w3 := fun w1 w2 A1 c1 v' hm hn hb2 ha => by
          refine full_do (wr := w1) hr0 (by omega) (by omega) (hp.below hm.2) hg (hb.trans (hm.2.mono HSZ.out)) hn ?_ hb2 ha hcok hsh
          intro _ q hq hpq
          have h1 := hp.lt
          have h2 := hp.glt
          obtain ⟨o, s, rfl⟩ := hq
          have h3 := (hm.1.lt q rfl).1
          rcases hpq with h | h <;> omega
        clear hd hok hp hb hcok hsh hg
        cases hfn : fullNext room L fl (actBytes d.cut).length with
        | true =>
          have hbn : bytesNext room L fl (actBytes d.cut) = L := by unfold bytesNext; rw [hfn]; rfl
          rw [hfn, hbn, show codeOf true = 2 from rfl] at hdo
          have hLb2 := hLb
          have HLR := Lib.hid hLr
          clear hfn hbn hnb
          cases fl with
          | true =>
            have TOL : Hid (∀ {y : World} {A2 : Option Addr}, Nums .u8 y y.heap.size A2 (L) → Nums .u8 y y.heap.size A2 L) := fun {y A2} h => by exact h
            have HDO := Lib.hid hdo
            clear hdo
            go_wp2_with (first
              | (go_at_call 13; refine (HS.out.bytes hLb2).mono ?_; rintro e w4 ⟨A2, c2, rfl, hc2, hn2, hs2⟩; replace HS := Lib.hid hs2; have HN2 := Lib.hid (TOL.out hn2); have hcL : L.length ≤ c2 := Nat.le_trans (Nat.le_refl _) hc2; clear hs2 hn2 hc2)
              | (go_at_call 13; refine (Bytes_any _ g room L true wr HP.out hLb).mono ?_; rintro e w1 ⟨v, rfl, hm⟩; obtain ⟨A1, c1, rfl, hc1, hn1⟩ := hm.slice; have HM1 := Lib.hid hm; have HB1 := Lib.hid hm.2; obtain ⟨q0, q1, q2, q3, q4⟩ := HCELL.out.below (hm.2.mono HSZ.out) hb1; have HACT1 := Lib.hid (HACT.out.kept (hm.2.mono HSZ.out)); have HN1 := Lib.hid hn1; have hsz1 := hm.2.size; clear hm hn1 hc1)
              | (go_at_call 8; refine (cut_any w1 w.heap.size d _ HACT1.out (Nat.le_trans HSZ.out hsz1)).mono ?_; rintro e w2 ⟨v', rfl, ha2, hb2⟩; have HACT2 := Lib.hid ha2; have HB2 := Lib.hid hb2; clear ha2 hb2)
              | (go_at_call 11; refine (HDO.out w1 w2 A1 c1 v' HM1.out HN1.out HB2.out HACT2.out).mono ?_; rintro e w3 ⟨rfl, g3, hs⟩; have HS := Lib.hid hs; clear hs)
              | (go_at_call 14; refine (len_any _ _ _ _ _ _ HS.out.1).mono ?_; rintro e w4 ⟨rfl, rfl⟩)
              | (go_at_call 16; refine (err_any _ _ _ _ _ _ HS.out.1).mono ?_; rintro e w4 ⟨rfl, rfl⟩)
              | (go_at_call 12; refine (same_len _ _ _ L.length L.length _ _ L L _ rfl rfl rfl hL63 HN2.out HS.out.2.2.2).mono ?_; rintro e w5 ⟨rfl, n, rfl⟩; replace HS := Lib.hid (HS.out.below (below_drewN (Below.refl _ _) n))))
            go_roundw
            case rel => exact ⟨k + 1, L, true, by omega, by omega, by go_num, rfl, ⟨⟨_, HS.out.1, Nat.le_refl _, HS.out.2.1, HS.out.2.2.1⟩, HLR.out⟩⟩
            case measure => simp [intOf]; omega
          | false =>
            have TOL : Hid (∀ {y : World} {A2 : Option Addr}, Nums .u8 y y.heap.size A2 (L) → Nums .u8 y y.heap.size A2 L) := fun {y A2} h => by exact h
            have HDO := Lib.hid hdo
            clear hdo
            go_wp2_with (first
              | (go_at_call 13; refine (HS.out.bytes hLb2).mono ?_; rintro e w4 ⟨A2, c2, rfl, hc2, hn2, hs2⟩; replace HS := Lib.hid hs2; have HN2 := Lib.hid (TOL.out hn2); have hcL : L.length ≤ c2 := Nat.le_trans (Nat.le_refl _) hc2; clear hs2 hn2 hc2)
              | (go_at_call 13; refine (Bytes_any _ g room L false wr HP.out hLb).mono ?_; rintro e w1 ⟨v, rfl, hm⟩; obtain ⟨A1, c1, rfl, hc1, hn1⟩ := hm.slice; have HM1 := Lib.hid hm; have HB1 := Lib.hid hm.2; obtain ⟨q0, q1, q2, q3, q4⟩ := HCELL.out.below (hm.2.mono HSZ.out) hb1; have HACT1 := Lib.hid (HACT.out.kept (hm.2.mono HSZ.out)); have HN1 := Lib.hid hn1; have hsz1 := hm.2.size; clear hm hn1 hc1)
              | (go_at_call 8; refine (cut_any w1 w.heap.size d _ HACT1.out (Nat.le_trans HSZ.out hsz1)).mono ?_; rintro e w2 ⟨v', rfl, ha2, hb2⟩; have HACT2 := Lib.hid ha2; have HB2 := Lib.hid hb2; clear ha2 hb2)
              | (go_at_call 11; refine (HDO.out w1 w2 A1 c1 v' HM1.out HN1.out HB2.out HACT2.out).mono ?_; rintro e w3 ⟨rfl, g3, hs⟩; have HS := Lib.hid hs; clear hs)
              | (go_at_call 14; refine (len_any _ _ _ _ _ _ HS.out.1).mono ?_; rintro e w4 ⟨rfl, rfl⟩)
              | (go_at_call 16; refine (err_any _ _ _ _ _ _ HS.out.1).mono ?_; rintro e w4 ⟨rfl, rfl⟩)
              | (go_at_call 12; refine (same_len _ _ _ L.length L.length _ _ L L _ rfl rfl rfl hL63 HN2.out HS.out.2.2.2).mono ?_; rintro e w5 ⟨rfl, n, rfl⟩; replace HS := Lib.hid (HS.out.below (below_drewN (Below.refl _ _) n))))
            go_roundw
            case rel => exact ⟨k + 1, L, true, by omega, by omega, by go_num, rfl, ⟨⟨_, HS.out.1, Nat.le_refl _, HS.out.2.1, HS.out.2.2.1⟩, HLR.out⟩⟩
            case measure => simp [intOf]; omega
        | false =>
          have hbn : bytesNext room L fl (actBytes d.cut) = L ++ actBytes d.cut := by unfold bytesNext; rw [hfn]; rfl
          have hfl : fl = false := by
            cases fl with
            | true => simp [fullNext] at hfn
            | false => rfl
          subst hfl
          rw [hfn, hbn, show codeOf false = 0 from rfl] at hdo
          obtain ⟨nb, hnbe⟩ : ∃ nb, actBytes d.cut = nb := ⟨_, rfl⟩
          rw [hnbe] at hdo hnb hfn
          have hno : (L.length : Int) + nb.length ≤ room := by
            simp [fullNext] at hfn; omega
          have hLb2 : (L ++ nb).length ≤ 1000000000 := by rw [List.length_append]; omega
          have HLR : Hid (((L ++ nb).length : Int) ≤ room) := by show _ ≤ _; rw [List.length_append]; omega
          clear hfn hbn hnbe
          have TOL : Hid (∀ {y : World} {A2 : Option Addr}, Nums .u8 y y.heap.size A2 (L ++ nb) → Nums .u8 y y.heap.size A2 L) := fun {y A2} h => by have := h.take L.length; rwa [List.take_left] at this
          have HDO := Lib.hid hdo
          clear hdo
          go_wp2_with (first
            | (go_at_call 13; refine (HS.out.bytes hLb2).mono ?_; rintro e w4 ⟨A2, c2, rfl, hc2, hn2, hs2⟩; replace HS := Lib.hid hs2; have HN2 := Lib.hid (TOL.out hn2); have hcL : L.length ≤ c2 := Nat.le_trans (by rw [List.length_append]; exact Nat.le_add_right _ _) hc2; clear hs2 hn2 hc2)
            | (go_at_call 13; refine (Bytes_any _ g room L false wr HP.out hLb).mono ?_; rintro e w1 ⟨v, rfl, hm⟩; obtain ⟨A1, c1, rfl, hc1, hn1⟩ := hm.slice; have HM1 := Lib.hid hm; have HB1 := Lib.hid hm.2; obtain ⟨q0, q1, q2, q3, q4⟩ := HCELL.out.below (hm.2.mono HSZ.out) hb1; have HACT1 := Lib.hid (HACT.out.kept (hm.2.mono HSZ.out)); have HN1 := Lib.hid hn1; have hsz1 := hm.2.size; clear hm hn1 hc1)
            | (go_at_call 8; refine (cut_any w1 w.heap.size d _ HACT1.out (Nat.le_trans HSZ.out hsz1)).mono ?_; rintro e w2 ⟨v', rfl, ha2, hb2⟩; have HACT2 := Lib.hid ha2; have HB2 := Lib.hid hb2; clear ha2 hb2)
            | (go_at_call 11; refine (HDO.out w1 w2 A1 c1 v' HM1.out HN1.out HB2.out HACT2.out).mono ?_; rintro e w3 ⟨rfl, g3, hs⟩; have HS := Lib.hid hs; clear hs)
            | (go_at_call 14; refine (len_any _ _ _ _ _ _ HS.out.1).mono ?_; rintro e w4 ⟨rfl, rfl⟩)
            | (go_at_call 16; refine (err_any _ _ _ _ _ _ HS.out.1).mono ?_; rintro e w4 ⟨rfl, rfl⟩)
            | (go_at_call 12; refine (same_len _ _ _ L.length L.length _ _ L L _ rfl rfl rfl hL63 HN2.out HS.out.2.2.2).mono ?_; rintro e w5 ⟨rfl, n, rfl⟩; replace HS := Lib.hid (HS.out.below (below_drewN (Below.refl _ _) n))))
          go_roundw
          case rel => exact ⟨k + 1, L ++ nb, false, by omega, by omega, by go_num, rfl, ⟨⟨_, HS.out.1, Nat.le_refl _, HS.out.2.1, HS.out.2.2.1⟩, HLR.out⟩⟩
          case measure => simp [intOf]; omega
      · go_wp2_with (go_at_call 17; refine (known_any _).mono ?_; rintro e w2 ⟨rfl, hb⟩; have HB := Lib.hid hb; clear hb)
        go_ret
        exact ⟨rfl, HBW.out.trans (HB.out.mono HBW.out.size)⟩
    · go_wp2_with (go_at_call 17; refine (known_any _).mono ?_; rintro e w2 ⟨rfl, hb⟩; have HB := Lib.hid hb; clear hb)
      go_ret
      exact ⟨rfl, HBW.out.trans (HB.out.mono HBW.out.size)⟩
end Go.Proofs.Ytajeefnogdledaa
