/-
  Contracts of the functions of layer 1 that make bytes: varint.Put and the document's Put.
-/
import Derived.Test.YtmilcmgohlfpiaaSame
import Derived.Test.YtmilcmgohlfpiaaNumGet
import Derived.Maps.AppendAt
namespace Go.Proofs.Ytmilcmgohlfpiaa
open Go.RowKit
set_option maxRecDepth 100000

/-- the bytes of numbers, one behind the other -/
def puts (zs : List Int) : List Int := zs.flatMap fun z => Vi.enc z.toNat
theorem puts_nil : puts [] = [] := rfl
theorem puts_append (a b : List Int) : puts (a ++ b) = puts a ++ puts b := by simp [puts]
theorem puts_one (z : Int) : puts [z] = Vi.enc z.toNat := by simp [puts]
theorem puts_byte (zs : List Int) : ∀ c ∈ puts zs, 0 ≤ c ∧ c ≤ 255 := by
  intro c hc
  simp only [puts, List.mem_flatMap] at hc
  obtain ⟨z, _, hc⟩ := hc
  exact Vi.enc_byte _ c hc
theorem puts_length (zs : List Int) (h : ∀ z ∈ zs, 0 ≤ z ∧ z ≤ 18446744073709551615) : (puts zs).length ≤ 10 * zs.length := by
  induction zs with
  | nil => simp [puts]
  | cons z zs ih =>
    have h1 := ih (fun x hx => h x (by simp [hx]))
    have h2 := Vi.enc_le10 (n := z.toNat) (by have := h z (by simp); omega)
    rw [show z :: zs = [z] ++ zs from rfl, puts_append, puts_one, List.length_append, List.length_append, List.length_singleton]
    omega
theorem take_more {zs : List Int} {k : Nat} {z : Int} (h : zs[k]? = some z) : zs.take (k + 1) = zs.take k ++ [z] := by
  have hk : k < zs.length := by
    rcases Nat.lt_or_ge k zs.length with h1 | h1
    · exact h1
    · rw [List.getElem?_eq_none h1] at h; simp at h
  rw [List.getElem?_eq_getElem hk] at h
  injection h with h
  rw [List.take_succ_eq_append_getElem hk, h]

theorem or128 (m : Nat) : bits .or .u8 (IntKind.u8.wrap (m : Int)) 128 = ((m % 128 + 128 : Nat) : Int) := by
  rw [IntKind.wrap_u8, show (m : Int) % 256 = ((m % 256 : Nat) : Int) by omega, show (128 : Int) = ((128 : Nat) : Int) from rfl, u8_or_nat _ _ (by omega) (by omega)]
  have h : m % 256 ||| 128 = m % 128 + 128 := by
    have h1 : ∀ i : Fin 256, i.val ||| 128 = i.val % 128 + 128 := by decide +kernel
    have := h1 ⟨m % 256, by omega⟩
    simp only at this
    omega
  rw [h]
theorem byteInfo : (Try.prog.info? 5).map (fun i => (i.zero, i.size, i.bytes)) = some (some (.int .u8 0), 1, 1) := by kernel_rfl

/-- bytes that a call has made -/
def Made (w w' : World) (L : List Int) (v : Value) : Prop := w'.ownsRow w.heap.size 5 1 v L.length (L.map (Value.int .u8)) ∧ Below w.heap.size w w'
theorem Made.nil (w : World) : Made w w [] (.slice none 0 0) := ⟨World.ownsRow_nil _ _ _ _, Below.refl _ _⟩
theorem Made.slice {w w' : World} {L : List Int} {v : Value} (h : Made w w' L v) : ∃ A c, v = .slice A L.length c ∧ L.length ≤ c ∧ Nums .u8 w' w'.heap.size A L := by
  have h1 := h.1
  obtain ⟨_, h2⟩ := h1
  rcases h2 with ⟨rfl, h0⟩ | ⟨g, cap, cur, rfl, hg, hh, hn, _⟩
  · have : L = [] := List.eq_nil_of_length_eq_zero h0
    subst this
    exact ⟨none, 0, rfl, by simp, Nums.nil⟩
  · exact ⟨some ⟨g, 0, none⟩, cap, rfl, hn, Nums.of_own h.1⟩
theorem Made.app {w w1 w2 : World} {L : List Int} {v v' : Value} {x y : Int} {o : Obj} (h : Made w w1 L v) (hown : w2.ownsRow w.heap.size 5 1 v' (L.length + 1) (L.map (Value.int .u8) ++ [.int .u8 x])) (hg : (w1.alloc o).grownBy w2 v.ownBlock) (hx : x = y) : Made w w2 (L ++ [y]) v' := by
  subst hx
  refine ⟨by simpa using hown, ((h.2.alloc h.2.size o).grown hg (by have := h.2.size; simp; omega) (fun k hk => ?_))⟩
  have hv := h.1
  obtain ⟨_, h2⟩ := hv
  rcases h2 with ⟨rfl, h0⟩ | ⟨g, cap, cur, rfl, hg, hh, hn, _⟩
  · simp [Value.ownBlock] at hk
  · simp [Value.ownBlock] at hk; omega

set_option maxHeartbeats 800000 in
theorem put_any (B : Nat) (a : Option Addr) (cap : Nat) (zs : List Int) (w : World) (hl : zs.length ≤ 1000000) (hz : ∀ c ∈ zs, 0 ≤ c ∧ c ≤ 18446744073709551615) (hB : B ≤ w.heap.size) (h1 : Nums .u64 w B a zs) :
    Calls Try.prog 56 #[.slice a zs.length cap] w fun e w' => ∃ v, e = .returned v ∧ Made w w' (puts zs) v := by
  have HZ := Lib.hid hz
  have HP := Lib.hid (puts_length zs hz)
  clear hz
  obtain ⟨i0, hi, hz0, hz1, hz2⟩ := info_parts byteInfo
  go_enter Try.func56, Try.ntmps56
  go_wp2
  go_loopw [3, 8] (fun v i wr => ∃ k : Nat, k ≤ zs.length ∧ i = .int .i64 k ∧ Made w wr (puts (zs.take k)) v) (fun _ i _ => zs.length - (intOf i).toNat)
  case atStart => exact ⟨0, by omega, rfl, Made.nil w⟩
  case round =>
    obtain ⟨k, hk, rfl, hm⟩ := hrel
    by_cases hlt : k < zs.length
    · obtain ⟨z, hz⟩ : ∃ z, zs[k]? = some z := ⟨_, List.getElem?_eq_getElem hlt⟩
      obtain ⟨b1, o1, rfl, hb1, hc1⟩ := (h1.below (hm.2.mono hB)).open hz
      have hzb := HZ.out z (List.mem_of_getElem? hz)
      have HT := Lib.hid (take_more hz)
      have HH1 := Lib.hid h1
      clear h1 hz
      have HL : Hid ((puts (zs.take k)).length + (Vi.enc z.toNat).length ≤ 10000010) := by
        have e1 := puts_length (zs.take k) (fun c hc => HZ.out c (List.mem_of_mem_take hc))
        have e2 := Vi.enc_le10 (n := z.toNat) (by omega)
        have e3 : (zs.take k).length ≤ 1000000 := by rw [List.length_take]; omega
        show _ ≤ _
        omega
      go_wp2
      go_loopw [3, 5] (fun v n wx => ∃ (m : Nat) (L : List Int), m ≤ 18446744073709551615 ∧ n = .int .u64 m ∧ Hid (L ++ Vi.enc m = puts (zs.take k) ++ Vi.enc z.toNat) ∧ Made w wx L v) (fun _ n _ => (intOf n).toNat)
      case atStart => exact ⟨z.toNat, _, by omega, by rw [Int.toNat_of_nonneg hzb.1], rfl, hm⟩
      case round =>
        obtain ⟨m, L, hm64, rfl, HE, hmx⟩ := hrel
        have hLl : L.length + (Vi.enc m).length ≤ 10000010 := by
          have e := congrArg List.length HE.out
          rw [List.length_append, List.length_append] at e
          have := HL.out
          omega
        have hep := Vi.enc_pos m
        have hsz := hmx.2.size
        by_cases h128 : 128 ≤ m
        · have h128' : (128 : Int) ≤ (m : Int) := by omega
          go_wp2_with (at_builtin; refine wpList_append_own _ rfl _ _ 22 rfl w.heap.size 5 i0 (.int .u8 0) 1 1 Try.underlying22 hi hz0 hz1 hz2 rfl (by decide) _ _ _ rfl (hmx.1.alloc _) ⟨wr.heap.size, 0, none⟩ 1 1 [_] rfl rfl (cell_one_new _ _ _) ?c2 ?c3 ?c4 ?c5 ?_)
          case c2 => intro u hu; simp at hu; subst hu; rfl
          case c3 => unfold maxLen; omega
          case c4 => omega
          case c5 => simp; omega
          intro v' w1 hown' hgrow _
          have HM := Lib.hid (hmx.app hown' hgrow (or128 m))
          clear hown' hgrow hmx hm
          go_wp2
          go_roundw
          case rel => exact ⟨m / 128, _, by omega, by go_num, by have := HE.out; rw [Vi.enc_big h128] at this; simpa [Hid] using this, HM.out⟩
          case measure => simp [intOf]; omega
        · have h128' : (m : Int) < 128 := by omega
          go_wp2_with (at_builtin; refine wpList_append_own _ rfl _ _ 22 rfl w.heap.size 5 i0 (.int .u8 0) 1 1 Try.underlying22 hi hz0 hz1 hz2 rfl (by decide) _ _ _ rfl (hmx.1.alloc _) ⟨wr.heap.size, 0, none⟩ 1 1 [_] rfl rfl (cell_one_new _ _ _) ?d2 ?d3 ?d4 ?d5 ?_)
          case d2 => intro u hu; simp at hu; subst hu; rfl
          case d3 => unfold maxLen; omega
          case d4 => omega
          case d5 => simp; omega
          intro v' w1 hown' hgrow _
          have HM := Lib.hid (hmx.app (y := (m : Int)) hown' hgrow (by first | rfl | (rw [IntKind.wrap_u8]; omega)))
          clear hown' hgrow hmx hm
          go_wp2
          go_roundw
          case rel =>
            have he := HE.out
            rw [Vi.enc_small (by omega)] at he
            refine ⟨k + 1, by omega, by go_num, ?_⟩
            rw [HT.out, puts_append, puts_one, ← he]
            exact HM.out
          case measure => simp [intOf]; omega
    · go_wp2
      go_ret
      rw [List.take_of_length_le (by omega)] at hm
      exact ⟨_, rfl, hm⟩


/-- Put of one number, that lies in a block of its own -/
theorem put_one (b : Nat) (x : Int) (w : World) (h0 : 0 ≤ x) (h1 : x ≤ 18446744073709551615) (hb : b < w.heap.size) (hc : w.cell? ⟨b, 0, none⟩ = some (.int .u64 x)) :
    Calls Try.prog 56 #[.slice (some ⟨b, 0, none⟩) 1 1] w fun e w' => ∃ A c, e = .returned (.slice A (Vi.enc x.toNat).length c) ∧ (Vi.enc x.toNat).length ≤ c ∧ Nums .u8 w' w'.heap.size A (Vi.enc x.toNat) ∧ Below w.heap.size w w' := by
  refine (put_any w.heap.size _ _ [x] w (by simp) (by simp; omega) (Nat.le_refl _) (fun _ => ⟨b, 0, rfl, hb, fun j c hj => ?_⟩)).mono ?_
  · cases j with
    | zero => simp at hj; subst hj; simpa using hc
    | succ j => simp at hj
  · rintro e w' ⟨v, rfl, hm⟩
    rw [puts_one] at hm
    obtain ⟨A, c, rfl, hlc, hn⟩ := hm.slice
    exact ⟨A, c, rfl, hlc, hn, hm.2⟩

/-- .. the length under a name of its own; what is made comes as a slice -/
theorem put_len (B : Nat) (a : Option Addr) (n cap : Nat) (zs : List Int) (w : World) (hn : zs.length = n) (hl : n ≤ 1000000) (hz : ∀ c ∈ zs, 0 ≤ c ∧ c ≤ 18446744073709551615) (hB : B ≤ w.heap.size) (h1 : Nums .u64 w B a zs) :
    Calls Try.prog 56 #[.slice a n cap] w fun e w' => ∃ A c, e = .returned (.slice A (puts zs).length c) ∧ (puts zs).length ≤ c ∧ Nums .u8 w' w'.heap.size A (puts zs) ∧ Below w.heap.size w w' := by
  subst hn
  refine (put_any B a cap zs w hl hz hB h1).mono ?_
  rintro e w' ⟨v, rfl, hm⟩
  obtain ⟨A, c, rfl, hlc, hn⟩ := hm.slice
  exact ⟨A, c, rfl, hlc, hn, hm.2⟩

end Go.Proofs.Ytmilcmgohlfpiaa
