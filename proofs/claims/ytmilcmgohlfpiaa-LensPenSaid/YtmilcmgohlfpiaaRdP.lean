/-
  What was written is read: each piece, with whatever stands behind it. A lens and what is left of its bytes.
-/
import Derived.Test.YtmilcmgohlfpiaaKnown3
import Derived.Test.YtmilcmgohlfpiaaPnA
namespace Go.Proofs.Ytmilcmgohlfpiaa
open Go.RowKit
set_option maxRecDepth 100000

theorem zag_zig (z : Int) : zagZ (zigZ z) = z := by unfold zagZ zigZ; split <;> split <;> omega
theorem get_seg (n : Int) (R : List Int) (h0 : 0 ≤ n) (h1 : n ≤ 18446744073709551615) : Vi.get (Vi.enc n.toNat ++ R) = (n.toNat, (Vi.enc n.toNat).length, 0) := Vi.get_enc (by omega) R
theorem num_seg (n : Int) (R : List Int) (h0 : 0 ≤ n) (h1 : n ≤ 18446744073709551615) : numR (Vi.enc n.toNat ++ R) n = (n, (Vi.enc n.toNat).length, 0) := by
  unfold numR
  rw [get_seg n R h0 h1]
  simp only
  rw [if_neg (by simp), if_neg (by omega), Int.toNat_of_nonneg h0]
theorem sig_seg (z : Int) (R : List Int) (h0 : -9223372036854775808 ≤ z) (h1 : z ≤ 9223372036854775807) : sigR (Vi.enc (zigZ z).toNat ++ R) z z = (z, (Vi.enc (zigZ z).toNat).length, 0) := by
  have hr := zigZ_range h0 h1
  unfold sigR
  rw [get_seg _ R hr.1 hr.2]
  simp only
  rw [if_neg (by simp), Int.toNat_of_nonneg hr.1, zag_zig, if_neg (by omega)]
theorem fld_seg (f R : List Int) (n : Nat) (hf : f.length = n) (hn : n ≤ 1000) : fldR (Vi.enc n ++ f ++ R) n = (f, (Vi.enc n).length + n, 0) := by
  have hg : Vi.get (Vi.enc n ++ (f ++ R)) = (n, (Vi.enc n).length, 0) := Vi.get_enc (by omega) _
  rw [List.append_assoc]
  unfold fldR
  rw [hg]
  simp only
  rw [if_neg (by simp), if_neg (by omega), if_neg (by simp; omega), List.drop_left', List.take_left' hf]
  rfl
theorem raw_seg (f R : List Int) (n : Nat) (hf : f.length = n) : rawR (f ++ R) n = (f, n, 0) := by
  unfold rawR
  rw [if_neg (by omega), if_neg (by simp; omega), Int.toNat_natCast, List.take_left' hf]
theorem word_seg (f R : List Int) (n : Nat) (x : Int) (hf : f.length = n) (hx : le f = x) : wordR (f ++ R) n = (x, n, 0) := by
  unfold wordR
  rw [if_neg (by simp; omega), List.take_left' hf, hx]
theorem le1 (a : Int) : le [a] = a := by simp [le]
theorem le2 (b : Int) : le [b % 256, b / 256] = b := by simp only [le]; omega
theorem le4 (c : Int) : le [c % 256, c / 256 % 256, c / 65536 % 256, c / 16777216] = c := by simp only [le]; omega

/-- a lens above block B, of which the bytes R are left, and no error is told -/
def At (B : Nat) (w0 : World) (b : Nat) (zs R : List Int) (w : World) : Prop := ∃ lo p, Ln B w0 lo b zs p 0 w ∧ zs.drop p = R
section
variable {B b : Nat} {w0 w w' : World} {zs R f : List Int} {k : IntKind} {x : Int × Nat × Nat} {y : List Int × Nat × Nat} {r : Ending}
theorem At.base (h : At B w0 b zs R w) : Below B w0 w := by
  obtain ⟨lo, p, h1, _⟩ := h
  exact h1.2.2
theorem At.size (h : At B w0 b zs R w) : B ≤ w.heap.size := by
  obtain ⟨lo, p, h1, _⟩ := h
  exact h1.size
theorem At.below (h : At B w0 b zs R w) (hb : Below w.heap.size w w') : At B w0 b zs R w' := by
  obtain ⟨lo, p, h1, h2⟩ := h
  exact ⟨lo, p, h1.below hb, h2⟩
theorem at_drop {p s : Nat} (h : zs.drop p = f ++ R) (hs : f.length = s) : zs.drop (p + s) = R := by
  rw [← List.drop_drop, h, List.drop_left' hs]
/-- a number of the piece f is read -/
theorem At.int {lo p : Nat} {v : Int} {s : Nat} (h : Ln B w0 lo b zs p 0 w) (hd : zs.drop p = f ++ R) (hs : f.length = s) (hr : ReadI k lo b zs p 0 (v, s, 0) w r w') : r = .returned (.int k v) ∧ At B w0 b zs R w' := by
  have h2 := h.int hr
  simp only [ansI, placeOf, errOf, if_true] at h2
  exact ⟨h2.1, lo, _, h2.2, at_drop hd hs⟩
theorem at_u8 (a : Int) (h : At B w0 b zs ([a] ++ R) w) (hl : zs.length ≤ 1000) (hz : ∀ c ∈ zs, 0 ≤ c ∧ c ≤ 255) :
    Calls Try.prog 8 #[.pointer (some ⟨b, 0, none⟩)] w fun r w' => r = .returned (.int .u8 a) ∧ At B w0 b zs R w' := by
  obtain ⟨lo, p, h1, h2⟩ := h
  refine (lu8_any lo b zs p 0 w h1.1 (by omega) hz).mono fun r w' hr => ?_
  rw [h2, word_seg [a] R 1 a rfl (le1 a)] at hr
  exact At.int h1 h2 rfl hr
theorem at_u16 (a : Int) (h : At B w0 b zs ([a % 256, a / 256] ++ R) w) (hl : zs.length ≤ 1000) (hz : ∀ c ∈ zs, 0 ≤ c ∧ c ≤ 255) :
    Calls Try.prog 10 #[.pointer (some ⟨b, 0, none⟩)] w fun r w' => r = .returned (.int .u16 a) ∧ At B w0 b zs R w' := by
  obtain ⟨lo, p, h1, h2⟩ := h
  refine (lu16_any lo b zs p 0 w h1.1 (by omega) hz).mono fun r w' hr => ?_
  rw [h2, word_seg _ R 2 a rfl (le2 a)] at hr
  exact At.int h1 h2 rfl hr
theorem at_u32 (a : Int) (h : At B w0 b zs ([a % 256, a / 256 % 256, a / 65536 % 256, a / 16777216] ++ R) w) (hl : zs.length ≤ 1000) (hz : ∀ c ∈ zs, 0 ≤ c ∧ c ≤ 255) :
    Calls Try.prog 11 #[.pointer (some ⟨b, 0, none⟩)] w fun r w' => r = .returned (.int .u32 a) ∧ At B w0 b zs R w' := by
  obtain ⟨lo, p, h1, h2⟩ := h
  refine (lu32_any lo b zs p 0 w h1.1 (by omega) hz).mono fun r w' hr => ?_
  rw [h2, word_seg _ R 4 a rfl (le4 a)] at hr
  exact At.int h1 h2 rfl hr
theorem at_num (a : Int) (h0 : 0 ≤ a) (h3 : a ≤ 18446744073709551615) (h : At B w0 b zs (Vi.enc a.toNat ++ R) w) (hl : zs.length ≤ 1000) (hz : ∀ c ∈ zs, 0 ≤ c ∧ c ≤ 255) :
    Calls Try.prog 12 #[.pointer (some ⟨b, 0, none⟩), .int .u64 a] w fun r w' => r = .returned (.int .u64 a) ∧ At B w0 b zs R w' := by
  obtain ⟨lo, p, h1, h2⟩ := h
  refine (lnum_any lo b zs p 0 w a h1.1 (by omega) hz).mono fun r w' hr => ?_
  rw [h2, num_seg a R h0 h3] at hr
  exact At.int h1 h2 rfl hr
theorem at_sig (a : Int) (h0 : -9223372036854775808 ≤ a) (h3 : a ≤ 9223372036854775807) (h : At B w0 b zs (Vi.enc (zigZ a).toNat ++ R) w) (hl : zs.length ≤ 1000) (hz : ∀ c ∈ zs, 0 ≤ c ∧ c ≤ 255) :
    Calls Try.prog 14 #[.pointer (some ⟨b, 0, none⟩), .int .i64 a, .int .i64 a] w fun r w' => r = .returned (.int .i64 a) ∧ At B w0 b zs R w' := by
  obtain ⟨lo, p, h1, h2⟩ := h
  refine (lsig_any lo b zs p 0 w a a h1.1 (by omega) hz).mono fun r w' hr => ?_
  rw [h2, sig_seg a R h0 h3] at hr
  exact At.int h1 h2 rfl hr
theorem at_fld (n : Nat) (hf : f.length = n) (hn : n ≤ 1000) (h : At B w0 b zs (Vi.enc n ++ f ++ R) w) (hl : zs.length ≤ 1000) (hz : ∀ c ∈ zs, 0 ≤ c ∧ c ≤ 255) :
    Calls Try.prog 18 #[.pointer (some ⟨b, 0, none⟩), .int .i64 n] w fun r w' => ∃ A c, r = .returned (.slice A n c) ∧ Nums .u8 w' w'.heap.size A f ∧ At B w0 b zs R w' := by
  obtain ⟨lo, p, h1, h2⟩ := h
  refine (lfld_any lo b zs p 0 w n (by omega) (by omega) h1.1 (by omega) hz).mono fun r w' hr => ?_
  rw [h2, fld_seg f R n hf hn] at hr
  obtain ⟨⟨A, c, h3, h4, h5⟩, h6⟩ := h1.bytes hr
  simp only [ansB, placeOf, errOf, if_true] at h3 h5 h6
  rw [hf] at h3
  exact ⟨A, c, h3, h5.nums, lo, _, h6, at_drop h2 (by rw [List.length_append, hf])⟩
theorem at_raw (n : Nat) (hf : f.length = n) (h : At B w0 b zs (f ++ R) w) (hl : zs.length ≤ 1000) :
    Calls Try.prog 16 #[.pointer (some ⟨b, 0, none⟩), .int .i64 n] w fun r w' => ∃ A c, r = .returned (.slice A n c) ∧ Nums .u8 w' w'.heap.size A f ∧ At B w0 b zs R w' := by
  obtain ⟨lo, p, h1, h2⟩ := h
  refine (lraw_any lo b zs p 0 w n h1.1 (by omega)).mono fun r w' hr => ?_
  rw [h2, raw_seg f R n hf] at hr
  obtain ⟨⟨A, c, h3, h4, h5⟩, h6⟩ := h1.bytes hr
  simp only [ansB, placeOf, errOf, if_true] at h3 h5 h6
  rw [hf] at h3
  exact ⟨A, c, h3, h5.nums, lo, _, h6, at_drop h2 hf⟩
theorem at_end (h : At B w0 b zs [] w) (hl : zs.length ≤ 1000) :
    Calls Try.prog 35 #[.pointer (some ⟨b, 0, none⟩)] w fun r w' => r = .returned (.int .i64 0) ∧ At B w0 b zs [] w' := by
  obtain ⟨lo, p, h1, h2⟩ := h
  refine (lend_any lo b zs p 0 w h1.1 (by omega)).mono fun r w' ⟨hr, n, hn⟩ => ?_
  subst hn
  have h3 : ¬ p < zs.length := by
    intro h3
    have := congrArg List.length h2
    rw [List.length_drop, List.length_nil] at this
    omega
  exact ⟨by rw [hr]; simp [endOf, h3], lo, p, h1.drewN n, h2⟩
end
end Go.Proofs.Ytmilcmgohlfpiaa
