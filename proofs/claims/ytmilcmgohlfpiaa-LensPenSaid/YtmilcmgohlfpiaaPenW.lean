/-
  A pen that has room: what each write adds.
-/
import Derived.Test.YtmilcmgohlfpiaaPnA
namespace Go.Proofs.Ytmilcmgohlfpiaa
open Go.RowKit
set_option maxRecDepth 100000
section
variable {B b : Nat} {w0 w w' wa : World} {L new : List Int} {e : Ending}
theorem Pn.fits (h : e = .returned (.int .i64 (codeOf (fullNext 1000 L false new.length))) ∧ Pn B w0 b 1000 (bytesNext 1000 L false new) (fullNext 1000 L false new.length) w') (hL : L.length + new.length ≤ 1000) : (∃ v, e = .returned v) ∧ Pn B w0 b 1000 (L ++ new) false w' := by
  have e1 : fullNext 1000 L false new.length = false := by simp [fullNext]; omega
  have e2 : bytesNext 1000 L false new = L ++ new := by simp [bytesNext, e1]
  rw [e1, e2] at h
  exact ⟨⟨_, h.1⟩, h.2⟩
theorem pw_u8 (x : Int) (h : Pn B w0 b 1000 L false w) (hL : L.length + 1 ≤ 1000) : Calls Try.prog 26 #[.pointer (some ⟨b, 0, none⟩), .int .u8 x] w fun e w' => (∃ v, e = .returned v) ∧ Pn B w0 b 1000 (L ++ [x]) false w' := by
  obtain ⟨g, h1, h2, h3, h4⟩ := h
  exact (u8_any b g 1000 L false w x h1 (by decide) (by decide) (by omega)).mono fun e w' hr => Pn.fits (Pn.wrote hr h1 h2 h3 h4) (by simpa using hL)
theorem pw_u16 (x : Int) (hx0 : 0 ≤ x) (hx1 : x ≤ 65535) (h : Pn B w0 b 1000 L false w) (hL : L.length + 2 ≤ 1000) : Calls Try.prog 28 #[.pointer (some ⟨b, 0, none⟩), .int .u16 x] w fun e w' => (∃ v, e = .returned v) ∧ Pn B w0 b 1000 (L ++ [x % 256, x / 256]) false w' := by
  obtain ⟨g, h1, h2, h3, h4⟩ := h
  exact (u16_any b g 1000 L false w x h1 (by decide) (by decide) (by omega) hx0 hx1).mono fun e w' hr => Pn.fits (Pn.wrote hr h1 h2 h3 h4) (by simpa using hL)
theorem pw_u32 (x : Int) (hx0 : 0 ≤ x) (hx1 : x ≤ 4294967295) (h : Pn B w0 b 1000 L false w) (hL : L.length + 4 ≤ 1000) : Calls Try.prog 31 #[.pointer (some ⟨b, 0, none⟩), .int .u32 x] w fun e w' => (∃ v, e = .returned v) ∧ Pn B w0 b 1000 (L ++ [x % 256, x / 256 % 256, x / 65536 % 256, x / 16777216]) false w' := by
  obtain ⟨g, h1, h2, h3, h4⟩ := h
  exact (u32_any b g 1000 L false w x h1 (by decide) (by decide) (by omega) hx0 hx1).mono fun e w' hr => Pn.fits (Pn.wrote hr h1 h2 h3 h4) (by simpa using hL)
theorem pw_num (a : Option Addr) (n c : Nat) (zs : List Int) (h : Pn B w0 b 1000 L false w) (hn : zs.length = n) (hL : L.length + 10 * n ≤ 1000) (hzb : ∀ c ∈ zs, 0 ≤ c ∧ c ≤ 18446744073709551615) (ha : Nums .u64 w0 B a zs) :
    Calls Try.prog 27 #[.pointer (some ⟨b, 0, none⟩), .slice a n c] w fun e w' => (∃ v, e = .returned v) ∧ Pn B w0 b 1000 (L ++ puts zs) false w' := by
  have hs := h.size
  obtain ⟨g, h1, h2, h3, h4⟩ := h
  have hlen := puts_length zs hzb
  exact (number_any b g 1000 L false w B a n c zs h1 (by decide) (by decide) (by omega) (by omega) hn hzb hs (ha.below h4)).mono fun e w' hr => Pn.fits (Pn.wrote hr h1 h2 h3 h4) (by omega)
theorem pw_sig (a : Option Addr) (n c : Nat) (zs : List Int) (h : Pn B w0 b 1000 L false w) (hn : zs.length = n) (hL : L.length + 10 * n ≤ 1000) (hzb : ∀ c ∈ zs, -9223372036854775808 ≤ c ∧ c ≤ 9223372036854775807) (ha : Nums .i64 w0 B a zs) :
    Calls Try.prog 30 #[.pointer (some ⟨b, 0, none⟩), .slice a n c] w fun e w' => (∃ v, e = .returned v) ∧ Pn B w0 b 1000 (L ++ puts (zs.map zigZ)) false w' := by
  have hs := h.size
  obtain ⟨g, h1, h2, h3, h4⟩ := h
  have hlen := puts_length (zs.map zigZ) (zigs_range hzb)
  rw [List.length_map] at hlen
  exact (signed_any b g 1000 L false w B a n c zs h1 (by decide) (by decide) (by omega) (by omega) hn hzb hs (ha.below h4)).mono fun e w' hr => Pn.fits (Pn.wrote hr h1 h2 h3 h4) (by omega)
theorem pw_raw (a : Option Addr) (n c : Nat) (zs : List Int) (h : Pn B w0 b 1000 L false w) (hn : zs.length = n) (hL : L.length + n ≤ 1000) (ha : Nums .u8 w0 B a zs) :
    Calls Try.prog 32 #[.pointer (some ⟨b, 0, none⟩), .slice a n c] w fun e w' => (∃ v, e = .returned v) ∧ Pn B w0 b 1000 (L ++ zs) false w' := by
  have hs := h.size
  obtain ⟨g, h1, h2, h3, h4⟩ := h
  exact (raw_any b g 1000 L false w a n c zs h1 (by decide) (by decide) (by omega) hn ((ha.below h4).mono hs) (fun hz => Pn.arg ha h2 h3 hz)).mono fun e w' hr => Pn.fits (Pn.wrote hr h1 h2 h3 h4) (by omega)
theorem pw_fld (a : Option Addr) (n c : Nat) (zs : List Int) (h : Pn B w0 b 1000 L false w) (hn : zs.length = n) (hL : L.length + 10 + n ≤ 1000) (ha : Nums .u8 w0 B a zs) :
    Calls Try.prog 29 #[.pointer (some ⟨b, 0, none⟩), .slice a n c] w fun e w' => (∃ v, e = .returned v) ∧ Pn B w0 b 1000 (L ++ (puts [(n : Int)] ++ zs)) false w' := by
  have hs := h.size
  obtain ⟨g, h1, h2, h3, h4⟩ := h
  have hlen := puts_length [(n : Int)] (by simp; omega)
  rw [List.length_singleton] at hlen
  exact (field_any b g 1000 L false w a n c zs h1 (by decide) (by decide) (by omega) hn ((ha.below h4).mono hs) (fun hz => Pn.arg ha h2 h3 hz)).mono fun e w' hr => Pn.fits (Pn.wrote hr h1 h2 h3 h4) (by rw [List.length_append]; omega)
theorem pw_err (h : Pn B w0 b 1000 L false w) : Calls Try.prog 33 #[.pointer (some ⟨b, 0, none⟩)] w fun e w' => e = .returned (.int .i64 0) ∧ w = w' := by
  obtain ⟨g, h1, h2, h3, h4⟩ := h
  exact err_any b g 1000 L false w h1
theorem pw_bytes (h : Pn B w0 b 1000 L false w) (hL : L.length ≤ 1000) : Calls Try.prog 34 #[.pointer (some ⟨b, 0, none⟩)] w fun e w' => ∃ A c, e = .returned (.slice A L.length c) ∧ L.length ≤ c ∧ Nums .u8 w' w'.heap.size A L ∧ Below B w0 w' ∧ B ≤ w'.heap.size := by
  have hs := h.size
  obtain ⟨g, h1, h2, h3, h4⟩ := h
  refine (Bytes_any b g 1000 L false w h1 (by omega)).mono ?_
  rintro e w' ⟨v, rfl, hm⟩
  obtain ⟨A, c, rfl, hc, hn⟩ := hm.slice
  exact ⟨A, c, rfl, hc, hn, h4.trans (hm.2.mono hs), Nat.le_trans hs hm.2.size⟩
theorem pw_new (w : World) : Calls Try.prog 25 #[.int .i64 1000] w fun e w' => e = .returned (.pointer (some ⟨w.heap.size, 0, none⟩)) ∧ Pn w.heap.size w w.heap.size 1000 [] false w' := by
  refine (new_any 1000 w (by decide) (by decide)).mono ?_
  rintro e w' ⟨rfl, hp, hb⟩
  exact ⟨rfl, _, hp, Nat.le_refl _, Nat.le_refl _, hb⟩
end
end Go.Proofs.Ytmilcmgohlfpiaa
