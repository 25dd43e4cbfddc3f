/-
  Pens that lie above a block; a nil pen's methods; the chapter's example (known).
-/
import Derived.Test.YtajeefnogdledaaSigned
namespace Go.Proofs.Ytajeefnogdledaa
open Go.RowKit
set_option maxRecDepth 100000

/-- a pen above block B; below it all is as in w0 -/
def Pn (B : Nat) (w0 : World) (b : Nat) (room : Int) (L : List Int) (full : Bool) (w : World) : Prop := ∃ g, PenAt w b g room L full ∧ B ≤ b ∧ B ≤ g ∧ Below B w0 w
section
variable {B b g : Nat} {w0 w w' : World} {room : Int} {L new : List Int} {full : Bool} {e : Ending}
theorem Pn.size (h : Pn B w0 b room L full w) : B ≤ w.heap.size := by
  obtain ⟨g, h1, h2, _⟩ := h
  have := h1.lt
  omega
theorem Pn.base (h : Pn B w0 b room L full w) : Below B w0 w := by
  obtain ⟨g, _, _, _, h⟩ := h
  exact h
theorem Pn.below (h : Pn B w0 b room L full w) (hb : Below w.heap.size w w') : Pn B w0 b room L full w' := by
  have hs := h.size
  obtain ⟨g, h1, h2, h3, h4⟩ := h
  exact ⟨g, h1.below hb, h2, h3, h4.trans (hb.mono hs)⟩
theorem Pn.wrote (hr : WroteR b g room L full new w e w') (h1 : PenAt w b g room L full) (h2 : B ≤ b) (h3 : B ≤ g) (h4 : Below B w0 w) :
    e = .returned (.int .i64 (codeOf (fullNext room L full new.length))) ∧ Pn B w0 b room (bytesNext room L full new) (fullNext room L full new.length) w' := by
  obtain ⟨he, g', q1, q2, q3⟩ := hr
  have := h1.lt
  refine ⟨he, g', q1, h2, by rcases q3 with q3 | q3 <;> omega, h4.trans (q2.below ?_ (by omega))⟩
  rintro k (rfl | rfl) <;> assumption
/-- what came in is none of the pen's -/
theorem Pn.arg {a : Option Addr} {k : IntKind} {zs : List Int} {wa : World} (ha : Nums k wa B a zs) (hb : B ≤ b) (hg : B ≤ g) (hz : zs ≠ []) : ∀ q, blockOf a q → ¬ penS b g q := by
  obtain ⟨b1, o1, rfl, hlt, _⟩ := ha hz
  rintro q ⟨o, s, hq⟩ hp
  injection hq with hq; injection hq with hq
  rcases hp with hp | hp <;> omega
end

theorem u8_nil (x : Int) (w : World) : Calls Try.prog 18 #[.pointer none, .int .u8 x] w fun e w' => e = .returned (.int .i64 1) ∧ Below w.heap.size w w' := by
  go_enter Try.func18, Try.ntmps18
  go_wp2_with (go_at_call 31; refine (write_nil _ _).mono ?_; rintro e w2 ⟨rfl, rfl⟩)
  go_ret
  exact ⟨rfl, ((Below.refl _ w).alloc (Nat.le_refl _) _).alloc (by simp) _⟩
theorem u16_nil (x : Int) (w : World) (h0 : 0 ≤ x) (h1 : x ≤ 65535) : Calls Try.prog 19 #[.pointer none, .int .u16 x] w fun e w' => e = .returned (.int .i64 1) ∧ Below w.heap.size w w' := by
  go_enter Try.func19, Try.ntmps19
  go_wp2_with (go_at_call 31; refine (write_nil _ _).mono ?_; rintro e w2 ⟨rfl, rfl⟩)
  go_ret
  exact ⟨rfl, ((Below.refl _ w).alloc (Nat.le_refl _) _).alloc (by simp) _⟩
theorem u32_nil (x : Int) (w : World) (h0 : 0 ≤ x) (h1 : x ≤ 4294967295) : Calls Try.prog 20 #[.pointer none, .int .u32 x] w fun e w' => e = .returned (.int .i64 1) ∧ Below w.heap.size w w' := by
  go_enter Try.func20, Try.ntmps20
  go_wp2_with (go_at_call 31; refine (write_nil _ _).mono ?_; rintro e w2 ⟨rfl, rfl⟩)
  go_ret
  exact ⟨rfl, ((Below.refl _ w).alloc (Nat.le_refl _) _).alloc (by simp) _⟩
theorem raw_nil (a : Option Addr) (n c : Nat) (w : World) : Calls Try.prog 23 #[.pointer none, .slice a n c] w fun e w' => e = .returned (.int .i64 1) ∧ Below w.heap.size w w' := by
  go_enter Try.func23, Try.ntmps23
  go_wp2_with (go_at_call 31; refine (write_nil _ _).mono ?_; rintro e w2 ⟨rfl, rfl⟩)
  go_ret
  exact ⟨rfl, (Below.refl _ w).alloc (Nat.le_refl _) _⟩
theorem number_nil (w : World) (B : Nat) (a : Option Addr) (n c : Nat) (zs : List Int) (hn1 : n ≤ 1000000) (hz : zs.length = n) (hzb : ∀ c ∈ zs, 0 ≤ c ∧ c ≤ 18446744073709551615) (hB : B ≤ w.heap.size) (hn : Nums .u64 w B a zs) :
    Calls Try.prog 21 #[.pointer none, .slice a n c] w fun e w' => e = .returned (.int .i64 1) ∧ Below w.heap.size w w' := by
  have HP : Calls Try.prog 32 #[.slice a n c] w fun e w' => ∃ v, e = .returned v ∧ Made w w' (puts zs) v := by
    subst hz; exact put_any B a c zs w hn1 hzb hB hn
  clear hz hzb hn
  go_enter Try.func21, Try.ntmps21
  go_wp2_with (first
    | (go_at_call 32; refine HP.mono ?_; rintro e w1 ⟨v, rfl, hm⟩; obtain ⟨a1, c1, rfl, _, _⟩ := hm.slice; have HB := Lib.hid hm.2; clear HP hm)
    | (go_at_call 31; refine (write_nil _ _).mono ?_; rintro e w2 ⟨rfl, rfl⟩))
  go_ret
  exact ⟨rfl, HB.out.alloc HB.out.size _⟩
theorem signed_nil (w : World) (B : Nat) (a : Option Addr) (n c : Nat) (zs : List Int) (hn1 : n ≤ 1000000) (hz : zs.length = n) (hzb : ∀ c ∈ zs, -9223372036854775808 ≤ c ∧ c ≤ 9223372036854775807) (hB : B ≤ w.heap.size) (hn : Nums .i64 w B a zs) :
    Calls Try.prog 22 #[.pointer none, .slice a n c] w fun e w' => e = .returned (.int .i64 1) ∧ Below w.heap.size w w' :=
  signed_gen _ _ _ w B a n c zs hn1 hz hzb hB hn fun wr hs => by
    obtain ⟨hnn, q3⟩ := hs.nums hz
    exact (number_nil wr wr.heap.size _ n n (zs.map zigZ) hn1 (by simpa using hz) (zigs_range hzb) (Nat.le_refl _) hnn).mono fun e w' hr => ⟨hr.1, q3.trans (hr.2.mono q3.size)⟩
theorem field_nil (a : Option Addr) (n c : Nat) (w : World) (hn1 : n ≤ 9223372036854775807) :
    Calls Try.prog 24 #[.pointer none, .slice a n c] w fun e w' => e = .returned (.int .i64 1) ∧ Below w.heap.size w w' := by
  have HP := put_any (w.heap.size + 1) (some ⟨w.heap.size, 0, none⟩) 1 [(n : Int)] (w.alloc (.cells #[.int .u64 n] 45)) (by simp) (by simp; omega) (by simp) (Nums.new .u64 w 45 [(n : Int)] _ rfl)
  go_enter Try.func24, Try.ntmps24
  go_wp2_with (first
    | (go_at_call 32; refine HP.mono ?_; rintro e w1 ⟨v, rfl, hm⟩; obtain ⟨a1, c1, rfl, _, _⟩ := hm.slice; have HB : Hid (Below w.heap.size w w1) := (((Below.refl _ w).alloc (Nat.le_refl _) _).trans (hm.2.mono (by simp))); clear HP hm)
    | (go_at_call 31; refine (write_nil _ _).mono ?_; rintro e w2 ⟨rfl, rfl⟩))
  go_ret
  exact ⟨rfl, HB.out.alloc HB.out.size _⟩

theorem puts300 : puts [300] = [172, 2] := by decide +kernel
set_option maxHeartbeats 1000000 in
theorem known_any (w : World) : Calls Try.prog 17 #[] w fun e w' => e = .returned (.bool true) ∧ Below w.heap.size w w' := by
  have H1 : ∀ w1, Pn w.heap.size w w.heap.size 4 [] false w1 → Calls Try.prog 19 #[.pointer (some ⟨w.heap.size, 0, none⟩), .int .u16 258] w1 fun e w' => e = .returned (.int .i64 0) ∧ Pn w.heap.size w w.heap.size 4 [2, 1] false w' := by
    rintro w1 ⟨g, h1, h2, h3, h4⟩
    exact (u16_any _ g 4 [] false w1 258 h1 (by decide) (by decide) (by simp) (by decide) (by decide)).mono fun e w' hr => Pn.wrote hr h1 h2 h3 h4
  have H2 : ∀ w1, Pn w.heap.size w w.heap.size 4 [2, 1] false w1 → Calls Try.prog 21 #[.pointer (some ⟨w.heap.size, 0, none⟩), .slice (some ⟨w1.heap.size, 0, none⟩) 1 1] (w1.alloc (.cells #[.int .u64 300] 45)) fun e w' => e = .returned (.int .i64 0) ∧ Pn w.heap.size w w.heap.size 4 [2, 1, 172, 2] false w' := by
    intro w1 hp
    obtain ⟨g, h1, h2, h3, h4⟩ := hp.below ((Below.refl _ w1).alloc (Nat.le_refl _) (.cells #[.int .u64 300] 45))
    refine (number_any _ g 4 [2, 1] false _ _ _ 1 1 [300] h1 (by decide) (by decide) (by simp) (by simp) rfl (by simp) (by simp) (Nums.new .u64 w1 45 [300] _ rfl)).mono fun e w' hr => ?_
    rw [puts300] at hr
    exact Pn.wrote hr h1 h2 h3 h4
  have H3 : ∀ w1, Pn w.heap.size w w.heap.size 4 [2, 1, 172, 2] false w1 → Calls Try.prog 18 #[.pointer (some ⟨w.heap.size, 0, none⟩), .int .u8 0] w1 fun e w' => e = .returned (.int .i64 2) ∧ Pn w.heap.size w w.heap.size 4 [2, 1, 172, 2] true w' := by
    rintro w1 ⟨g, h1, h2, h3, h4⟩
    exact (u8_any _ g 4 _ false w1 0 h1 (by decide) (by decide) (by simp)).mono fun e w' hr => Pn.wrote hr h1 h2 h3 h4
  have H4 : ∀ w1, Pn w.heap.size w w.heap.size 4 [2, 1, 172, 2] true w1 → Calls Try.prog 13 #[.pointer (some ⟨w.heap.size, 0, none⟩)] w1 fun e w' => ∃ v, e = .returned v ∧ Made w1 w' [2, 1, 172, 2] v := by
    rintro w1 ⟨g, h1, h2, h3, h4⟩
    exact Bytes_any _ g 4 _ true w1 h1 (by simp)
  go_enter Try.func17, Try.ntmps17
  go_wp2_with (first
    | (go_at_call 7; refine (new_any 4 _ (by decide) (by decide)).mono ?_; rintro e w1 ⟨rfl, hp, hb⟩; have hp1 : Pn w.heap.size w w.heap.size 4 [] false w1 := ⟨_, hp, Nat.le_refl _, Nat.le_refl _, hb⟩; clear hp hb)
    | (go_at_call 19; refine (H1 _ hp1).mono ?_; rintro e w2 ⟨rfl, hp2⟩; clear hp1 H1)
    | (go_at_call 21; refine (H2 _ hp2).mono ?_; rintro e w3 ⟨rfl, hp3⟩; clear hp2 H2)
    | (go_at_call 18; refine (H3 _ hp3).mono ?_; rintro e w4 ⟨rfl, hp4⟩; clear hp3 H3)
    | (go_at_call 13; refine (H4 _ hp4).mono ?_; rintro e w5 ⟨v, rfl, hm⟩; obtain ⟨a1, c1, rfl, _, hn⟩ := hm.slice; have HB := Lib.hid (hp4.base.trans (hm.2.mono hp4.size)); clear hp4 H4 hm)
    | (go_at_call 12; refine (same_len _ _ _ 4 4 _ _ [2, 1, 172, 2] [2, 1, 172, 2] _ rfl rfl rfl (by decide) ((hn.below ((Below.refl _ _).alloc (Nat.le_refl _) _)).mono (Nat.le_succ _)) (Nums.new .u8 _ 5 [2, 1, 172, 2] _ rfl)).mono ?_; rintro e w6 ⟨rfl, n, rfl⟩))
  go_ret
  exact ⟨rfl, below_drewN (HB.out.alloc HB.out.size _) n⟩
end Go.Proofs.Ytajeefnogdledaa
