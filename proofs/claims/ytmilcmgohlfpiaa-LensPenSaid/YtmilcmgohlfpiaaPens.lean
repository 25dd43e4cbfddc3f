/-
  Contracts of a pen's methods that write: U8, U16, U32, Number, Signed, Raw, Field.
-/
import Derived.Test.YtmilcmgohlfpiaaWriteW
import Derived.Test.YtmilcmgohlfpiaaZig
namespace Go.Proofs.Ytmilcmgohlfpiaa
open Go.RowKit
set_option maxRecDepth 100000

theorem WroteR.later {b g : Nat} {room : Int} {L new : List Int} {full : Bool} {w w1 w' : World} {e : Ending} (h : WroteR b g room L full new w1 e w') (hb : Below w.heap.size w w1) : WroteR b g room L full new w e w' := by
  obtain ⟨he, g', h1, h2, h3⟩ := h
  have := hb.size
  refine ⟨he, g', h1, (Off.of_below hb).trans h2 (fun _ _ h => h), ?_⟩
  rcases h3 with h3 | h3
  · exact .inl h3
  · exact .inr (by omega)
/-- one part, laid in w1 -/
theorem write_one (s b g n c : Nat) (a : Option Addr) (room : Int) (L z : List Int) (full : Bool) (w w1 : World) (h : PenAt w b g room L full) (h0 : 0 ≤ room) (h1 : room ≤ 9223372036854775807) (hl : L.length + n ≤ 1000000000) (hb : Below w.heap.size w w1) (hw1 : w1.heap.size = s)
    (hz : z.length = n) (hn : Nums .u8 w1 w1.heap.size a z) (ha : z ≠ [] → ∀ q, blockOf a q → ¬ penS b g q) :
    Calls Try.prog 55 #[.pointer (some ⟨b, 0, none⟩), .slice (some ⟨s, 0, none⟩) 1 1] (w1.alloc (.cells #[.slice a n c] 22)) fun e w' => WroteR b g room L full z w e w' := by
  subst hw1
  have hbw : Below w.heap.size w (w1.alloc (.cells #[.slice a n c] 22)) := hb.alloc hb.size _
  have hlt := h.lt
  have hgt := h.glt
  have hs := hb.size
  have hp : ¬ penS b g w1.heap.size := by rintro (h | h) <;> omega
  have hw := write_any b g w1.heap.size 0 1 n room L full [z] _ (h.below hbw) h0 h1 (by simpa using hz) hl (by simp) (fun k y hk => by
    cases k with
    | succ k => simp at hk
    | zero =>
      simp at hk
      subst hk
      refine ⟨a, c, ?_, ?_, ha⟩
      · rw [hz, World.cell?_alloc_at _ _ _ _ rfl]; simp
      · exact (hn.below ((Below.refl _ w1).alloc (Nat.le_refl _) _)).mono (by simp)) hp (by simp)
  refine hw.mono fun e w' hr => ?_
  have hr' := hr.later hbw
  rwa [show [z].flatten = z by simp] at hr'
/-- two parts -/
theorem write_two (s b g n1 n2 c1 c2 : Nat) (a1 a2 : Option Addr) (room : Int) (L z1 z2 : List Int) (full : Bool) (w w1 : World) (h : PenAt w b g room L full) (h0 : 0 ≤ room) (h1 : room ≤ 9223372036854775807) (hl : L.length + (n1 + n2) ≤ 1000000000) (hb : Below w.heap.size w w1) (hw1 : w1.heap.size = s)
    (hz1 : z1.length = n1) (hz2 : z2.length = n2) (hn1 : Nums .u8 w1 w1.heap.size a1 z1) (hn2 : Nums .u8 w1 w1.heap.size a2 z2) (ha1 : z1 ≠ [] → ∀ q, blockOf a1 q → ¬ penS b g q) (ha2 : z2 ≠ [] → ∀ q, blockOf a2 q → ¬ penS b g q) :
    Calls Try.prog 55 #[.pointer (some ⟨b, 0, none⟩), .slice (some ⟨s, 0, none⟩) 2 2] (w1.alloc (.cells #[.slice a1 n1 c1, .slice a2 n2 c2] 22)) fun e w' => WroteR b g room L full (z1 ++ z2) w e w' := by
  subst hw1
  have hbw : Below w.heap.size w (w1.alloc (.cells #[.slice a1 n1 c1, .slice a2 n2 c2] 22)) := hb.alloc hb.size _
  have hlt := h.lt
  have hgt := h.glt
  have hs := hb.size
  have hp : ¬ penS b g w1.heap.size := by rintro (h | h) <;> omega
  have hw := write_any b g w1.heap.size 0 2 (n1 + n2) room L full [z1, z2] _ (h.below hbw) h0 h1 (by simp [hz1, hz2]) hl (by simp) (fun k y hk => by
    match k, hk with
    | 0, hk =>
      simp at hk
      subst hk
      refine ⟨a1, c1, ?_, ?_, ha1⟩
      · rw [hz1, World.cell?_alloc_at _ _ _ _ rfl]; simp
      · exact (hn1.below ((Below.refl _ w1).alloc (Nat.le_refl _) _)).mono (by simp)
    | 1, hk =>
      simp at hk
      subst hk
      refine ⟨a2, c2, ?_, ?_, ha2⟩
      · rw [hz2, World.cell?_alloc_at _ _ _ _ rfl]; simp
      · exact (hn2.below ((Below.refl _ w1).alloc (Nat.le_refl _) _)).mono (by simp)
    | k + 2, hk => simp at hk) hp (by simp)
  refine hw.mono fun e w' hr => ?_
  have hr' := hr.later hbw
  rwa [show [z1, z2].flatten = z1 ++ z2 by simp] at hr'
/-- a block that is laid later is none of the pen's -/
theorem not_pen {w w1 : World} {b g : Nat} {room : Int} {L : List Int} {full : Bool} (h : PenAt w b g room L full) (hs : w.heap.size ≤ w1.heap.size) : ∀ q, blockOf (some (⟨w1.heap.size, 0, none⟩ : Addr)) q → ¬ penS b g q := by
  have hlt := h.lt
  have hgt := h.glt
  rintro q ⟨o, s, hq⟩ hp
  injection hq with hq; injection hq with hq
  rcases hp with hp | hp <;> omega

section
variable (b g : Nat) (room : Int) (L : List Int) (full : Bool) (w : World)

theorem raw_any (a : Option Addr) (n c : Nat) (z : List Int) (h : PenAt w b g room L full) (h0 : 0 ≤ room) (h1 : room ≤ 9223372036854775807) (hl : L.length + n ≤ 1000000000) (hz : z.length = n) (hn : Nums .u8 w w.heap.size a z) (ha : z ≠ [] → ∀ q, blockOf a q → ¬ penS b g q) :
    Calls Try.prog 32 #[.pointer (some ⟨b, 0, none⟩), .slice a n c] w fun e w' => WroteR b g room L full z w e w' := by
  have HC := write_one _ b g n c a room L z full w w h h0 h1 hl (Below.refl _ _) rfl hz hn ha
  clear h hn ha hz
  go_enter Try.func32, Try.ntmps32
  go_wp2_with (go_at_call 55; refine HC.mono ?_; rintro e w2 hr; obtain ⟨he, hr2⟩ := hr; subst he)
  go_ret
  exact ⟨rfl, hr2⟩
theorem u8_any (x : Int) (h : PenAt w b g room L full) (h0 : 0 ≤ room) (h1 : room ≤ 9223372036854775807) (hl : L.length + 1 ≤ 1000000000) :
    Calls Try.prog 26 #[.pointer (some ⟨b, 0, none⟩), .int .u8 x] w fun e w' => WroteR b g room L full [x] w e w' := by
  have HC := write_one (w.heap.size + 1) b g 1 1 (some ⟨w.heap.size, 0, none⟩) room L [x] full w (w.alloc (.cells #[.int .u8 x] 5)) h h0 h1 hl ((Below.refl _ _).alloc (Nat.le_refl _) _) (by simp) rfl ((Nums.new .u8 w 5 [x] _ rfl).mono (by simp)) (fun _ => not_pen h (Nat.le_refl _))
  clear h
  go_enter Try.func26, Try.ntmps26
  go_wp2_with (go_at_call 55; refine HC.mono ?_; rintro e w2 hr; obtain ⟨he, hr2⟩ := hr; subst he)
  go_ret
  exact ⟨rfl, hr2⟩
theorem u16_any (x : Int) (h : PenAt w b g room L full) (h0 : 0 ≤ room) (h1 : room ≤ 9223372036854775807) (hl : L.length + 2 ≤ 1000000000) (hx0 : 0 ≤ x) (hx1 : x ≤ 65535) :
    Calls Try.prog 28 #[.pointer (some ⟨b, 0, none⟩), .int .u16 x] w fun e w' => WroteR b g room L full [x % 256, x / 256] w e w' := by
  have HC := write_one (w.heap.size + 1) b g 2 2 (some ⟨w.heap.size, 0, none⟩) room L [x % 256, x / 256] full w (w.alloc (.cells #[.int .u8 (x % 256), .int .u8 (x / 256)] 5)) h h0 h1 hl ((Below.refl _ _).alloc (Nat.le_refl _) _) (by simp) rfl ((Nums.new .u8 w 5 [x % 256, x / 256] _ rfl).mono (by simp)) (fun _ => not_pen h (Nat.le_refl _))
  clear h
  go_enter Try.func28, Try.ntmps28
  go_wp2_with (go_at_call 55; refine HC.mono ?_; rintro e w2 hr; obtain ⟨he, hr2⟩ := hr; subst he)
  go_ret
  exact ⟨rfl, hr2⟩
theorem u32_any (x : Int) (h : PenAt w b g room L full) (h0 : 0 ≤ room) (h1 : room ≤ 9223372036854775807) (hl : L.length + 4 ≤ 1000000000) (hx0 : 0 ≤ x) (hx1 : x ≤ 4294967295) :
    Calls Try.prog 31 #[.pointer (some ⟨b, 0, none⟩), .int .u32 x] w fun e w' => WroteR b g room L full [x % 256, x / 256 % 256, x / 65536 % 256, x / 16777216] w e w' := by
  have HC := write_one (w.heap.size + 1) b g 4 4 (some ⟨w.heap.size, 0, none⟩) room L [x % 256, x / 256 % 256, x / 65536 % 256, x / 16777216] full w (w.alloc (.cells #[.int .u8 (x % 256), .int .u8 (x / 256 % 256), .int .u8 (x / 65536 % 256), .int .u8 (x / 16777216)] 5)) h h0 h1 hl ((Below.refl _ _).alloc (Nat.le_refl _) _) (by simp) rfl ((Nums.new .u8 w 5 [x % 256, x / 256 % 256, x / 65536 % 256, x / 16777216] _ rfl).mono (by simp)) (fun _ => not_pen h (Nat.le_refl _))
  clear h
  go_enter Try.func31, Try.ntmps31
  go_wp2_with (go_at_call 55; refine HC.mono ?_; rintro e w2 hr; obtain ⟨he, hr2⟩ := hr; subst he)
  go_ret
  exact ⟨rfl, hr2⟩
theorem number_any (B : Nat) (a : Option Addr) (n c : Nat) (zs : List Int) (h : PenAt w b g room L full) (h0 : 0 ≤ room) (h1 : room ≤ 9223372036854775807) (hl : L.length + 10 * n ≤ 1000000000) (hn1 : n ≤ 1000000) (hz : zs.length = n) (hzb : ∀ c ∈ zs, 0 ≤ c ∧ c ≤ 18446744073709551615) (hB : B ≤ w.heap.size) (hn : Nums .u64 w B a zs) :
    Calls Try.prog 27 #[.pointer (some ⟨b, 0, none⟩), .slice a n c] w fun e w' => WroteR b g room L full (puts zs) w e w' := by
  have hlen := puts_length zs hzb
  rw [hz] at hlen
  have HP : Calls Try.prog 56 #[.slice a n c] w fun e w' => ∃ v, e = .returned v ∧ Made w w' (puts zs) v := by
    subst hz; exact put_any B a c zs w hn1 hzb hB hn
  have HC : ∀ (w1 : World) (a1 : Option Addr) (c1 : Nat), Made w w1 (puts zs) (.slice a1 (puts zs).length c1) → Calls Try.prog 55 #[.pointer (some ⟨b, 0, none⟩), .slice (some ⟨w1.heap.size, 0, none⟩) 1 1] (w1.alloc (.cells #[.slice a1 (puts zs).length c1] 22)) fun e w' => WroteR b g room L full (puts zs) w e w' := fun w1 a1 c1 hm =>
    write_one _ b g _ c1 a1 room L (puts zs) full w w1 h h0 h1 (by omega) hm.2 rfl rfl (by obtain ⟨A, c', he, _, hq⟩ := hm.slice; injection he with he1; subst he1; exact hq) (by
      have hlt := h.lt
      have hgt := h.glt
      rintro _ q ⟨o, s, rfl⟩ hp
      have := (hm.1.lt q rfl).1
      rcases hp with hp | hp <;> omega)
  clear h hlen hz hzb hn
  go_enter Try.func27, Try.ntmps27
  go_wp2_with (first
    | (go_at_call 56; refine HP.mono ?_; rintro e w1 ⟨v, rfl, hm⟩; obtain ⟨a1, c1, rfl, _, _⟩ := hm.slice; have HQ := HC _ _ _ hm; clear HC HP hm)
    | (go_at_call 55; refine HQ.mono ?_; rintro e w2 hr; obtain ⟨he, hr2⟩ := hr; subst he))
  go_ret
  exact ⟨rfl, hr2⟩
theorem field_any (a : Option Addr) (n c : Nat) (z : List Int) (h : PenAt w b g room L full) (h0 : 0 ≤ room) (h1 : room ≤ 9223372036854775807) (hl : L.length + 10 + n ≤ 1000000000) (hz : z.length = n) (hn : Nums .u8 w w.heap.size a z) (ha : z ≠ [] → ∀ q, blockOf a q → ¬ penS b g q) :
    Calls Try.prog 29 #[.pointer (some ⟨b, 0, none⟩), .slice a n c] w fun e w' => WroteR b g room L full (puts [(n : Int)] ++ z) w e w' := by
  have hlen := puts_length [(n : Int)] (by simp; omega)
  have HP := put_any (w.heap.size + 1) (some ⟨w.heap.size, 0, none⟩) 1 [(n : Int)] (w.alloc (.cells #[.int .u64 n] 28)) (by simp) (by simp; omega) (by simp) (Nums.new .u64 w 28 [(n : Int)] _ rfl)
  have HC : ∀ (w1 : World) (a1 : Option Addr) (c1 : Nat), Made (w.alloc (.cells #[.int .u64 n] 28)) w1 (puts [(n : Int)]) (.slice a1 (puts [(n : Int)]).length c1) → Calls Try.prog 55 #[.pointer (some ⟨b, 0, none⟩), .slice (some ⟨w1.heap.size, 0, none⟩) 2 2] (w1.alloc (.cells #[.slice a1 (puts [(n : Int)]).length c1, .slice a n c] 22)) fun e w' => WroteR b g room L full (puts [(n : Int)] ++ z) w e w' := fun w1 a1 c1 hm =>
    have hb : Below w.heap.size w w1 := ((Below.refl _ w).alloc (Nat.le_refl _) _).trans (hm.2.mono (by simp))
    write_two _ b g _ n c1 c a1 a room L (puts [(n : Int)]) z full w w1 h h0 h1 (by simp at hlen; omega) hb rfl rfl hz (by obtain ⟨A, c', he, _, hq⟩ := hm.slice; injection he with he1; subst he1; exact hq) ((hn.below hb).mono hb.size) (by
      have hlt := h.lt
      have hgt := h.glt
      rintro _ q ⟨o, s, rfl⟩ hp
      have := (hm.1.lt q rfl).1
      simp at this
      rcases hp with hp | hp <;> omega) ha
  clear h hlen hz hn ha
  go_enter Try.func29, Try.ntmps29
  go_wp2_with (first
    | (go_at_call 56; refine HP.mono ?_; rintro e w1 ⟨v, rfl, hm⟩; obtain ⟨a1, c1, rfl, _, _⟩ := hm.slice; have HQ := HC _ _ _ hm; clear HC HP hm)
    | (go_at_call 55; refine HQ.mono ?_; rintro e w2 hr; obtain ⟨he, hr2⟩ := hr; subst he))
  go_ret
  exact ⟨by rw [List.length_append]; rfl, hr2⟩
end
end Go.Proofs.Ytmilcmgohlfpiaa
