/-
  Contracts of the laws' own functions of layer 2: bytes, do.
-/
import Derived.Test.YtajeefnogdledaaAct
namespace Go.Proofs.Ytajeefnogdledaa
open Go.RowKit
set_option maxRecDepth 100000

/-- what an act writes -/
def actBytes (d : ActD) : List Int :=
  if d.kind = 0 then wordL d.N 1 else if d.kind = 1 then wordL d.N 2 else if d.kind = 2 then wordL d.N 4 else if d.kind = 3 then puts d.L else if d.kind = 4 then puts (d.S.map zigZ) else if d.kind = 5 then d.B else puts [(d.B.length : Int)] ++ d.B
theorem bytes0 {d : ActD} (h : d.kind = 0) : actBytes d = wordL d.N 1 := by unfold actBytes; rw [if_pos h]
theorem bytes1 {d : ActD} (h : d.kind = 1) : actBytes d = wordL d.N 2 := by unfold actBytes; rw [if_neg (by omega), if_pos h]
theorem bytes2 {d : ActD} (h : d.kind = 2) : actBytes d = wordL d.N 4 := by unfold actBytes; rw [if_neg (by omega), if_neg (by omega), if_pos h]
theorem bytes3 {d : ActD} (h : d.kind = 3) : actBytes d = puts d.L := by unfold actBytes; rw [if_neg (by omega), if_neg (by omega), if_neg (by omega), if_pos h]
theorem bytes4 {d : ActD} (h : d.kind = 4) : actBytes d = puts (d.S.map zigZ) := by unfold actBytes; rw [if_neg (by omega), if_neg (by omega), if_neg (by omega), if_neg (by omega), if_pos h]
theorem bytes5 {d : ActD} (h : d.kind = 5) : actBytes d = d.B := by unfold actBytes; rw [if_neg (by omega), if_neg (by omega), if_neg (by omega), if_neg (by omega), if_neg (by omega), if_pos h]
theorem bytes6 {d : ActD} (h : ¬ d.kind = 0 ∧ ¬ d.kind = 1 ∧ ¬ d.kind = 2 ∧ ¬ d.kind = 3 ∧ ¬ d.kind = 4 ∧ ¬ d.kind = 5) : actBytes d = puts [(d.B.length : Int)] ++ d.B := by
  obtain ⟨h0, h1, h2, h3, h4, h5⟩ := h
  unfold actBytes; rw [if_neg h0, if_neg h1, if_neg h2, if_neg h3, if_neg h4, if_neg h5]
theorem actBytes_length {d : ActD} (hok : d.ok) (hs : d.short) : (actBytes d).length ≤ 410 := by
  have h1 := puts_length d.L hok.l
  have h2 := puts_length (d.S.map zigZ) (zigs_range hok.s)
  have h3 := puts_length [(d.B.length : Int)] (by have := hs.b; simp; omega)
  have := hs.l; have := hs.s; have := hs.b
  rw [List.length_map] at h2
  simp only [List.length_singleton] at h3
  unfold actBytes
  split
  · simp [wordL_length]
  split
  · simp [wordL_length]
  split
  · simp [wordL_length]
  split
  · omega
  split
  · omega
  split
  · omega
  · rw [List.length_append]; omega
theorem kinds (k : Int) : k = 0 ∨ k = 1 ∨ k = 2 ∨ k = 3 ∨ k = 4 ∨ k = 5 ∨ (¬ k = 0 ∧ ¬ k = 1 ∧ ¬ k = 2 ∧ ¬ k = 3 ∧ ¬ k = 4 ∧ ¬ k = 5) := by omega
theorem word16 (N : Int) : [N % 65536 % 256, N % 65536 / 256] = wordL N 2 := by
  simp only [wordL, List.cons.injEq, and_true]
  omega
theorem word32 (N : Int) (h0 : 0 ≤ N) (h1 : N ≤ 4294967295) : [N % 256, N / 256 % 256, N / 65536 % 256, N / 16777216] = wordL N 4 := by
  have e1 : N / 65536 % 256 = N / 256 / 256 % 256 := by omega
  have e2 : N / 16777216 = N / 256 / 256 / 256 % 256 := by omega
  rw [e1, e2]
  rfl

set_option maxHeartbeats 1000000 in
theorem do_any (b g : Nat) (room : Int) (L : List Int) (full : Bool) (w : World) (B : Nat) (d : ActD) (v : Value) (h : PenAt w b g room L full) (h0 : 0 ≤ room) (h1 : room ≤ 9223372036854775807) (hl : L.length + 1000 ≤ 1000000000) (hB : B ≤ b) (hG : B ≤ g) (ha : ActAt w B d v) (hok : d.ok) (hs : d.short) :
    Calls Try.prog 11 #[.pointer (some ⟨b, 0, none⟩), v] w fun e w' => WroteR b g room L full (actBytes d) w e w' := by
  obtain ⟨AL, AS, AB, nL, cL, nS, cS, nB, cB, rfl, e1, e2, e3, h5, h6, h7, h8, h9, h10⟩ := ha
  have s1 := hs.l; have s2 := hs.s; have s3 := hs.b
  have n0 := hok.n0; have n1 := hok.n1
  have hBw : B ≤ w.heap.size := by have := h.lt; omega
  obtain ⟨w1, hw1⟩ : ∃ w1, w1 = w.alloc (.cells #[.int .i64 d.kind, .int .u32 d.N, .slice AL nL cL, .slice AS nS cS, .slice AB nB cB] 32) := ⟨_, rfl⟩
  have hb1 : Below w.heap.size w w1 := by rw [hw1]; exact (Below.refl _ w).alloc (Nat.le_refl _) _
  have hp := h.below hb1
  have hB1 : B ≤ w1.heap.size := by have := hb1.size; omega
  have hbB := hb1.mono hBw
  have hnot : d.B ≠ [] → ∀ q, blockOf AB q → ¬ penS b g q := fun hz => Pn.arg h10 hB hG hz
  rcases kinds d.kind with k | k | k | k | k | k | k
  · have HC : Hid (Calls Try.prog 18 #[.pointer (some ⟨b, 0, none⟩), .int .u8 (d.N % 256)] w1 fun e w' => WroteR b g room L full (actBytes d) w e w') := (u8_any b g room L full w1 (d.N % 256) hp h0 h1 (by omega)).mono fun e w' hr => by
      have := hr.later hb1
      rw [bytes0 k]; exact this
    rw [hw1, k] at HC
    skip
    clear h h8 h9 h10 hp hb1 hbB hnot hw1 hok hs
    go_enter Try.func11, Try.ntmps11
    go_wp2_with (go_at_call 18; refine HC.out.mono ?_; rintro e w2 hr; obtain ⟨he, hr2⟩ := hr; subst he)
    go_ret
    exact ⟨rfl, hr2⟩
  · have HC : Hid (Calls Try.prog 19 #[.pointer (some ⟨b, 0, none⟩), .int .u16 (d.N % 65536)] w1 fun e w' => WroteR b g room L full (actBytes d) w e w') := (u16_any b g room L full w1 (d.N % 65536) hp h0 h1 (by omega) (by omega) (by omega)).mono fun e w' hr => by
      have := hr.later hb1
      rw [word16] at this; rw [bytes1 k]; exact this
    rw [hw1, k] at HC
    skip
    clear h h8 h9 h10 hp hb1 hbB hnot hw1 hok hs
    go_enter Try.func11, Try.ntmps11
    go_wp2_with (go_at_call 19; refine HC.out.mono ?_; rintro e w2 hr; obtain ⟨he, hr2⟩ := hr; subst he)
    go_ret
    exact ⟨rfl, hr2⟩
  · have HC : Hid (Calls Try.prog 20 #[.pointer (some ⟨b, 0, none⟩), .int .u32 d.N] w1 fun e w' => WroteR b g room L full (actBytes d) w e w') := (u32_any b g room L full w1 d.N hp h0 h1 (by omega) n0 n1).mono fun e w' hr => by
      have := hr.later hb1
      rw [word32 _ n0 n1] at this; rw [bytes2 k]; exact this
    rw [hw1, k] at HC
    skip
    clear h h8 h9 h10 hp hb1 hbB hnot hw1 hok hs
    go_enter Try.func11, Try.ntmps11
    go_wp2_with (go_at_call 20; refine HC.out.mono ?_; rintro e w2 hr; obtain ⟨he, hr2⟩ := hr; subst he)
    go_ret
    exact ⟨rfl, hr2⟩
  · have HC : Hid (Calls Try.prog 21 #[.pointer (some ⟨b, 0, none⟩), .slice AL nL cL] w1 fun e w' => WroteR b g room L full (actBytes d) w e w') := (number_any b g room L full w1 B AL nL cL d.L hp h0 h1 (by omega) (by omega) e1 hok.l hB1 (h8.below hbB)).mono fun e w' hr => by
      have := hr.later hb1
      rw [bytes3 k]; exact this
    rw [hw1, k] at HC
    skip
    clear h h8 h9 h10 hp hb1 hbB hnot hw1 hok hs
    go_enter Try.func11, Try.ntmps11
    go_wp2_with (go_at_call 21; refine HC.out.mono ?_; rintro e w2 hr; obtain ⟨he, hr2⟩ := hr; subst he)
    go_ret
    exact ⟨rfl, hr2⟩
  · have HC : Hid (Calls Try.prog 22 #[.pointer (some ⟨b, 0, none⟩), .slice AS nS cS] w1 fun e w' => WroteR b g room L full (actBytes d) w e w') := (signed_any b g room L full w1 B AS nS cS d.S hp h0 h1 (by omega) (by omega) e2 hok.s hB1 (h9.below hbB)).mono fun e w' hr => by
      have := hr.later hb1
      rw [bytes4 k]; exact this
    rw [hw1, k] at HC
    skip
    clear h h8 h9 h10 hp hb1 hbB hnot hw1 hok hs
    go_enter Try.func11, Try.ntmps11
    go_wp2_with (go_at_call 22; refine HC.out.mono ?_; rintro e w2 hr; obtain ⟨he, hr2⟩ := hr; subst he)
    go_ret
    exact ⟨rfl, hr2⟩
  · have HC : Hid (Calls Try.prog 23 #[.pointer (some ⟨b, 0, none⟩), .slice AB nB cB] w1 fun e w' => WroteR b g room L full (actBytes d) w e w') := (raw_any b g room L full w1 AB nB cB d.B hp h0 h1 (by omega) e3 ((h10.below hbB).mono hB1) hnot).mono fun e w' hr => by
      have := hr.later hb1
      rw [bytes5 k]; exact this
    rw [hw1, k] at HC
    skip
    clear h h8 h9 h10 hp hb1 hbB hnot hw1 hok hs
    go_enter Try.func11, Try.ntmps11
    go_wp2_with (go_at_call 23; refine HC.out.mono ?_; rintro e w2 hr; obtain ⟨he, hr2⟩ := hr; subst he)
    go_ret
    exact ⟨rfl, hr2⟩
  · have HC : Hid (Calls Try.prog 24 #[.pointer (some ⟨b, 0, none⟩), .slice AB nB cB] w1 fun e w' => WroteR b g room L full (actBytes d) w e w') := (field_any b g room L full w1 AB nB cB d.B hp h0 h1 (by omega) e3 ((h10.below hbB).mono hB1) hnot).mono fun e w' hr => by
      have := hr.later hb1
      rw [bytes6 k, e3]; exact this
    rw [hw1] at HC
    obtain ⟨k0, k1, k2, k3, k4, k5⟩ := k
    clear h h8 h9 h10 hp hb1 hbB hnot hw1 hok hs
    go_enter Try.func11, Try.ntmps11
    go_wp2_with (go_at_call 24; refine HC.out.mono ?_; rintro e w2 hr; obtain ⟨he, hr2⟩ := hr; subst he)
    go_ret
    exact ⟨rfl, hr2⟩

set_option maxHeartbeats 1000000 in
theorem bytes_any (w : World) (B : Nat) (d : ActD) (v : Value) (hBw : B ≤ w.heap.size) (ha : ActAt w B d v) (hok : d.ok) (hs : d.short) :
    Calls Try.prog 10 #[v] w fun e w' => ∃ A n c, e = .returned (.slice A n c) ∧ (actBytes d).length = n ∧ Nums .u8 w' w'.heap.size A (actBytes d) ∧ Below w.heap.size w w' := by
  obtain ⟨AL, AS, AB, nL, cL, nS, cS, nB, cB, rfl, e1, e2, e3, h5, h6, h7, h8, h9, h10⟩ := ha
  have s1 := hs.l; have s2 := hs.s; have s3 := hs.b
  have n0 := hok.n0; have n1 := hok.n1
  obtain ⟨w1, hw1⟩ : ∃ w1, w1 = w.alloc (.cells #[.int .i64 d.kind, .int .u32 d.N, .slice AL nL cL, .slice AS nS cS, .slice AB nB cB] 32) := ⟨_, rfl⟩
  have hb1 : Below w.heap.size w w1 := by rw [hw1]; exact (Below.refl _ w).alloc (Nat.le_refl _) _
  have hB1 : B ≤ w1.heap.size := by have := hb1.size; omega
  have hbB := hb1.mono hBw
  have made : ∀ {X : List Int} {e : Ending} {w' : World}, actBytes d = X → (∃ v, e = .returned v ∧ Made w1 w' X v) → ∃ A n c, e = .returned (.slice A n c) ∧ (actBytes d).length = n ∧ Nums .u8 w' w'.heap.size A (actBytes d) ∧ Below w.heap.size w w' := fun hX hm => by
    obtain ⟨v, rfl, hm⟩ := hm
    obtain ⟨A, c, rfl, _, hn⟩ := hm.slice
    rw [hX]
    exact ⟨A, _, c, rfl, rfl, hn, hb1.trans (hm.2.mono hb1.size)⟩
  rcases kinds d.kind with k | k | k | k | k | k | k
  · have HC : Hid (Calls Try.prog 25 #[.int .u32 d.N, .int .i64 1] w1 fun e w' => ∃ A n c, e = .returned (.slice A n c) ∧ (actBytes d).length = n ∧ Nums .u8 w' w'.heap.size A (actBytes d) ∧ Below w.heap.size w w') := (word_any d.N 1 w1 n0 n1 (by decide)).mono fun e w' hr => made (bytes0 k) hr
    rw [hw1, k] at HC
    skip
    clear h8 h9 h10 hb1 hbB hw1 hok hs made
    go_enter Try.func10, Try.ntmps10
    go_wp2_with (go_at_call 25; refine HC.out.mono ?_; rintro e w2 ⟨A, n, c, rfl, hr⟩; have HR := Lib.hid hr; clear hr)
    go_ret
    exact ⟨A, n, c, rfl, HR.out⟩
  · have HC : Hid (Calls Try.prog 25 #[.int .u32 d.N, .int .i64 2] w1 fun e w' => ∃ A n c, e = .returned (.slice A n c) ∧ (actBytes d).length = n ∧ Nums .u8 w' w'.heap.size A (actBytes d) ∧ Below w.heap.size w w') := (word_any d.N 2 w1 n0 n1 (by decide)).mono fun e w' hr => made (bytes1 k) hr
    rw [hw1, k] at HC
    skip
    clear h8 h9 h10 hb1 hbB hw1 hok hs made
    go_enter Try.func10, Try.ntmps10
    go_wp2_with (go_at_call 25; refine HC.out.mono ?_; rintro e w2 ⟨A, n, c, rfl, hr⟩; have HR := Lib.hid hr; clear hr)
    go_ret
    exact ⟨A, n, c, rfl, HR.out⟩
  · have HC : Hid (Calls Try.prog 25 #[.int .u32 d.N, .int .i64 4] w1 fun e w' => ∃ A n c, e = .returned (.slice A n c) ∧ (actBytes d).length = n ∧ Nums .u8 w' w'.heap.size A (actBytes d) ∧ Below w.heap.size w w') := (word_any d.N 4 w1 n0 n1 (by decide)).mono fun e w' hr => made (bytes2 k) hr
    rw [hw1, k] at HC
    skip
    clear h8 h9 h10 hb1 hbB hw1 hok hs made
    go_enter Try.func10, Try.ntmps10
    go_wp2_with (go_at_call 25; refine HC.out.mono ?_; rintro e w2 ⟨A, n, c, rfl, hr⟩; have HR := Lib.hid hr; clear hr)
    go_ret
    exact ⟨A, n, c, rfl, HR.out⟩
  · have HC : Hid (Calls Try.prog 26 #[.slice AL nL cL] w1 fun e w' => ∃ A n c, e = .returned (.slice A n c) ∧ (actBytes d).length = n ∧ Nums .u8 w' w'.heap.size A (actBytes d) ∧ Below w.heap.size w w') := ((by rw [← e1]; exact rput_any B AL cL d.L w1 (by omega) hok.l hB1 (h8.below hbB) : Calls Try.prog 26 #[.slice AL nL cL] w1 fun e w' => ∃ v, e = .returned v ∧ Made w1 w' (puts d.L) v)).mono fun e w' hr => made (bytes3 k) hr
    rw [hw1, k] at HC
    skip
    clear h8 h9 h10 hb1 hbB hw1 hok hs made
    go_enter Try.func10, Try.ntmps10
    go_wp2_with (go_at_call 26; refine HC.out.mono ?_; rintro e w2 ⟨A, n, c, rfl, hr⟩; have HR := Lib.hid hr; clear hr)
    go_ret
    exact ⟨A, n, c, rfl, HR.out⟩
  · have HC : Hid (Calls Try.prog 27 #[.slice AS nS cS] w1 fun e w' => ∃ A n c, e = .returned (.slice A n c) ∧ (actBytes d).length = n ∧ Nums .u8 w' w'.heap.size A (actBytes d) ∧ Below w.heap.size w w') := (rsigned_any B AS nS cS d.S w1 (by omega) e2 hok.s hB1 (h9.below hbB)).mono fun e w' hr => made (bytes4 k) hr
    rw [hw1, k] at HC
    skip
    clear h8 h9 h10 hb1 hbB hw1 hok hs made
    go_enter Try.func10, Try.ntmps10
    go_wp2_with (go_at_call 27; refine HC.out.mono ?_; rintro e w2 ⟨A, n, c, rfl, hr⟩; have HR := Lib.hid hr; clear hr)
    go_ret
    exact ⟨A, n, c, rfl, HR.out⟩
  · have HC : Hid (∀ w2, Below w.heap.size w w2 → ∃ A n c, Ending.returned (.slice AB nB cB) = .returned (.slice A n c) ∧ (actBytes d).length = n ∧ Nums .u8 w2 w2.heap.size A (actBytes d) ∧ Below w.heap.size w w2) := fun w2 hb => by
      rw [bytes5 k]
      exact ⟨AB, nB, cB, rfl, e3, ((h10.below (hb.mono hBw)).mono (by have := hb.size; omega)), hb⟩
    clear h8 h9 h10 hb1 hbB hw1 hok hs made
    go_enter Try.func10, Try.ntmps10
    go_wp2
    go_ret
    exact HC.out _ ((Below.refl _ w).alloc (Nat.le_refl _) _)
  · have HC : Hid (Calls Try.prog 28 #[.slice AB nB cB] w1 fun e w' => ∃ A n c, e = .returned (.slice A n c) ∧ (actBytes d).length = n ∧ Nums .u8 w' w'.heap.size A (actBytes d) ∧ Below w.heap.size w w') := (rfield_any B AB nB cB d.B w1 (by omega) e3 hB1 (h10.below hbB)).mono fun e w' hr => made ((bytes6 k).trans (by rw [e3])) hr
    rw [hw1] at HC
    obtain ⟨k0, k1, k2, k3, k4, k5⟩ := k
    clear h8 h9 h10 hb1 hbB hw1 hok hs made
    go_enter Try.func10, Try.ntmps10
    go_wp2_with (go_at_call 28; refine HC.out.mono ?_; rintro e w2 ⟨A, n, c, rfl, hr⟩; have HR := Lib.hid hr; clear hr)
    go_ret
    exact ⟨A, n, c, rfl, HR.out⟩
end Go.Proofs.Ytajeefnogdledaa
