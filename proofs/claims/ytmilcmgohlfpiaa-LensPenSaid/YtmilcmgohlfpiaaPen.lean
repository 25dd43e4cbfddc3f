/-
  A pen in memory, and the contracts of what reads it: New, Err, Len, Left, left, Bytes, Clone.
-/
import Derived.Test.YtmilcmgohlfpiaaGrow
import Derived.RowKit3
import Derived.Lib.SliceRun
import Derived.Outline
namespace Go.Proofs.Ytmilcmgohlfpiaa
open Go.RowKit
set_option maxRecDepth 100000

/-- block b is a pen of that room, that wrote L; its bytes lie in block g, if anywhere -/
def PenAt (w : World) (b g : Nat) (room : Int) (L : List Int) (full : Bool) : Prop :=
  ∃ A cap cur, w.heap[b]? = some (.cells #[.int .i64 room, .slice A L.length cap, .bool full] 93 (0, 0)) ∧ KRow 5 .u8 w A cap cur ∧ L.length ≤ cap ∧ cur.take L.length = L ∧ ((A = none ∧ g = b) ∨ (A = some ⟨g, 0, none⟩ ∧ g ≠ b))
/-- the blocks of a pen -/
def penS (b g : Nat) : Nat → Prop := fun k => k = b ∨ k = g
section
variable {w w' : World} {b g : Nat} {room : Int} {L : List Int} {full : Bool}
theorem PenAt.lt (h : PenAt w b g room L full) : b < w.heap.size := by
  obtain ⟨A, cap, cur, hb, _⟩ := h
  exact (Array.getElem?_eq_some_iff.1 hb).1
theorem PenAt.glt (h : PenAt w b g room L full) : g < w.heap.size := by
  have hb := h.lt
  obtain ⟨A, cap, cur, _, hk, _, _, hA⟩ := h
  rcases hA with ⟨_, rfl⟩ | ⟨rfl, _⟩
  · exact hb
  · exact hk.lt ⟨_, _, rfl⟩
theorem PenAt.off {S : Nat → Prop} (h : PenAt w b g room L full) (hf : Off S w w') (h1 : ¬ S b) (h2 : ¬ S g) : PenAt w' b g room L full := by
  obtain ⟨A, cap, cur, hb, hk, hl, ht, hA⟩ := h
  refine ⟨A, cap, cur, ?_, hk.off hf ?_, hl, ht, hA⟩
  · rw [hf.block b (Array.getElem?_eq_some_iff.1 hb).1 h1]; exact hb
  · rintro q ⟨o, s, rfl⟩
    rcases hA with ⟨hA, _⟩ | ⟨hA, _⟩
    · simp at hA
    · injection hA with hA; injection hA with e; subst e; exact h2
theorem PenAt.below (h : PenAt w b g room L full) (hf : Below w.heap.size w w') : PenAt w' b g room L full :=
  h.off (Off.of_below (S := fun _ => False) hf) (fun h => h) (fun h => h)
theorem PenAt.open (h : PenAt w b g room L full) : ∃ A cap cur, w.heap[b]? = some (.cells #[.int .i64 room, .slice A L.length cap, .bool full] 93 (0, 0)) ∧ w.cell? ⟨b, 0, none⟩ = some (.int .i64 room) ∧ w.cell? ⟨b, 1, none⟩ = some (.slice A L.length cap) ∧ w.cell? ⟨b, 2, none⟩ = some (.bool full) ∧
    KRow 5 .u8 w A cap cur ∧ L.length ≤ cap ∧ cur.take L.length = L ∧ ((A = none ∧ g = b) ∨ (A = some ⟨g, 0, none⟩ ∧ g ≠ b)) := by
  obtain ⟨A, cap, cur, hb, hk, hl, ht, hA⟩ := h
  exact ⟨A, cap, cur, hb, by simp [World.cell?, hb], by simp [World.cell?, hb], by simp [World.cell?, hb], hk, hl, ht, hA⟩
end

theorem pen_new (w : World) (n : Int) : PenAt (w.alloc (.cells #[.int .i64 n, .slice none 0 0, .bool false] 93)) w.heap.size w.heap.size n [] false :=
  ⟨none, 0, [], heap_alloc_new w _, KRow.nil _ _ _, Nat.le_refl _, rfl, .inl ⟨rfl, rfl⟩⟩
theorem new_any (n : Int) (w : World) (h0 : -9223372036854775808 ≤ n) (h1 : n ≤ 9223372036854775807) :
    Calls Try.prog 25 #[.int .i64 n] w fun e w' => e = .returned (.pointer (some ⟨w.heap.size, 0, none⟩)) ∧ PenAt w' w.heap.size w.heap.size (max n 0) [] false ∧ Below w.heap.size w w' := by
  by_cases hn : 0 ≤ n
  · have HM : Hid (max n 0 = n) := by show _ = _; omega
    go_enter Try.func25, Try.ntmps25
    go_wp2
    go_ret
    exact ⟨rfl, by rw [HM.out]; exact pen_new w n, (Below.refl _ w).alloc (Nat.le_refl _) _⟩
  · have HM : Hid (max n 0 = 0) := by show _ = _; omega
    have hn' : n ≤ 0 := by omega
    go_enter Try.func25, Try.ntmps25
    go_wp2
    go_ret
    exact ⟨rfl, by rw [HM.out]; exact pen_new w 0, (Below.refl _ w).alloc (Nat.le_refl _) _⟩

theorem err_any (b g : Nat) (room : Int) (L : List Int) (full : Bool) (w : World) (h : PenAt w b g room L full) :
    Calls Try.prog 33 #[.pointer (some ⟨b, 0, none⟩)] w fun e w' => e = .returned (.int .i64 (if full then 2 else 0)) ∧ w = w' := by
  obtain ⟨A, cap, cur, _, c0, c1, c2, _⟩ := h.open
  clear h
  cases full with
  | true =>
    go_enter Try.func33, Try.ntmps33
    go_wp2
    go_ret
    exact ⟨rfl, rfl⟩
  | false =>
    go_enter Try.func33, Try.ntmps33
    go_wp2
    go_ret
    exact ⟨rfl, rfl⟩
theorem err_nil (w : World) :
    Calls Try.prog 33 #[.pointer none] w fun e w' => e = .returned (.int .i64 1) ∧ w = w' := by
  go_enter Try.func33, Try.ntmps33
  go_wp2
  go_ret
  exact ⟨rfl, rfl⟩
theorem left_any (b g : Nat) (room : Int) (L : List Int) (full : Bool) (w : World) (h : PenAt w b g room L full) (h0 : 0 ≤ room) (h1 : room ≤ 9223372036854775807) (hl : L.length ≤ 9223372036854775807) :
    Calls Try.prog 62 #[.pointer (some ⟨b, 0, none⟩)] w fun e w' => e = .returned (.int .i64 (room - L.length)) ∧ ∃ n, w' = w.drewN n := by
  obtain ⟨A, cap, cur, _, c0, c1, c2, _⟩ := h.open
  clear h
  go_enter Try.func62, Try.ntmps62
  go_wp2
  go_quiet (fail)
  go_wp2
  go_ret
  exact ⟨rfl, _, rfl⟩
theorem clone_any (g c : Nat) (L : List Int) (w : World) (hl : L.length ≤ 1000000000) (h : ∀ j u, L[j]? = some u → w.cell? ⟨g, j, none⟩ = some (.int .u8 u)) :
    Calls Try.prog 40 #[.slice (some ⟨g, 0, none⟩) L.length c] w fun e w' => ∃ v, e = .returned v ∧ Made w w' L v := by
  obtain ⟨i0, hi, hz0, hz1, hz2⟩ := info_parts byteInfo
  have q22 : ∀ (w : World) (a : Option Addr) (n c n' c' : Nat), (binOp .eql 22 (.slice a n c) (.slice none n' c')).run Try.prog w = .ok (.bool a.isNone) w := fun w a n c n' c' => Lib.run_eql_slice_nil w _ _ a n c n' c' Try.underlying22
  have HH := Lib.hid h
  clear h
  go_enter Try.func40, Try.ntmps40
  go_wp2_with (at_builtin; refine wpList_append_own _ rfl _ _ 22 rfl w.heap.size 5 i0 (.int .u8 0) 1 1 Try.underlying22 hi hz0 hz1 hz2 rfl (by decide) _ _ _ rfl (World.ownsRow_made w #[] 0 (Nat.le_refl _) (Nat.zero_le _) rfl) ⟨g, 0, none⟩ L.length c (L.map (Value.int .u8)) rfl ?c1 ?c2 ?c3 ?c4 ?c5 ?c6 ?_)
  case c1 => simp
  case c2 =>
    intro j u hj
    rw [List.getElem?_map] at hj
    obtain ⟨x, hx, rfl⟩ := Option.map_eq_some_iff.1 hj
    rw [Addr.add_lit, Nat.zero_add]
    exact Lib.cell?_alloc_some _ (HH.out j x hx)
  case c3 => intro u hu; obtain ⟨x, _, rfl⟩ := List.mem_map.1 hu; rfl
  case c4 => unfold maxLen; omega
  case c5 => omega
  case c6 => simp
  intro v' w1 hown hgrow hnil
  have HM : Hid (Made w w1 L v') := ⟨by simpa using hown, ((Below.refl _ w).alloc (Nat.le_refl _) _).grown hgrow (by simp) (by intro k hk; simp [Value.ownBlock] at hk; omega)⟩
  clear hown hgrow hnil
  go_wp2
  go_ret
  exact ⟨v', rfl, HM.out⟩
theorem clone_nil (w : World) :
    Calls Try.prog 40 #[.slice none 0 0] w fun e w' => e = .returned (.slice none 0 0) ∧ w = w' := by
  have q22 : ∀ (w : World) (a : Option Addr) (n c n' c' : Nat), (binOp .eql 22 (.slice a n c) (.slice none n' c')).run Try.prog w = .ok (.bool a.isNone) w := fun w a n c n' c' => Lib.run_eql_slice_nil w _ _ a n c n' c' Try.underlying22
  go_enter Try.func40, Try.ntmps40
  go_wp2
  go_ret
  exact ⟨rfl, rfl⟩
theorem Bytes_any (b g : Nat) (room : Int) (L : List Int) (full : Bool) (w : World) (h : PenAt w b g room L full) (hl : L.length ≤ 1000000000) :
    Calls Try.prog 34 #[.pointer (some ⟨b, 0, none⟩)] w fun e w' => ∃ v, e = .returned v ∧ Made w w' L v := by
  obtain ⟨A, cap, cur, _, c0, c1, c2, hk, hlc, ht, hA⟩ := h.open
  have HT := Lib.hid ht
  clear h ht
  rcases hA with ⟨rfl, _⟩ | ⟨rfl, _⟩
  · have hc0 : cap = 0 := by
      rcases hk.2 with ⟨_, h⟩ | ⟨_, h, _⟩
      · exact h
      · simp at h
    subst hc0
    obtain rfl : L = [] := List.eq_nil_of_length_eq_zero (by omega)
    have HC := clone_nil w
    go_enter Try.func34, Try.ntmps34
    go_wp2_with (go_at_call 40; refine HC.mono ?_; rintro e w2 ⟨rfl, rfl⟩)
    go_ret
    exact ⟨_, rfl, Made.nil _⟩
  · have HC := clone_any g cap L w hl (fun j u hj => hk.cell rfl (by
      have h1 := HT.out
      rw [← h1, List.getElem?_take] at hj
      by_cases hlt : j < L.length
      · simpa [hlt] using hj
      · simp [hlt] at hj))
    clear hk
    go_enter Try.func34, Try.ntmps34
    go_wp2_with (go_at_call 40; refine HC.mono ?_; rintro e w2 ⟨v, rfl, hm⟩)
    go_ret
    exact ⟨v, rfl, hm⟩
theorem Bytes_nil (w : World) :
    Calls Try.prog 34 #[.pointer none] w fun e w' => e = .returned (.slice none 0 0) ∧ w = w' := by
  go_enter Try.func34, Try.ntmps34
  go_wp2
  go_ret
  exact ⟨rfl, rfl⟩
end Go.Proofs.Ytmilcmgohlfpiaa
