/-
  Contracts of layer 17: what is wrong with a number, with how many, with a text.
-/
import Derived.Test.YtnbhiamnoapmlaaMsgM
import Derived.Lib.MinMax
namespace Go.Proofs.Ytnbhiamnoapmlaa
open Go.RowKit Go.Shelf
set_option maxRecDepth 100000
attribute [local go_sem] Oper.semAt_some

theorem wnum_any (n le mo : Int) (w : World) : Calls Try.prog 29 #[.int .i64 n, .int .i64 le, .int .i64 mo] w fun e w' => e = .returned (.int .i64 (wN n le mo)) ∧ w = w' := by
  by_cases h1 : n < le
  · rw [show wN n le mo = 5 from if_pos (.inl h1)]
    go_enter Try.func29, Try.ntmps29
    go_wp2
    go_ret
    exact ⟨rfl, rfl⟩
  · by_cases h2 : mo < n
    · rw [show wN n le mo = 5 from if_pos (.inr h2)]
      go_enter Try.func29, Try.ntmps29
      go_wp2
      go_ret
      exact ⟨rfl, rfl⟩
    · rw [show wN n le mo = 0 from if_neg (by omega)]
      go_enter Try.func29, Try.ntmps29
      go_wp2
      go_ret
      exact ⟨rfl, rfl⟩
theorem wsize_any (n mo : Int) (w : World) : Calls Try.prog 41 #[.int .i64 n, .int .i64 mo] w fun e w' => e = .returned (.int .i64 (wS n mo)) ∧ w = w' := by
  by_cases h1 : n = 0
  · subst h1
    rw [show wS 0 mo = 13 from rfl]
    go_enter Try.func41, Try.ntmps41
    go_wp2
    go_ret
    exact ⟨rfl, rfl⟩
  · have hb : (n == 0) = false := by simpa using h1
    by_cases h2 : mo < n
    · rw [show wS n mo = 6 by simp [wS, h1, h2]]
      go_enter Try.func41, Try.ntmps41
      go_wp2
      go_ret
      exact ⟨rfl, rfl⟩
    · rw [show wS n mo = 0 by simp [wS, h1, h2]]
      go_enter Try.func41, Try.ntmps41
      go_wp2
      go_ret
      exact ⟨rfl, rfl⟩
theorem byte_at (s : ByteArray) (j : Nat) (hj : j < s.size) : s.data.toList[j]? = some s[j] := by
  rw [Array.getElem?_toList]
  exact Array.getElem?_eq_getElem hj
set_option maxHeartbeats 2000000 in
theorem wtext_any (s : ByteArray) (mo : Int) (hs : s.size ≤ maxLen) (w : World) : Calls Try.prog 28 #[.string s, .int .i64 mo] w fun e w' => e = .returned (.int .i64 (wT s mo)) ∧ w = w' := by
  obtain ⟨n, hn⟩ : ∃ n, s.size = n := ⟨_, rfl⟩
  have hl : n ≤ 9223372036854775807 := by unfold maxLen at hs; omega
  clear hs
  by_cases h1 : mo < (n : Int)
  · rw [show wT s mo = 6 by unfold wT; rw [hn]; exact if_pos h1]
    go_enter Try.func28, Try.ntmps28
    go_wp2
    refine wp_scope_straight ?_
    go_wp2
    simp only [Exit.noGoto]
    go_ret
    exact ⟨rfl, rfl⟩
  · obtain ⟨R, hR⟩ : ∃ R, wT s mo = R := ⟨_, rfl⟩
    rw [hR]
    have HR := Lib.hid hR
    clear hR
    go_enter Try.func28, Try.ntmps28
    go_wp2
    refine wp_scope_straight ?_
    go_wp2
    refine wp_label ?_
    go_wp2
    go_loopw [5, 13] (fun x iv wr => ∃ j : Nat, j ≤ n ∧ x = .int .i64 0 ∧ iv = .int .i64 (j : Int) ∧ Hid (∀ b ∈ s.data.toList.take j, byOk b) ∧ wr = w) (fun _ iv _ => n - (intOf iv).toNat)
    case atStart => exact ⟨0, by omega, rfl, rfl, Lib.hid (by simp), rfl⟩
    case round =>
      obtain ⟨j, hj, rfl, rfl, HB, rfl⟩ := hrel
      rcases Nat.lt_or_ge j n with hlt | hge
      · have hg : s.data.toList[j]? = some (s[j]'(by omega)) := byte_at s j (by omega)
        by_cases hb : byOk (s[j]'(by omega))
        · have HB2 : Hid (∀ b ∈ s.data.toList.take (j + 1), byOk b) := Lib.hid (fun b hb2 => by
            rw [List.take_add_one, hg, List.mem_append] at hb2
            rcases hb2 with hb2 | hb2
            · exact HB.out b hb2
            · simp at hb2; subst hb2; exact hb)
          unfold byOk at hb
          clear hg
          go_wp2
          exact ⟨⟨j + 1, by omega, rfl, by go_num, HB2, trivial⟩, by simp only [intOf]; omega⟩
        · obtain rfl : R = 19 := by
            rw [← HR.out]
            unfold wT
            rw [hn, if_neg (by omega), if_neg (fun h => hb (h _ (List.mem_of_getElem? hg)))]
          unfold byOk at hb
          clear hg
          go_wp2
          all_goals
            try simp only [Exit.noGoto]
            go_ret
            exact ⟨rfl, rfl⟩
      · obtain rfl : j = n := by omega
        obtain rfl : R = 0 := by
          rw [← HR.out]
          unfold wT
          rw [hn, if_neg (by omega), if_pos]
          have h2 := HB.out
          rwa [List.take_of_length_le (by show s.data.toList.length ≤ j; rw [Array.length_toList]; exact Nat.le_of_eq hn)] at h2
        go_wp2
        simp only [Exit.noGoto]
        go_ret
        exact ⟨rfl, rfl⟩
end Go.Proofs.Ytnbhiamnoapmlaa
