/-
  The walk of the law CrcNil: it returns true.
-/
import Derived.Test.YtbhdffefjphphaaCrcK
namespace Go.Proofs.Ytbhdffefjphphaa
open Go.RowKit
set_option maxRecDepth 100000

theorem seal_nil (v : Value) (w : World) : Calls Try.prog 20 #[.pointer none, v] w fun e w' => e = .returned (.slice none 0 0) ∧ w' = w := by
  go_enter Try.func20, Try.ntmps20
  go_wp2
  go_ret
  exact ⟨rfl, rfl⟩
theorem open_nil (a : Option Addr) (n c : Nat) (w : World) (hl : n ≤ 9223372036854775807) : Calls Try.prog 23 #[.pointer none, .slice a n c] w fun e w' => e = .returned (.tuple #[.slice none 0 0, .int .i64 1]) ∧ w' = w := by
  go_enter Try.func23, Try.ntmps23
  go_wp2
  refine bodyPost_ret (v := .tuple #[.slice none 0 0, .int .i64 1]) (by simp [results, Try.results23, go_sem]) rfl ⟨rfl, rfl⟩

theorem bytes_of {es : List Int} (h : ∀ n ∈ es, (Lit.int .u8 n).wf = true) : Bytes es := fun z hz => by
  have := bounds_u8 (h z hz)
  omega

theorem walk_znil (a0 : Option Addr) (len0 cap0 : Nat) (z0 : List Int) (a1 : Int) (w : World) (w0 : IsRow .u8 w a0 len0 cap0 z0) (_w1 : (Lit.int .u32 a1).wf = true) :
    Calls Try.prog 7 #[.slice a0 len0 cap0, .int .u32 a1] w fun e w' => e = .returned (.bool true) ∧ Below w.heap.size w w' := by
  obtain ⟨es, rfl, hlc, hcm, hn, hw⟩ := w0.elems
  have hb := bytes_of hw
  have hl : es.length ≤ 9223372036854775807 := Nat.le_trans hlc hcm
  clear w0 hw hcm z0
  have O := open_nil a0 es.length cap0 w hl
  go_enter Try.func7, Try.ntmps7
  go_wp2_with fail
  refine O.mono ?_
  rintro e w1 ⟨rfl, rfl⟩
  go_wp2_with fail
  refine (known_any _).mono ?_
  rintro e w2 ⟨rfl, hb2⟩
  have hp := Parts.new (w := w2) (B := w1.heap.size) (ps := [⟨a0, cap0, es⟩]) 22 _ (by
    intro p hp
    simp only [List.mem_singleton] at hp
    subst hp
    exact ⟨hlc, hl, hb, hn.below hb2⟩) hb2.size rfl
  have K := sum_nil _ _ 1 _ _ _ rfl (by simp) hp
  simp only [List.map_cons, List.map_nil] at K
  clear hp hn
  go_wp2_with fail
  refine K.mono ?_
  rintro e w3 ⟨rfl, rfl⟩
  clear K
  have hb3 := hb2.alloc hb2.size (.cells #[.slice a0 es.length cap0] 22)
  generalize World.alloc _ _ = w3 at *
  go_wp2_with fail
  refine (begin_nil _).mono ?_
  rintro e w4 ⟨rfl, rfl⟩
  go_wp2_with fail
  refine (add_nil _ _ _).mono ?_
  rintro e w5 ⟨rfl, rfl⟩
  go_wp2_with fail
  refine (end_nil _ _).mono ?_
  rintro e w6 ⟨rfl, rfl⟩
  go_wp2_with fail
  refine (entry_nil _ _).mono ?_
  rintro e w7 ⟨rfl, rfl⟩
  go_wp2_with fail
  refine (seal_nil _ _).mono ?_
  rintro e w8 ⟨rfl, rfl⟩
  go_wp2
  go_ret
  exact ⟨rfl, hb3⟩
end Go.Proofs.Ytbhdffefjphphaa
