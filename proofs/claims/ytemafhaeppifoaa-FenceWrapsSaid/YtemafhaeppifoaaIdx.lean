/-
  Bytes; contract of bytes.IndexByte at 0.
-/
import Derived.Test.YtemafhaeppifoaaBts
import Derived.Test.YtemafhaeppifoaaRows
import Derived.Test.YtemafhaeppifoaaMem
import Derived.Test.YtemafhaeppifoaaCobN
import Derived.WalkLawsBesides
import Derived.BigQuiet
import Derived.Deep.QuietTactic
import Derived.Deep.LoopGhost
import Derived.Lib.Hide
import Derived.Lib.Slices
import Derived.Lib.MinMax
import Derived.Lib.BytesEntry
import Derived.Laws.Externs
import Derived.WalkMore
namespace Go.Proofs.Ytemafhaeppifoaa
open Go.RowKit
set_option maxRecDepth 100000

/-- the place of the first 0, or -1 -/
def idx (zs : List Int) : Int := if Cb.nz zs < zs.length then (Cb.nz zs : Int) else -1
theorem lib_index (zs : List Int) (hz : Bytes zs) : Lib.indexByte (Lib.bytesOf zs) 0 = idx zs := by
  induction zs with
  | nil => rfl
  | cons z r ih =>
    have hr := ih fun c hc => hz c (by simp [hc])
    have hb := hz z (by simp)
    have hc : Lib.bytesOf (z :: r) = z.toNat.toUInt8 :: Lib.bytesOf r := rfl
    rw [hc, Lib.indexByte, hr]
    by_cases h0 : z = 0
    · subst h0
      simp [idx, Cb.nz]
    · have h1 : (z.toNat.toUInt8 == (0 : UInt8)) = false := by
        rw [beq_eq_false_iff_ne]
        intro e
        have e2 := congrArg UInt8.toNat e
        have : z.toNat.toUInt8.toNat = z.toNat % 256 := by simp [Nat.toUInt8]
        rw [this] at e2
        have e3 : (0 : UInt8).toNat = 0 := rfl
        rw [e3] at e2
        omega
      rw [h1]
      by_cases h2 : Cb.nz r < r.length
      · have e1 : idx r = (Cb.nz r : Int) := by unfold idx; rw [if_pos h2]
        have e2 : idx (z :: r) = ((Cb.nz r + 1 : Nat) : Int) := by unfold idx; rw [Cb.nz, if_neg h0, List.length_cons, if_pos (by omega)]
        have e3 : ((Cb.nz r : Int) == -1) = false := by rw [beq_eq_false_iff_ne]; omega
        rw [e1, e2, e3]
        simp
      · have e1 : idx r = -1 := by unfold idx; rw [if_neg h2]
        have e2 : idx (z :: r) = -1 := by unfold idx; rw [Cb.nz, if_neg h0, List.length_cons, if_neg (by omega)]
        rw [e1, e2]
        simp

theorem index_run (P : Program) (B : Nat) (a : Option Addr) (n c : Nat) (zs : List Int) (w : World) (hn : zs.length = n) (hz : Bytes zs) (h1 : Nums .u8 w B a zs) :
    (Extern.BytealgIndexByte.indexByte #[.slice a n c, .int .u8 0]).run P w = .ok (.int .i64 (idx zs)) w := by
  subst hn
  by_cases h0 : zs = []
  · subst h0
    cases a with
    | none => exact Lib.run_indexByteNil w 0 c 0
    | some x =>
      have hs := Lib.run_indexByteString (P := P) .empty 0 w
      exact hs
  · obtain ⟨b, o, rfl, _, hc⟩ := h1 h0
    have h := Lib.run_indexByteSlice (P := P) w b o zs.length c zs rfl (fun i hi => by
      rw [hc i zs[i] (List.getElem?_eq_getElem hi)]
      simp [List.getElem?_eq_getElem hi]) 0
    rw [← lib_index zs hz]
    exact h

theorem index_any (B : Nat) (a : Option Addr) (n c : Nat) (zs : List Int) (w : World) (hn : zs.length = n) (hz : Bytes zs) (h1 : Nums .u8 w B a zs) :
    Calls Try.prog 26 #[.slice a n c, .int .u8 0] w fun e w' => e = .returned (.int .i64 (idx zs)) ∧ w' = w := by
  have hr := index_run Try.prog B a n c zs w hn hz h1
  clear h1
  go_enter Try.func26, Try.ntmps26
  go_wp2
  rw [run_callFunc_extern Try.func29 (by kernel_rfl) (by kernel_rfl) (by kernel_rfl) (e := Extern.BytealgIndexByte.indexByte) (by kernel_rfl), hr]
  simp only [Result.andThen]
  rw [Oper.upon_value]
  go_wp2
  go_ret
  exact ⟨rfl, rfl⟩
end Go.Proofs.Ytemafhaeppifoaa
