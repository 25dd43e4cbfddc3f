/-
  Part 1 of the texts of one proof, put together: Shelf, Ito, HdN, Laid, Given, Stops, Mem, Row, Keep, HdP, HdI, StopA, KpC, Ld, HdC, In, Byte, Same, Num, NumGet, Put, Lens, RdA, RdB, RdW, Back, Read, Bts, Zig, RdM, Zag, Clos.
-/
import Derived.Shelf.Strconv.Itoa0
import Derived.Shelf.Strconv.Itoa1
import Derived.Shelf.LaysM
import Derived.Shelf.Strconv.Itoa2
import Derived.Shelf.Strconv.Itoa3
import Derived.Test.YtmmffifndheafaaDoorProg
import Derived.Test.YtmmffifndheafaaDoorRows
import Derived.Below
import Derived.WalkSmall
import Derived.WalkLawsBesides
import Derived.Lib.ItoaMem
import Derived.Lib.Hide
import Derived.BigCall
import Derived.BigGuard
import Derived.WalkKit
import Derived.RangeFuncBox
import Derived.ProofKit
import Derived.OpenShut
import Derived.LaidMore
import Derived.LaidLaws
import Derived.MakeChecks
import Derived.Lib.LaidTab
import Derived.Stop.Joined
import Derived.Stop.LaidErr
import Derived.Deep.Fields
import Derived.RangeFuncNested
import Derived.RangeFuncWrites
import Derived.RangeFuncLeaves
import Derived.OwnWalkIn
import Derived.Deep.Draws
import Derived.Laws.OwnMore
import Derived.Deep.AppendLies
import Derived.Maps.AppendAt
import Derived.BigQuiet
import Derived.Laws.CopyOwn
import Derived.Lib.AppendZerosOnto
import Derived.RangeFuncKeeps
import Derived.WalkMore
import Derived.WalkSpells
import Derived.RangeFuncBound
import Derived.RangeFuncCalls
import Derived.Shelf.Abstract
import Derived.Shelf.RegionOpen
import Derived.TacticsInMore
import Derived.LoopNIn
import Derived.LoopIn
import Derived.Deep.QuietTactic
import Derived.Deep.LoopGhost
import Derived.Laws.BitsAllLaws
import Derived.Laws.BitsLemmas
import Derived.Lib.SliceRun
import Derived.Deep.OwnRows
import Derived.Deep.RegionWith
namespace Go.Proofs
open Go.Shelf
def Tryd.lays283_ren : Go.Shelf.Ren := ⟨fun | 283 => 32 | n => n, fun | 3 => 3 | 9 => 9 | 4 => 4 | n => n, fun | n => n⟩
theorem Tryd.lays283 : Go.Proofs.Lays.n283 Tryd.prog Tryd.lays283_ren := {
  mixed := by kernel_rfl
  f283 := Tryd.func32.trans (congrArg some (by kernel_rfl))
  t3 := Tryd.underlying3
  a3 := Tryd.isAgg3
  z3 := Tryd.sizeOf3
  v3 := Tryd.zeroValue3
  t4 := Tryd.underlying4
  a4 := Tryd.isAgg4
  z4 := Tryd.sizeOf4
  v4 := Tryd.zeroValue4
  t9 := Tryd.underlying9
  a9 := Tryd.isAgg9
  z9 := Tryd.sizeOf9
  v9 := Tryd.zeroValue9 }
open Go.Lib in
theorem Tryd.internal_strconv_small (i : Nat) (h : i < 100) (w : World) :
    Calls Tryd.prog 32 #[.int .i64 i] w fun e w' => e = .returned (.string ⟨(Lib.decDigits i).toArray⟩) ∧ w' = w := Any.internal_strconv_small Tryd.lays283 i h w
def Tryd.laysM284_ren : Go.Shelf.Ren := ⟨fun | 284 => 33 | 129 => 41 | 317 => 40 | 318 => 42 | n => n, fun | 53 => 53 | 3 => 3 | 212 => 79 | 0 => 0 | 4 => 4 | 46 => 44 | 5 => 5 | 9 => 9 | n => n, fun | 17 => 0 | n => n⟩
theorem Tryd.laysM284 : Go.Proofs.LaysM.n284 Tryd.prog Tryd.laysM284_ren := {
  mixed := by kernel_rfl
  f129 := Tryd.func41.trans (congrArg some (by kernel_rfl))
  f284 := Tryd.func33.trans (congrArg some (by kernel_rfl))
  f317 := Tryd.func40.trans (congrArg some (by kernel_rfl))
  f318 := Tryd.func42.trans (congrArg some (by kernel_rfl))
  t0 := Tryd.underlying0
  a0 := Tryd.isAgg0
  z0 := Tryd.sizeOf0
  v0 := Tryd.zeroValue0
  t3 := Tryd.underlying3
  a3 := Tryd.isAgg3
  z3 := Tryd.sizeOf3
  v3 := Tryd.zeroValue3
  t4 := Tryd.underlying4
  a4 := Tryd.isAgg4
  z4 := Tryd.sizeOf4
  v4 := Tryd.zeroValue4
  t5 := Tryd.underlying5
  a5 := Tryd.isAgg5
  z5 := Tryd.sizeOf5
  v5 := Tryd.zeroValue5
  t9 := Tryd.underlying9
  a9 := Tryd.isAgg9
  z9 := Tryd.sizeOf9
  v9 := Tryd.zeroValue9
  t46 := Tryd.underlying44
  a46 := Tryd.isAgg44
  z46 := Tryd.sizeOf44
  v46 := Tryd.zeroValue44
  t53 := Tryd.underlying53
  a53 := Tryd.isAgg53
  z53 := Tryd.sizeOf53
  v53 := Tryd.zeroValue53
  t212 := Tryd.underlying79
  a212 := Tryd.isAgg79
  z212 := Tryd.sizeOf79
  v212 := Tryd.zeroValue79
  g17 := by kernel_rfl
  i0 := by kernel_rfl
  i3 := by kernel_rfl
  i4 := by kernel_rfl
  i5 := by kernel_rfl
  i9 := by kernel_rfl
  i46 := by kernel_rfl
  i53 := by kernel_rfl
  i212 := by kernel_rfl
  m17 := by kernel_rfl }
open Go.Lib in
theorem Tryd.internal_strconv_numDigits (u : Nat) (h1 : 1 ≤ u) (h2 : u < 18446744073709551616) (w : World) (htab : Lib.TabIs Tryd.prog w "internal/strconv.uint64pow10" .u64 Lib.pow10Tab) :
    Calls Tryd.prog 33 #[.int .u64 u] w fun e w' => e = .returned (.int .i64 (Lib.nDigits u)) ∧ w' = w := Any.internal_strconv_numDigits Tryd.laysM284 u h1 h2 w htab
def Tryd.lays285_ren : Go.Shelf.Ren := ⟨fun | 285 => 34 | n => n, fun | 37 => 25 | 53 => 53 | 3 => 3 | 4 => 4 | 51 => 22 | 9 => 9 | 5 => 5 | 0 => 0 | n => n, fun | n => n⟩
theorem Tryd.lays285 : Go.Proofs.Lays.n285 Tryd.prog Tryd.lays285_ren := {
  mixed := by kernel_rfl
  f285 := Tryd.func34.trans (congrArg some (by kernel_rfl))
  t0 := Tryd.underlying0
  a0 := Tryd.isAgg0
  z0 := Tryd.sizeOf0
  v0 := Tryd.zeroValue0
  t3 := Tryd.underlying3
  a3 := Tryd.isAgg3
  z3 := Tryd.sizeOf3
  v3 := Tryd.zeroValue3
  t4 := Tryd.underlying4
  a4 := Tryd.isAgg4
  z4 := Tryd.sizeOf4
  v4 := Tryd.zeroValue4
  t5 := Tryd.underlying5
  a5 := Tryd.isAgg5
  z5 := Tryd.sizeOf5
  v5 := Tryd.zeroValue5
  t9 := Tryd.underlying9
  a9 := Tryd.isAgg9
  z9 := Tryd.sizeOf9
  v9 := Tryd.zeroValue9
  t37 := Tryd.underlying25
  a37 := Tryd.isAgg25
  z37 := Tryd.sizeOf25
  v37 := Tryd.zeroValue25
  t51 := Tryd.underlying22
  a51 := Tryd.isAgg22
  z51 := Tryd.sizeOf22
  v51 := Tryd.zeroValue22
  t53 := Tryd.underlying53
  a53 := Tryd.isAgg53
  z53 := Tryd.sizeOf53
  v53 := Tryd.zeroValue53 }
open Go.RowKit Go.Sort Go.Lib in
theorem Tryd.internal_strconv_formatBase10 (blk off cap : Nat) (u : Nat) (d : Array UInt8) (w : World) (hH : Holds (fun (b : UInt8) => Value.int .u8 (b.toNat : Int)) w blk off d) (hu : u < 10 ^ d.size) (hu64 : u < 18446744073709551616) (hsz : d.size < 4611686018427387904) :
    Calls Tryd.prog 34 #[.slice (some ⟨blk, off, none⟩) d.size cap, .int .u64 u] w fun e w' =>
      e = .returned (.tuple #[]) ∧ ∃ (n v' : Nat) (dk : Array UInt8), w' = (putRow (fun (b : UInt8) => Value.int .u8 (b.toNat : Int)) w blk off dk).drewN n ∧ FmtInv d.size u 0 v' dk := Any.internal_strconv_formatBase10 Tryd.lays285 blk off cap u d w hH hu hu64 hsz
def Tryd.laysM171_ren : Go.Shelf.Ren := ⟨fun | 171 => 19 | 243 => 27 | 246 => 31 | 283 => 32 | 284 => 33 | 285 => 34 | 286 => 35 | 129 => 41 | 317 => 40 | 318 => 42 | 319 => 43 | 320 => 44 | 337 => 47 | 338 => 48 | n => n, fun | 3 => 3 | 9 => 9 | 2 => 2 | 4 => 4 | 171 => 66 | 0 => 0 | 53 => 53 | 37 => 25 | 5 => 5 | 173 => 69 | 212 => 79 | 51 => 22 | 20 => 20 | 213 => 80 | 46 => 44 | 232 => 87 | 233 => 88 | n => n, fun | 17 => 0 | 18 => 1 | 19 => 2 | n => n⟩
theorem Tryd.laysM171 : Go.Proofs.LaysM.n171 Tryd.prog Tryd.laysM171_ren := {
  mixed := by kernel_rfl
  f129 := Tryd.func41.trans (congrArg some (by kernel_rfl))
  f171 := Tryd.func19.trans (congrArg some (by kernel_rfl))
  f243 := Tryd.func27.trans (congrArg some (by kernel_rfl))
  f246 := Tryd.func31.trans (congrArg some (by kernel_rfl))
  f283 := Tryd.func32.trans (congrArg some (by kernel_rfl))
  f284 := Tryd.func33.trans (congrArg some (by kernel_rfl))
  f285 := Tryd.func34.trans (congrArg some (by kernel_rfl))
  f286 := Tryd.func35.trans (congrArg some (by kernel_rfl))
  f317 := Tryd.func40.trans (congrArg some (by kernel_rfl))
  f318 := Tryd.func42.trans (congrArg some (by kernel_rfl))
  f319 := Tryd.func43.trans (congrArg some (by kernel_rfl))
  f320 := Tryd.func44.trans (congrArg some (by kernel_rfl))
  f337 := Tryd.func47.trans (congrArg some (by kernel_rfl))
  f338 := Tryd.func48.trans (congrArg some (by kernel_rfl))
  t0 := Tryd.underlying0
  a0 := Tryd.isAgg0
  z0 := Tryd.sizeOf0
  v0 := Tryd.zeroValue0
  t2 := Tryd.underlying2
  a2 := Tryd.isAgg2
  z2 := Tryd.sizeOf2
  v2 := Tryd.zeroValue2
  t3 := Tryd.underlying3
  a3 := Tryd.isAgg3
  z3 := Tryd.sizeOf3
  v3 := Tryd.zeroValue3
  t4 := Tryd.underlying4
  a4 := Tryd.isAgg4
  z4 := Tryd.sizeOf4
  v4 := Tryd.zeroValue4
  t5 := Tryd.underlying5
  a5 := Tryd.isAgg5
  z5 := Tryd.sizeOf5
  v5 := Tryd.zeroValue5
  t9 := Tryd.underlying9
  a9 := Tryd.isAgg9
  z9 := Tryd.sizeOf9
  v9 := Tryd.zeroValue9
  t20 := Tryd.underlying20
  a20 := Tryd.isAgg20
  z20 := Tryd.sizeOf20
  v20 := Tryd.zeroValue20
  t37 := Tryd.underlying25
  a37 := Tryd.isAgg25
  z37 := Tryd.sizeOf25
  v37 := Tryd.zeroValue25
  t46 := Tryd.underlying44
  a46 := Tryd.isAgg44
  z46 := Tryd.sizeOf44
  v46 := Tryd.zeroValue44
  t51 := Tryd.underlying22
  a51 := Tryd.isAgg22
  z51 := Tryd.sizeOf22
  v51 := Tryd.zeroValue22
  t53 := Tryd.underlying53
  a53 := Tryd.isAgg53
  z53 := Tryd.sizeOf53
  v53 := Tryd.zeroValue53
  t171 := Tryd.underlying66
  a171 := Tryd.isAgg66
  z171 := Tryd.sizeOf66
  v171 := Tryd.zeroValue66
  t173 := Tryd.underlying69
  a173 := Tryd.isAgg69
  z173 := Tryd.sizeOf69
  v173 := Tryd.zeroValue69
  t212 := Tryd.underlying79
  a212 := Tryd.isAgg79
  z212 := Tryd.sizeOf79
  v212 := Tryd.zeroValue79
  t213 := Tryd.underlying80
  a213 := Tryd.isAgg80
  z213 := Tryd.sizeOf80
  t232 := Tryd.underlying87
  a232 := Tryd.isAgg87
  z232 := Tryd.sizeOf87
  v232 := Tryd.zeroValue87
  t233 := Tryd.underlying88
  a233 := Tryd.isAgg88
  z233 := Tryd.sizeOf88
  v233 := Tryd.zeroValue88
  g17 := by kernel_rfl
  g18 := by kernel_rfl
  g19 := by kernel_rfl
  i0 := by kernel_rfl
  i2 := by kernel_rfl
  i3 := by kernel_rfl
  i4 := by kernel_rfl
  i5 := by kernel_rfl
  i9 := by kernel_rfl
  i20 := by kernel_rfl
  i37 := by kernel_rfl
  i46 := by kernel_rfl
  i51 := by kernel_rfl
  i53 := by kernel_rfl
  i171 := by kernel_rfl
  i173 := by kernel_rfl
  i212 := by kernel_rfl
  i232 := by kernel_rfl
  i233 := by kernel_rfl
  m17 := by kernel_rfl
  m18 := by kernel_rfl
  m19 := by kernel_rfl }
open Go.RowKit Go.Sort Go.Lib in
theorem Tryd.strconv_Itoa (n : Int) (h0 : -9223372036854775808 ≤ n) (h1 : n ≤ 9223372036854775807) (w : World) (htab : Lib.TabIs Tryd.prog w "internal/strconv.uint64pow10" .u64 Lib.pow10Tab) :
    Calls Tryd.prog 19 #[.int .i64 n] w fun e w' => e = .returned (.string ⟨(Lib.itoa n).toArray⟩) ∧ ∃ k os, w' = grow (w.drewN k) os := Any.strconv_Itoa Tryd.laysM171 n h0 h1 w htab
end Go.Proofs

namespace Go.Proofs.YtmmffifndheafaaDoor
open Go.RowKit Go.Sort
set_option maxRecDepth 100000

/-- the table of powers of ten is as its text lays it, in a block below B -/
def Tens (w : World) (B : Nat) : Prop := Lib.TabIs Tryd.prog w "internal/strconv.uint64pow10" .u64 Lib.pow10Tab ∧ ∀ g, Tryd.prog.globalNamed "internal/strconv.uint64pow10" = some g → g < B
theorem Tens.below {w w' : World} {B : Nat} (h : Tens w B) (hb : Below B w w') : Tens w' B := by
  refine ⟨?_, h.2⟩
  have h1 := h.1
  unfold Lib.TabIs World.var? at *
  cases hg : Tryd.prog.globalNamed "internal/strconv.uint64pow10" with
  | none => rw [hg] at h1; simp at h1
  | some g =>
    rw [hg] at h1
    simp only [Option.bind_some] at h1 ⊢
    rw [hb.block g (h.2 g hg)]
    exact h1
theorem Tens.mono {w : World} {B B' : Nat} (h : Tens w B) (hB : B ≤ B') : Tens w B' := ⟨h.1, fun g hg => Nat.lt_of_lt_of_le (h.2 g hg) hB⟩
theorem Tens.of {w : World} (h : Lib.TabIs Tryd.prog w "internal/strconv.uint64pow10" .u64 Lib.pow10Tab) : Tens w w.heap.size := by
  refine ⟨h, fun g hg => ?_⟩
  unfold Lib.TabIs World.var? at h
  rw [hg] at h
  rcases Nat.lt_or_ge g w.heap.size with h1 | h1
  · exact h1
  · rw [Option.bind_some, Array.getElem?_eq_none h1] at h; simp at h

theorem below_grow (w : World) (k : Nat) (os : Array Obj) : Below w.heap.size w (grow (w.drewN k) os) :=
  ⟨rfl, rfl, rfl, by simp [grow, World.drewN], fun j hj => by simp only [grow]; rw [Array.getElem?_append_left (by simpa [World.drewN] using hj)]; rfl⟩

theorem itoa_any (n : Int) (h0 : -9223372036854775808 ≤ n) (h1 : n ≤ 9223372036854775807) (B : Nat) (w : World) (ht : Tens w B) :
    Calls Tryd.prog 19 #[.int .i64 n] w fun e w' => e = .returned (.string ⟨(Lib.itoa n).toArray⟩) ∧ Below w.heap.size w w' :=
  (Tryd.strconv_Itoa n h0 h1 w ht.1).mono fun e w' ⟨h, k, os, hw⟩ => ⟨h, by rw [hw]; exact below_grow w k os⟩

theorem holds_zero0 (w : World) (T : TypeId) (nd : Nat) (hs : nd ≤ 24) : Holds (fun (b : UInt8) => Value.int .u8 (b.toNat : Int)) (w.alloc (.cells Lib.zeros24 T)) w.heap.size 0 (Array.replicate nd (0 : UInt8)) := fun j hj => by
  have hj' : j < nd := by simpa using hj
  refine ⟨?_, World.frozen?_alloc_new _ _ _ _⟩
  rw [World.cell?_alloc_new, Lib.zeros24_at _ (by omega), getElem!_pos _ j hj]
  simp
theorem fin_zero (w : World) (o : Obj) (dk : Array UInt8) (k : Nat) : Below w.heap.size w ((putRow (fun (b : UInt8) => Value.int .u8 (b.toNat : Int)) (w.alloc o) w.heap.size 0 dk).drewN k) := by
  rw [alloc_eq_grow]
  obtain ⟨os', _, e⟩ := putRow_grow_new (fun (b : UInt8) => Value.int .u8 (b.toNat : Int)) w #[o] w.heap.size 0 dk (Nat.le_refl _)
  rw [e]
  exact below_grow w k os'

set_option maxHeartbeats 6400000 in
theorem fmtu_in (u : Nat) (hu64 : u < 18446744073709551616) (B : Nat) (w : World) (ht : Tens w B) :
    Calls Tryd.prog 28 #[.int .u64 (u : Int), .int .i64 10] w fun e w' => e = .returned (.string ⟨(Lib.decDigits u).toArray⟩) ∧ Below w.heap.size w w' := by
  by_cases hs : u < 100
  · go_enter Tryd.func28, Tryd.ntmps28
    go_wp2_with (go_at_call 32; refine (Tryd.internal_strconv_small u hs _).mono ?_; rintro e w' ⟨rfl, rfl⟩)
    go_ret
    exact ⟨rfl, Below.refl _ _⟩
  · have hu1 : 1 ≤ u := by omega
    have hnd20 : Lib.nDigits u ≤ 20 := by have := Lib.numDigits_eq u hu1 hu64; split at this <;> omega
    have hal : Tryd.prog.arrayLen 66 = 24 := by simp [Program.arrayLen, Tryd.underlying66]
    have hsl : ∀ W, (Instr.sliceAt 66 (.pointer (some ⟨w.heap.size, 0, none⟩)) none (some (.int .i64 (Lib.nDigits u : Int))) none).run Tryd.prog W = .ok (.slice (some ⟨w.heap.size, 0, none⟩) (Lib.nDigits u) 24) W := fun W => by
      rw [run_sliceAt_array_h W 66 ⟨w.heap.size, 0, none⟩ (by simp [Program.arrayLen, Program.elem, Tryd.underlying66]) .i64 (Lib.nDigits u : Int) (by omega) (by rw [hal]; omega)]
      go_simp
    have hH0 := holds_zero0 w 66 (Lib.nDigits u) (by omega)
    have hfmt := Tryd.internal_strconv_formatBase10 w.heap.size 0 24 u (Array.replicate (Lib.nDigits u) 0) (w.alloc (.cells Lib.zeros24 66)) hH0 (by rw [Array.size_replicate]; exact Lib.lt_pow_nDigits u) hu64 (by rw [Array.size_replicate]; omega)
    rw [Array.size_replicate] at hfmt
    have HH0 := Lib.hid hH0
    clear hH0 hal
    go_enter Tryd.func28, Tryd.ntmps28
    go_wp2_with (go_at_call 33; refine (Tryd.internal_strconv_numDigits u hu1 hu64 _ (Lib.tabIs_alloc ht.1 _)).mono ?_; rintro e w' ⟨rfl, rfl⟩)
    go_at_call 34
    refine hfmt.mono ?_
    rintro e w' ⟨rfl, k, v', dk, rfl, hF⟩
    have hcv : (convert 25 9 (.slice (some ⟨w.heap.size, 0, none⟩) (Lib.nDigits u) 24)).run Tryd.prog ((putRow (fun (b : UInt8) => Value.int .u8 (b.toNat : Int)) (w.alloc (.cells Lib.zeros24 66)) w.heap.size 0 dk).drewN k) = .ok (.string ⟨(Lib.decDigits u).toArray⟩) ((putRow (fun (b : UInt8) => Value.int .u8 (b.toNat : Int)) (w.alloc (.cells Lib.zeros24 66)) w.heap.size 0 dk).drewN k) := by
      have h := run_convert_bytes_back (P := Tryd.prog) ((putRow (fun (b : UInt8) => Value.int .u8 (b.toNat : Int)) (w.alloc (.cells Lib.zeros24 66)) w.heap.size 0 dk).drewN k) 25 9 5 ⟨w.heap.size, 0, none⟩ 24 (Lib.decDigits u) Tryd.underlying25 Tryd.underlying5 Tryd.underlying9 (fun j hj => by
        rw [Lib.row_is_numeral hF j hj, Lib.add_plain, World.cell?_drewN]
        exact cell?_putRow (fun (b : UInt8) => Value.int .u8 (b.toNat : Int)) _ w.heap.size 0 _ dk HH0.out (by rw [hF.size, Array.size_replicate]) j (by rw [hF.size]; rw [Lib.decDigits_length] at hj; exact hj))
      rw [Lib.decDigits_length] at h
      exact h
    go_wp2
    go_ret
    exact ⟨rfl, fin_zero w _ dk k⟩

theorem fmtu_any (u : Nat) (hu64 : u < 18446744073709551616) (B : Nat) (w : World) (ht : Tens w B) :
    Calls Tryd.prog 20 #[.int .u64 (u : Int), .int .i64 10] w fun e w' => e = .returned (.string ⟨(Lib.decDigits u).toArray⟩) ∧ Below w.heap.size w w' := by
  have H := fmtu_in u hu64 B w ht
  go_enter Tryd.func20, Tryd.ntmps20
  go_wp2_with (go_at_call 28; refine H.mono ?_; rintro e w' ⟨rfl, hb⟩)
  go_ret
  exact ⟨rfl, hb⟩
end Go.Proofs.YtmmffifndheafaaDoor

namespace Go.Proofs.YtmmffifndheafaaDoor
open Go.RowKit

/-- a head, as a value -/
def hdV (v k s i c : Int) : Value := .agg #[.int .i64 v, .int .i64 k, .int .u32 s, .int .i64 i, .int .i64 c]
/-- what is wrong with a head -/
def chk (v k i c : Int) : Int := if v < 1 ∨ 2 < v then 10 else if k < 1 ∨ 5 < k then 9 else if c < 1 ∨ 255 < c ∨ i < 0 ∨ c ≤ i then 3 else 0
theorem chk_zero {v k i c : Int} (h : chk v k i c = 0) : (v = 1 ∨ v = 2) ∧ 1 ≤ k ∧ k ≤ 5 ∧ 1 ≤ c ∧ c ≤ 255 ∧ 0 ≤ i ∧ i < c := by
  unfold chk at h
  split at h
  · omega
  · split at h
    · omega
    · split at h <;> omega
theorem chk_cases (v k i c : Int) : (chk v k i c = 10 ∧ (v < 1 ∨ 2 < v)) ∨ (chk v k i c = 9 ∧ 1 ≤ v ∧ v ≤ 2 ∧ (k < 1 ∨ 5 < k)) ∨ (chk v k i c = 3 ∧ 1 ≤ v ∧ v ≤ 2 ∧ 1 ≤ k ∧ k ≤ 5 ∧ (c < 1 ∨ 255 < c)) ∨
    (chk v k i c = 3 ∧ 1 ≤ v ∧ v ≤ 2 ∧ 1 ≤ k ∧ k ≤ 5 ∧ 1 ≤ c ∧ c ≤ 255 ∧ (i < 0 ∨ c ≤ i)) ∨ (chk v k i c = 0 ∧ 1 ≤ v ∧ v ≤ 2 ∧ 1 ≤ k ∧ k ≤ 5 ∧ 1 ≤ c ∧ c ≤ 255 ∧ 0 ≤ i ∧ i < c) := by
  unfold chk
  split
  · omega
  · split
    · omega
    · split <;> omega
/-- the cells of a head that has been boxed, in a later world -/
theorem hd_cells {w w1 : World} {v k s i c : Int} {t : TypeId} (hb : Below (w.alloc (.cells #[.int .i64 v, .int .i64 k, .int .u32 s, .int .i64 i, .int .i64 c] t)).heap.size (w.alloc (.cells #[.int .i64 v, .int .i64 k, .int .u32 s, .int .i64 i, .int .i64 c] t)) w1) :
    w1.cell? ⟨w.heap.size, 0, none⟩ = some (.int .i64 v) ∧ w1.cell? ⟨w.heap.size, 1, none⟩ = some (.int .i64 k) ∧ w1.cell? ⟨w.heap.size, 2, none⟩ = some (.int .u32 s) ∧ w1.cell? ⟨w.heap.size, 3, none⟩ = some (.int .i64 i) ∧ w1.cell? ⟨w.heap.size, 4, none⟩ = some (.int .i64 c) := by
  have h : w1.heap[w.heap.size]? = some (.cells #[.int .i64 v, .int .i64 k, .int .u32 s, .int .i64 i, .int .i64 c] t (0, 0)) := (hb.block _ (by simp)).trans (World.alloc_heap_new _ _)
  simp [World.cell?, h]
theorem hd_block {W : World} {b : Nat} {v k s i c : Int} {t : TypeId} (h : W.heap[b]? = some (.cells #[.int .i64 v, .int .i64 k, .int .u32 s, .int .i64 i, .int .i64 c] t (0, 0))) :
    W.cell? ⟨b, 0, none⟩ = some (.int .i64 v) ∧ W.cell? ⟨b, 1, none⟩ = some (.int .i64 k) ∧ W.cell? ⟨b, 2, none⟩ = some (.int .u32 s) ∧ W.cell? ⟨b, 3, none⟩ = some (.int .i64 i) ∧ W.cell? ⟨b, 4, none⟩ = some (.int .i64 c) := by
  simp [World.cell?, h]
end Go.Proofs.YtmmffifndheafaaDoor

namespace Go.Proofs.YtmmffifndheafaaDoor
open Go.ChangeShapes Go.WideShapes Go.RowKit

theorem ownK : ownKnob Tryd.prog.godebug = none := by kernel_rfl
theorem lOut : laidOutB Tryd.prog = true := by kernel_rfl

/-- the listed variables, in the rows' order -/
def laidL {H : Type} : List (String × DataW H) := [("math/bits.deBruijn32tab", Rows.laid_math_bits_deBruijn32tab), ("math/bits.deBruijn64tab", Rows.laid_math_bits_deBruijn64tab), ("internal/strconv.uint64pow10", Rows.laid_internal_strconv_uint64pow10)]

theorem door_met (os : Os) (args : Array Value) : laidMetH Tryd.prog laidL ((World.doorLaid Tryd.prog 2000 os).forCall (fun _ _ => 0) ⟨#[], args, []⟩).memory :=
  laidMetH_of_parts3 (fuel := 8) (laidMet_of_run' 8 (by kernel_rfl) (by kernel_rfl)) (by kernel_rfl) (by kernel_rfl)

theorem tens_of_laid {W : World} (h : laidMetH Tryd.prog laidL W) : Tens W W.heap.size := by
  rw [MakeChecks.laidMetH_plain _ _ _ (by kernel_rfl)] at h
  have h2 := h.tail.tail
  exact Tens.of (Lib.tabIs_of_head (g := 0) (t := 79) (e := 53) (n := 20) (by kernel_rfl) (by kernel_rfl) Tryd.underlying79 Tryd.underlying53 (by kernel_rfl) (by kernel_rfl) (show laidMet Tryd.prog [("internal/strconv.uint64pow10", Lib.tabData .u64 Lib.pow10Tab)] W from h2))

section
variable {H : Type} {enc : TypeId × Value → H} {w : World} {base : Nat} {spare : Nat → Bool} {held : Bool}
theorem open_head {r : Reach} {b0 : Nat} {x : Value} {d : DataW H} {p : List MemPlace} (hv : Value.okWide Tryd.prog w r b0 24 x) (h : DataW.Trod enc Tryd.prog w base spare held 24 x d p) :
    ∃ v k s i c : Int, x = hdV v k s i c ∧ (Lit.int .i64 v).wf = true ∧ (Lit.int .i64 k).wf = true ∧ (Lit.int .u32 s).wf = true ∧ (Lit.int .i64 i).wf = true ∧ (Lit.int .i64 c).wf = true := by
  obtain ⟨⟨cs⟩, rfl, hsz⟩ := okWide_struct Tryd.underlying24 hv
  have h5 : Tryd.prog.cellsOf 24 = 5 := by kernel_rfl
  rw [h5] at hsz
  obtain ⟨fuel, hf⟩ := h
  obtain ⟨xs, n, _, _, _, hlen, hg⟩ := DataW.trod_struct Tryd.underlying24 hf
  have one : ∀ (t : TypeId) (q : Nat) (kd : IntKind), Tryd.prog.underlying t = some (.int kd) → q < xs.length → DataW.trod enc Tryd.prog w base spare held n t ((cs.drop q).take 1) = xs[q]? → ∃ z, cs[q]? = some (.int kd z) ∧ (Lit.int kd z).wf = true := fun t q kd ht hq e => by
    rw [List.getElem?_eq_getElem hq] at e
    obtain ⟨z, e1, _, hz⟩ := DataW.trod_int ht e
    refine ⟨z, ?_, hz⟩
    have := congrArg (·[0]?) e1
    simpa [List.getElem?_take, List.getElem?_drop] using this
  have hl : xs.length = 5 := hlen
  have g0 := hg 0 _ rfl
  have g1 := hg 1 _ rfl
  have g2 := hg 2 _ rfl
  have g3 := hg 3 _ rfl
  have g4 := hg 4 _ rfl
  simp only [Value.cells] at g0 g1 g2 g3 g4
  obtain ⟨v, a0, r0⟩ := one 3 0 .i64 Tryd.underlying3 (by omega) g0
  obtain ⟨k, a1, r1⟩ := one 3 1 .i64 Tryd.underlying3 (by omega) g1
  obtain ⟨s, a2, r2⟩ := one 22 2 .u32 Tryd.underlying22 (by omega) g2
  obtain ⟨i, a3, r3⟩ := one 3 3 .i64 Tryd.underlying3 (by omega) g3
  obtain ⟨c, a4, r4⟩ := one 3 4 .i64 Tryd.underlying3 (by omega) g4
  refine ⟨v, k, s, i, c, ?_, r0, r1, r2, r3, r4⟩
  match cs, hsz, a0, a1, a2, a3, a4 with
  | [y0, y1, y2, y3, y4], _, a0, a1, a2, a3, a4 =>
    simp at a0 a1 a2 a3 a4
    subst a0 a1 a2 a3 a4
    rfl
end
end Go.Proofs.YtmmffifndheafaaDoor

namespace Go.Proofs.YtmmffifndheafaaDoor
open Go.RowKit

/-- whatever is no cells, lies from B on and is not l lies as it lay -/
structure KeepsBut (B l : Nat) (W W' : World) : Prop where
  size : W.heap.size ≤ W'.heap.size
  same : ∀ (k : Nat) (o : Obj), k ≠ l → B ≤ k → W.heap[k]? = some o → o.isCells = false → W'.heap[k]? = some o

section
variable {F : Fence} {n : Nat} {P : Program} {g : Operand} {ps : Array Tmp} {assign body : Code} {Q : Exit → Act → World → Prop} {a : Act} {w : World}
theorem range_given {α : Type} (hro : F.round = none) (h1 : 1 ≤ n) {gf : Nat} {lb : Array Value} (hg : a.eval g = .func (.func gf) #[] lb) (hFg : F.fn gf) (eg : ∀ args w, (callFunc gf args).run P w = .ok (.enter gf args) w)
    (enc : α → Array Value) (hps : ∀ x, (enc x).size = ps.size) (Rd : Nat → α → World → Prop) (Dn : Nat → World → Prop) (Kp : World → World → Prop) (N : Nat)
    (hRp : ∀ j x W l o o', Rd j x W → w.heap.size ≤ l → W.heap[l]? = some o → o.isCells = false → Rd j x (W.putObj l o'))
    (hDp : ∀ j W l o o', Dn j W → w.heap.size ≤ l → W.heap[l]? = some o → o.isCells = false → Dn j (W.putObj l o'))
    (hKt : ∀ A B C, Kp A B → Kp B C → Kp A C)
    (hKp : ∀ W l o o', w.heap.size ≤ l → W.heap[l]? = some o → o.isCells = false → Kp W (W.putObj l o'))
    (hD0 : ∀ o, Dn 0 ((w.alloc (.deferred (some []))).alloc o)) (a₁ : α → Act)
    (hassign : ∀ (l : Nat) (x : α) (W : World) (K : Act → World → Prop), K (a₁ x) W → assign.wpIn (F.inRound l) (n - 1 - 1) P (Exit.then K (fun _ _ _ => False)) { tmps := (ps.zip (enc x)).foldl (fun t (p, v) => t.setIfInBounds p v) a.tmps, defers := [] } W)
    (hbody : ∀ (l j : Nat) (x : α) (W : World), w.heap.size ≤ l → Rd j x W → j < N → body.wpIn (F.inRound l) (n - 1 - 1) P (fun e _ W' => e = .normal ∧ KeepsFrom w.heap.size W W' ∧ Dn (j + 1) W' ∧ Kp W W') (a₁ x) W)
    (hiter : ∀ (Bk : World → Prop) (l : Nat) (W : World), (∀ A B, Bk A → A.heap.size ≤ B.heap.size → (∀ k, w.heap.size ≤ k → k < w.heap.size + 2 → B.heap[k]? = A.heap[k]?) → Bk B) → (∀ A, Bk A → w.heap.size + 2 ≤ A.heap.size) → l < w.heap.size + 2 → Dn 0 W → Bk W →
      (∀ j x W1, Rd j x W1 → Bk W1 → j < N → YieldAt F (n - 1 - 1) P l (enc x) W1 fun e W2 => e = .returned (.bool true) ∧ Dn (j + 1) W2 ∧ Bk W2 ∧ Kp W1 W2 ∧ KeepsBut w.heap.size l W1 W2) →
      CallsIn F (n - 1) P gf (#[.func (.yield l) #[] #[]] ++ lb) W fun e W' => (∃ v, e = .returned v) ∧ Dn N W' ∧ Bk W')
    (hdone : ∀ (D : Nat) (W : World), w.heap.size ≤ D → Dn N W → W.heap[D]? = some (.deferred (some [])) → Q .normal { a with defers := { target := .collected D, args := #[] } :: a.defers } W) :
    (Code.rangeFunc g ps assign body).wpIn F n P Q a w := by
  apply wpIn_rangeFunc
  intro fn hfn
  rw [hro]
  have hent := run_enterLoop_outer (P := P) (w := w) fn a.tmps ps assign body
  obtain ⟨lp, hlp⟩ : ∃ lp : LoopState → Option Code → Loop, lp = fun st pe => { state := st, pending := pe, fn := fn, tmps := a.tmps, params := ps, assign := assign, body := body, defers := w.heap.size } := ⟨_, rfl⟩
  have hlp0 : ({ state := .ready, pending := none, fn, tmps := a.tmps, params := ps, assign, body, defers := w.heap.size } : Loop) = lp .ready none := by rw [hlp]
  rw [hlp0] at hent
  have hD0' := hD0 (.loop (lp .ready none))
  have hl0 : ((w.alloc (.deferred (some []))).alloc (.loop (lp .ready none))).heap[w.heap.size + 1]? = some (.loop (lp .ready none)) := by
    have h := World.alloc_heap_new (w.alloc (.deferred (some []))) (.loop (lp .ready none))
    rwa [World.size_alloc] at h
  have hd0 : ((w.alloc (.deferred (some []))).alloc (.loop (lp .ready none))).heap[w.heap.size]? = some (.deferred (some [])) := (Below.heap_alloc _ _ _ (by simp)).trans (World.alloc_heap_new w _)
  generalize (w.alloc (.deferred (some []))).alloc (.loop (lp .ready none)) = W0 at *
  refine ⟨_, _, _, { target := .fn (.func gf) lb, args := #[.func (.yield (w.heap.size + 1)) #[] #[]] }, W0, gf, #[.func (.yield (w.heap.size + 1)) #[] #[]] ++ lb, W0, hent, ?_, ?_, ?_, fun _ => h1, ?_⟩
  · simp only [resolve, hg]
    simp [go_sem]
  · intro f' hf'
    simp [Target.leads] at hf'
    subst hf'
    exact hFg
  · simp [invoke, go_sem, eg]
  let Bk : World → Prop := fun W => W.heap[w.heap.size + 1]? = some (.loop (lp .ready none)) ∧ W.heap[w.heap.size]? = some (.deferred (some []))
  have hBlt : ∀ A, Bk A → w.heap.size + 2 ≤ A.heap.size := fun A h => (Array.getElem?_eq_some_iff.1 h.1).1
  refine (hiter Bk (w.heap.size + 1) W0 (fun A B hA _ hAB => ⟨(hAB _ (by omega) (by omega)).trans hA.1, (hAB _ (by omega) (by omega)).trans hA.2⟩) hBlt (by omega) hD0' ⟨hl0, hd0⟩ ?_).mono ?_
  · rintro j x W1 hR hB hj
    have hsz := hBlt W1 hB
    have hy := run_yield (P := P) (args := enc x) hB.1 (by rw [hlp]; exact hps x)
    have hbeg := run_beginRound (P := P) hB.1 (by rw [hlp])
    rw [hlp] at hy hbeg
    refine ⟨fn, _, assign, body, hy, roundIn_of_wpIn hfn (hassign _ x W1 _ ⟨_, hbeg, ?_⟩)⟩
    refine wpIn_mono (hbody _ j x _ (by omega) (hRp j x W1 _ _ _ hR (by omega) hB.1 rfl) hj) ?_
    rintro e a3 W3 ⟨rfl, hk, hDn, hKp3⟩
    have b1 : (W1.putObj (w.heap.size + 1) (.loop { lp .ready none with state := .busy })).heap[w.heap.size + 1]? = some (.loop { lp .ready none with state := .busy }) := World.putObj_heap_same (by omega)
    have b2 : (W1.putObj (w.heap.size + 1) (.loop { lp .ready none with state := .busy })).heap[w.heap.size]? = some (.deferred (some [])) := (World.putObj_heap_other (by omega)).trans hB.2
    have hK1 := hKp W1 (w.heap.size + 1) _ (.loop { lp .ready none with state := .busy }) (by omega) hB.1 rfl
    rw [hlp] at b1 b2 hK1
    have c1 := hk.same _ _ (by omega) b1 rfl
    have c2 := hk.same _ _ (Nat.le_refl _) b2 rfl
    have hend := run_endRound (P := P) none c1
    refine ⟨_, _, hend, rfl, hDp _ _ _ _ _ hDn (by omega) c1 rfl, ?_, hKt _ _ _ hK1 (hKt _ _ _ hKp3 (hKp W3 _ _ _ (by omega) c1 rfl)), ?_, ?_⟩
    · refine ⟨?_, (World.putObj_heap_other (by omega)).trans c2⟩
      rw [hlp]
      exact World.putObj_heap_same (Array.getElem?_eq_some_iff.1 c1).1
    · have h1 := hk.size
      simp only [World.putObj, Array.size_setIfInBounds] at h1 ⊢
      exact h1
    · intro k o hkl hk2 ho hc
      exact (World.putObj_heap_other (by omega)).trans (hk.same k o hk2 ((World.putObj_heap_other (by omega)).trans ho) hc)
  · rintro e W2 ⟨⟨v, rfl⟩, hDN, hB⟩
    have hend := run_endLoop (P := P) hB.1 (by rw [hlp]; simp)
    rw [hlp] at hend
    exact ⟨none, _, hend, hdone _ _ (Nat.le_refl _) (hDp _ _ _ _ _ hDN (by omega) hB.1 rfl) ((World.putObj_heap_other (by omega)).trans hB.2)⟩
end

theorem yield_any {m : Nat} (m' : Nat) {P : Program} {l : Nat} {args : Array Value} {W : World} {R : Ending → World → Prop} (h : YieldAt Fence.wide m P l args W R) : YieldAt Fence.wide m' P l args W R := by
  obtain ⟨fn, tmps, assign, body, hy, hR⟩ := h
  exact ⟨fn, tmps, assign, body, hy, hR.1, fun c cs _ => hR.2 c cs (fun d hd => by cases hd)⟩
end Go.Proofs.YtmmffifndheafaaDoor

namespace Go.Proofs.YtmmffifndheafaaDoor
open Go.RowKit

/-- what a round's body leaves: it goes on (D), or it leaves by a code (X) -/
def stopPost (B : Nat) (Kp : World → World → Prop) (D : World → Prop) (X : Code → World → Prop) (W : World) : Exit → Act → World → Prop
  | .normal, _, W' => KeepsFrom B W W' ∧ D W' ∧ Kp W W'
  | .ret, _, W' => KeepsFrom B W W' ∧ X .ret W'
  | .exit id, _, W' => KeepsFrom B W W' ∧ X (.exit id) W'
  | _, _, _ => False
/-- what a yield answers, as the iterator sees it -/
def YPost (B l : Nat) (Kp : World → World → Prop) (D X : World → Prop) (W1 : World) (e : Ending) (W2 : World) : Prop :=
  (e = .returned (.bool true) ∧ D W2 ∧ Kp W1 W2 ∧ KeepsBut B l W1 W2) ∨ (e = .returned (.bool false) ∧ X W2 ∧ KeepsBut B l W1 W2)

section
variable {F : Fence} {n : Nat} {P : Program} {g : Operand} {ps : Array Tmp} {assign body : Code} {Q : Exit → Act → World → Prop} {a : Act} {w : World}
theorem range_stops {α : Type} (hro : F.round = none) (h1 : 1 ≤ n) {gf : Nat} {lb : Array Value} (hg : a.eval g = .func (.func gf) #[] lb) (hFg : F.fn gf) (eg : ∀ args w, (callFunc gf args).run P w = .ok (.enter gf args) w)
    (enc : α → Array Value) (hps : ∀ x, (enc x).size = ps.size) (Rd : Nat → α → World → Prop) (Dn : Nat → World → Prop) (Sx : Code → World → Prop) (Kp : World → World → Prop) (N : Nat)
    (hRp : ∀ j x W l o o', Rd j x W → w.heap.size ≤ l → W.heap[l]? = some o → o.isCells = false → Rd j x (W.putObj l o'))
    (hDp : ∀ j W l o o', Dn j W → w.heap.size ≤ l → W.heap[l]? = some o → o.isCells = false → Dn j (W.putObj l o'))
    (hSp : ∀ c W l o o', Sx c W → w.heap.size ≤ l → W.heap[l]? = some o → o.isCells = false → Sx c (W.putObj l o'))
    (hKt : ∀ A B C, Kp A B → Kp B C → Kp A C)
    (hKp : ∀ W l o o', w.heap.size ≤ l → W.heap[l]? = some o → o.isCells = false → Kp W (W.putObj l o'))
    (hD0 : ∀ o, Dn 0 ((w.alloc (.deferred (some []))).alloc o)) (a₁ : α → Act)
    (hassign : ∀ (l : Nat) (x : α) (W : World) (K : Act → World → Prop), K (a₁ x) W → assign.wpIn (F.inRound l) (n - 1 - 1) P (Exit.then K (fun _ _ _ => False)) { tmps := (ps.zip (enc x)).foldl (fun t (p, v) => t.setIfInBounds p v) a.tmps, defers := [] } W)
    (hbody : ∀ (l j : Nat) (x : α) (W : World), w.heap.size ≤ l → Rd j x W → j < N → body.wpIn (F.inRound l) (n - 1 - 1) P (stopPost w.heap.size Kp (Dn (j + 1)) Sx W) (a₁ x) W)
    (hiter : ∀ (Bk : World → Prop) (X : World → Prop) (l : Nat) (W : World), (∀ A B, Bk A → A.heap.size ≤ B.heap.size → (∀ k, w.heap.size ≤ k → k < w.heap.size + 2 → B.heap[k]? = A.heap[k]?) → Bk B) → (∀ A, Bk A → w.heap.size + 2 ≤ A.heap.size) →
      (∀ A l' o o', X A → w.heap.size + 2 ≤ l' → A.heap[l']? = some o → o.isCells = false → X (A.putObj l' o')) → l < w.heap.size + 2 → Dn 0 W → Bk W →
      (∀ j x W1, Rd j x W1 → Bk W1 → j < N → YieldAt F (n - 1 - 1) P l (enc x) W1 (YPost w.heap.size l Kp (fun W2 => Dn (j + 1) W2 ∧ Bk W2) X W1)) →
      CallsIn F (n - 1) P gf (#[.func (.yield l) #[] #[]] ++ lb) W fun e W' => (∃ v, e = .returned v) ∧ ((Dn N W' ∧ Bk W') ∨ X W'))
    (hdone : ∀ (D : Nat) (W : World), w.heap.size ≤ D → Dn N W → W.heap[D]? = some (.deferred (some [])) → Q .normal { a with defers := { target := .collected D, args := #[] } :: a.defers } W)
    (hstop : ∀ (D : Nat) (c : Code) (W : World), w.heap.size ≤ D → Sx c W → W.heap[D]? = some (.deferred (some [])) → c.wpIn F n P Q { a with defers := { target := .collected D, args := #[] } :: a.defers } W) :
    (Code.rangeFunc g ps assign body).wpIn F n P Q a w := by
  apply wpIn_rangeFunc
  intro fn hfn
  rw [hro]
  have hent := run_enterLoop_outer (P := P) (w := w) fn a.tmps ps assign body
  obtain ⟨lp, hlp⟩ : ∃ lp : LoopState → Option Code → Loop, lp = fun st pe => { state := st, pending := pe, fn := fn, tmps := a.tmps, params := ps, assign := assign, body := body, defers := w.heap.size } := ⟨_, rfl⟩
  have hlp0 : ({ state := .ready, pending := none, fn, tmps := a.tmps, params := ps, assign, body, defers := w.heap.size } : Loop) = lp .ready none := by rw [hlp]
  rw [hlp0] at hent
  have hD0' := hD0 (.loop (lp .ready none))
  have hl0 : ((w.alloc (.deferred (some []))).alloc (.loop (lp .ready none))).heap[w.heap.size + 1]? = some (.loop (lp .ready none)) := by
    have h := World.alloc_heap_new (w.alloc (.deferred (some []))) (.loop (lp .ready none))
    rwa [World.size_alloc] at h
  have hd0 : ((w.alloc (.deferred (some []))).alloc (.loop (lp .ready none))).heap[w.heap.size]? = some (.deferred (some [])) := (Below.heap_alloc _ _ _ (by simp)).trans (World.alloc_heap_new w _)
  generalize (w.alloc (.deferred (some []))).alloc (.loop (lp .ready none)) = W0 at *
  refine ⟨_, _, _, { target := .fn (.func gf) lb, args := #[.func (.yield (w.heap.size + 1)) #[] #[]] }, W0, gf, #[.func (.yield (w.heap.size + 1)) #[] #[]] ++ lb, W0, hent, ?_, ?_, ?_, fun _ => h1, ?_⟩
  · simp only [resolve, hg]
    simp [go_sem]
  · intro f' hf'
    simp [Target.leads] at hf'
    subst hf'
    exact hFg
  · simp [invoke, go_sem, eg]
  let Bk : World → Prop := fun W => W.heap[w.heap.size + 1]? = some (.loop (lp .ready none)) ∧ W.heap[w.heap.size]? = some (.deferred (some []))
  let X : World → Prop := fun W => ∃ c, Sx c W ∧ W.heap[w.heap.size + 1]? = some (.loop (lp .done (some c))) ∧ W.heap[w.heap.size]? = some (.deferred (some []))
  have hBlt : ∀ A, Bk A → w.heap.size + 2 ≤ A.heap.size := fun A h => (Array.getElem?_eq_some_iff.1 h.1).1
  refine (hiter Bk X (w.heap.size + 1) W0 (fun A B hA _ hAB => ⟨(hAB _ (by omega) (by omega)).trans hA.1, (hAB _ (by omega) (by omega)).trans hA.2⟩) hBlt
    (fun A l' o o' hA hl' ho hc => by
      obtain ⟨c, h1, h2, h3⟩ := hA
      exact ⟨c, hSp c A l' o o' h1 (by omega) ho hc, (World.putObj_heap_other (by omega)).trans h2, (World.putObj_heap_other (by omega)).trans h3⟩) (by omega) hD0' ⟨hl0, hd0⟩ ?_).mono ?_
  · rintro j x W1 hR hB hj
    have hsz := hBlt W1 hB
    have hy := run_yield (P := P) (args := enc x) hB.1 (by rw [hlp]; exact hps x)
    have hbeg := run_beginRound (P := P) hB.1 (by rw [hlp])
    rw [hlp] at hy hbeg
    refine ⟨fn, _, assign, body, hy, roundIn_of_wpIn hfn (hassign _ x W1 _ ⟨_, hbeg, ?_⟩)⟩
    refine wpIn_mono (hbody _ j x _ (by omega) (hRp j x W1 _ _ _ hR (by omega) hB.1 rfl) hj) ?_
    have b1 : (W1.putObj (w.heap.size + 1) (.loop { lp .ready none with state := .busy })).heap[w.heap.size + 1]? = some (.loop { lp .ready none with state := .busy }) := World.putObj_heap_same (by omega)
    have b2 : (W1.putObj (w.heap.size + 1) (.loop { lp .ready none with state := .busy })).heap[w.heap.size]? = some (.deferred (some [])) := (World.putObj_heap_other (by omega)).trans hB.2
    have hK1 := hKp W1 (w.heap.size + 1) _ (.loop { lp .ready none with state := .busy }) (by omega) hB.1 rfl
    rw [hlp] at b1 b2 hK1
    have fin : ∀ (jump : Option Code) (W3 : World), KeepsFrom w.heap.size (W1.putObj (w.heap.size + 1) (.loop { lp .ready none with state := .busy })) W3 →
        (Instr.endRound (w.heap.size + 1) jump).run P W3 = .ok (.bool jump.isNone) (W3.putObj (w.heap.size + 1) (.loop (lp (if jump.isNone then .ready else .done) jump))) ∧
        W3.heap[w.heap.size + 1]? = some (.loop { lp .ready none with state := .busy }) ∧
        (W3.putObj (w.heap.size + 1) (.loop (lp (if jump.isNone then .ready else .done) jump))).heap[w.heap.size + 1]? = some (.loop (lp (if jump.isNone then .ready else .done) jump)) ∧
        (W3.putObj (w.heap.size + 1) (.loop (lp (if jump.isNone then .ready else .done) jump))).heap[w.heap.size]? = some (.deferred (some [])) ∧
        KeepsBut w.heap.size (w.heap.size + 1) W1 (W3.putObj (w.heap.size + 1) (.loop (lp (if jump.isNone then .ready else .done) jump))) := fun jump W3 hk => by
      rw [hlp] at hk ⊢
      have c1 := hk.same _ _ (by omega) b1 rfl
      have c2 := hk.same _ _ (Nat.le_refl _) b2 rfl
      have hend := run_endRound (P := P) jump c1
      refine ⟨hend, c1, World.putObj_heap_same (Array.getElem?_eq_some_iff.1 c1).1, (World.putObj_heap_other (by omega)).trans c2, ?_, ?_⟩
      · have h1 := hk.size
        simp only [World.putObj, Array.size_setIfInBounds] at h1 ⊢
        exact h1
      · intro k o hkl hk2 ho hc
        exact (World.putObj_heap_other (by omega)).trans (hk.same k o hk2 ((World.putObj_heap_other (by omega)).trans ho) hc)
    rintro e a3 W3 hp
    rw [hlp] at fin
    cases e with
    | normal =>
      obtain ⟨hk, hDn, hKp3⟩ := hp
      obtain ⟨hend, c1, d1, d2, hkb⟩ := fin none W3 hk
      exact ⟨_, _, hend, .inl ⟨rfl, ⟨hDp _ _ _ _ _ hDn (by omega) c1 rfl, by rw [hlp]; exact d1, d2⟩, hKt _ _ _ hK1 (hKt _ _ _ hKp3 (hKp W3 _ _ _ (by omega) c1 rfl)), hkb⟩⟩
    | ret =>
      obtain ⟨hk, hx⟩ := hp
      obtain ⟨hend, c1, d1, d2, hkb⟩ := fin (some .ret) W3 hk
      exact ⟨_, _, hend, .inr ⟨rfl, ⟨.ret, hSp _ _ _ _ _ hx (by omega) c1 rfl, by rw [hlp]; exact d1, d2⟩, hkb⟩⟩
    | exit id =>
      obtain ⟨hk, hx⟩ := hp
      obtain ⟨hend, c1, d1, d2, hkb⟩ := fin (some (.exit id)) W3 hk
      exact ⟨_, _, hend, .inr ⟨rfl, ⟨.exit id, hSp _ _ _ _ _ hx (by omega) c1 rfl, by rw [hlp]; exact d1, d2⟩, hkb⟩⟩
    | goto t => exact hp.elim
    | panic ch => exact hp.elim
    | outgrown => exact hp.elim
  · rintro e W2 ⟨⟨v, rfl⟩, ⟨hDN, hB⟩ | ⟨c, hc, hl, hd⟩⟩
    · have hend := run_endLoop (P := P) hB.1 (by rw [hlp]; simp)
      rw [hlp] at hend
      exact ⟨none, _, hend, hdone _ _ (Nat.le_refl _) (hDp _ _ _ _ _ hDN (by omega) hB.1 rfl) ((World.putObj_heap_other (by omega)).trans hB.2)⟩
    · have hend := run_endLoop (P := P) hl (by rw [hlp]; simp)
      rw [hlp] at hend
      exact ⟨some c, _, hend, hstop _ c _ (Nat.le_refl _) (hSp _ _ _ _ _ hc (by omega) hl rfl) ((World.putObj_heap_other (by omega)).trans hd)⟩
end
end Go.Proofs.YtmmffifndheafaaDoor

namespace Go.Proofs.YtmmffifndheafaaDoor
open Go.RowKit

/-- the numbers zs, of kind k, lie at the slice's address, below block B; where there are none the address is whatever it is -/
def Nums (k : IntKind) (w : World) (B : Nat) (a : Option Addr) (zs : List Int) : Prop :=
  zs ≠ [] → ∃ b off, a = some ⟨b, off, none⟩ ∧ b < B ∧ ∀ j c, zs[j]? = some c → w.cell? ⟨b, off + j, none⟩ = some (.int k c)

theorem below_drewN {B : Nat} {a w : World} (h : Below B a w) (n : Nat) : Below B a (w.drewN n) := ⟨h.os, h.tape, h.output, h.size, h.block⟩

section
variable {k : IntKind} {w w' : World} {B B' : Nat} {a : Option Addr} {zs : List Int}
theorem Nums.nil : Nums k w B a [] := fun h => absurd rfl h
theorem Nums.open (h : Nums k w B a zs) {j : Nat} {c : Int} (hj : zs[j]? = some c) : ∃ b off, a = some ⟨b, off, none⟩ ∧ b < B ∧ w.cell? ⟨b, off + j, none⟩ = some (.int k c) := by
  obtain ⟨b, off, e, hb, hc⟩ := h (by intro e; subst e; simp at hj)
  exact ⟨b, off, e, hb, hc j c hj⟩
theorem Nums.kept (h : Nums k w B a zs) (hk : ∀ p : Addr, p.block < B → w'.cell? p = w.cell? p) : Nums k w' B a zs := fun hn => by
  obtain ⟨b, off, e, hb, hc⟩ := h hn
  exact ⟨b, off, e, hb, fun j c hj => (hk ⟨b, off + j, none⟩ hb).trans (hc j c hj)⟩
theorem Nums.below (h : Nums k w B a zs) (hb : Below B w w') : Nums k w' B a zs := h.kept fun _ hp => hb.cell hp
theorem Nums.mono (h : Nums k w B a zs) (hB : B ≤ B') : Nums k w B' a zs := fun hn => by
  obtain ⟨b, off, e, hb, hc⟩ := h hn
  exact ⟨b, off, e, by omega, hc⟩
theorem Nums.take (h : Nums k w B a zs) (n : Nat) : Nums k w B a (zs.take n) := fun hn => by
  obtain ⟨b, off, e, hb, hc⟩ := h (by intro e; subst e; simp at hn)
  refine ⟨b, off, e, hb, fun j c hj => hc j c ?_⟩
  rw [List.getElem?_take] at hj
  by_cases hlt : j < n
  · simpa [hlt] using hj
  · simp [hlt] at hj
/-- 's[i:]' of a slice, as the model spells its address -/
theorem Nums.drop (h : Nums k w B a zs) {i cap : Nat} (hc : zs.length ≤ cap) : Nums k w B (if cap = i then a else a.map (·.add i)) (zs.drop i) := fun hn => by
  have hi : i < zs.length := by
    rcases Nat.lt_or_ge i zs.length with h1 | h1
    · exact h1
    · exact absurd (List.drop_eq_nil_of_le h1) hn
  obtain ⟨b, off, rfl, hb, hcell⟩ := h (by intro e; subst e; simp at hi)
  refine ⟨b, off + i, ?_, hb, fun j c hj => ?_⟩
  · rw [if_neg (by omega)]; simp [Addr.add]

  · rw [Nat.add_assoc]
    exact hcell (i + j) c (by rw [← hj, List.getElem?_drop])
theorem Nums.of_own {base e : Nat} {c : Nat} (h : w.ownsRow base e 1 (.slice a zs.length c) zs.length (zs.map (Value.int k))) : Nums k w w.heap.size a zs := fun hn => by
  have hp : 0 < zs.length := by
    rcases Nat.eq_zero_or_pos zs.length with h0 | h0
    · exact absurd (List.eq_nil_of_length_eq_zero h0) hn
    · exact h0
  obtain ⟨g, cap, hv, _, hlt⟩ := h.form hp
  have ha : a = some ⟨g, 0, none⟩ := by injection hv
  subst ha
  refine ⟨g, 0, rfl, hlt, fun j c hj => ?_⟩
  have := h.cells (g := g) rfl j (.int k c) (by rw [List.getElem?_map, hj]; rfl)
  rw [Nat.zero_add]
  by_cases h0 : j = 0
  · subst h0; simpa [Addr.add] using this
  · simpa [Addr.add, h0] using this
/-- one number at a place -/
theorem Nums.one {k : IntKind} {w : World} {B b off : Nat} {z : Int} (hb : b < B) (hc : w.cell? ⟨b, off, none⟩ = some (.int k z)) : Nums k w B (some ⟨b, off, none⟩) [z] := fun _ =>
  ⟨b, off, rfl, hb, fun j c hj => by
    cases j with
    | zero => simp at hj; subst hj; exact hc
    | succ j => simp at hj⟩
/-- a slice that has just been laid -/
theorem Nums.new (k : IntKind) (w : World) (t : TypeId) (zs : List Int) (cs : Array Value) (h : cs = (zs.map (Value.int k)).toArray) : Nums k (w.alloc (.cells cs t)) (w.heap.size + 1) (some ⟨w.heap.size, 0, none⟩) zs := fun _ => by
  refine ⟨w.heap.size, 0, rfl, by omega, fun j c hj => ?_⟩
  rw [World.cell?_alloc_at _ _ _ _ rfl, h]
  simp [hj]
end

/-- a slice of integers that came in: nil, or a row of 'cap' cells with the numbers zs, of which the first len are its elements -/
def IsRow (k : IntKind) (w : World) (a : Option Addr) (len cap : Nat) (zs : List Int) : Prop :=
  (a = none ∧ len = 0 ∧ cap = 0 ∧ zs = []) ∨
  ∃ x, a = some x ∧ len ≤ cap ∧ cap ≤ maxLen ∧ zs.length = cap ∧ (∀ i, i < zs.length → w.cell? (x.add i) = some (.int k (zs.getD i 0))) ∧ ∀ n ∈ zs, (Lit.int k n).wf = true
theorem block_of_cell {w : World} {p : Addr} {v : Value} (h : w.cell? p = some v) : p.block < w.heap.size := by
  rcases Nat.lt_or_ge p.block w.heap.size with h1 | h1
  · exact h1
  · simp [World.cell?, Array.getElem?_eq_none h1] at h
/-- .. as its elements lie -/
theorem IsRow.elems {k : IntKind} {w : World} {a : Option Addr} {len cap : Nat} {zs : List Int} (h : IsRow k w a len cap zs) :
    ∃ es : List Int, es.length = len ∧ len ≤ cap ∧ cap ≤ maxLen ∧ Nums k w w.heap.size a es ∧ ∀ n ∈ es, (Lit.int k n).wf = true := by
  rcases h with ⟨rfl, rfl, rfl, rfl⟩ | ⟨x, rfl, hl, hm, hz, hc, hw⟩
  · exact ⟨[], rfl, by omega, by omega, Nums.nil, by simp⟩
  · refine ⟨zs.take len, by rw [List.length_take]; omega, hl, hm, ?_, fun n hn => hw n (List.mem_of_mem_take hn)⟩
    refine Nums.take (fun hn => ?_) len
    have h0 : 0 < zs.length := by
      rcases Nat.eq_zero_or_pos zs.length with h | h
      · exact absurd (List.eq_nil_of_length_eq_zero h) hn
      · exact h
    obtain ⟨b, off, spot⟩ := x
    have hc0 := hc 0 h0
    have hspot : spot = none := by simpa [Addr.add] using World.cell?_spot hc0
    subst hspot
    refine ⟨b, off, rfl, by simpa [Addr.add] using block_of_cell hc0, fun j c hj => ?_⟩
    have hlt : j < zs.length := by
      rcases Nat.lt_or_ge j zs.length with h | h
      · exact h
      · rw [List.getElem?_eq_none h] at hj; simp at hj
    have hcj := hc j hlt
    rw [List.getD, hj] at hcj
    by_cases hj0 : j = 0
    · subst hj0; simpa [Addr.add] using hcj
    · simpa [Addr.add, hj0] using hcj

/-- a drawn region whose operations each yield one value in every world that is as a0 was below B: one walk of the text's order; its calls may make memory -/
theorem wp_region_below {P : Program} {id : Nat} {Q : Exit → Act → World → Prop} {a : Act} {w a0 : World} {B : Nat} {l : List Oper} (hm : P.follows .mixedOrders = true) (hB : Region.lexB .any l.toArray = true) (hC : Below B a0 w)
    (h : wpQuiet P l.toArray (fun W => Below B a0 W) (fun a' => ∀ w', Below B a0 w' → Q .normal a' w') l a) : (Code.region id l.toArray true).wp P Q a w :=
  wp_region_quiet (C := fun W => Below B a0 W) hm hB hC.drew (by simpa using h)
/-- a call in it, by a contract that says its one value -/
theorem calls_below {P : Program} {f : FuncId} {args : Array Value} {W a0 : World} {B : Nat} {v : Value} (hC : Below B a0 W) (hs : B ≤ W.heap.size)
    (h : Calls P f args W fun e w' => e = .returned v ∧ Below W.heap.size W w') : Calls P f args W fun e w' => e = .returned v ∧ Below B a0 w' :=
  h.mono fun _ _ ⟨he, hb⟩ => ⟨he, hC.trans (hb.mono hs)⟩

/-! ### numbers that a call has made, of an element type e and a kind k -/
def MadeK (e : TypeId) (k : IntKind) (w w' : World) (L : List Int) (v : Value) : Prop := w'.ownsRow w.heap.size e 1 v L.length (L.map (Value.int k)) ∧ Below w.heap.size w w'
section
variable {e : TypeId} {k : IntKind} {w w1 w2 : World} {L : List Int} {v v' : Value}
theorem MadeK.nil (e : TypeId) (k : IntKind) (h : Below w.heap.size w w1) : MadeK e k w w1 [] (.slice none 0 0) := ⟨World.ownsRow_nil _ _ _ _, h⟩
theorem MadeK.slice (h : MadeK e k w w1 L v) : ∃ A c, v = .slice A L.length c ∧ L.length ≤ c ∧ Nums k w1 w1.heap.size A L := by
  have h1 := h.1
  obtain ⟨_, h2⟩ := h1
  rcases h2 with ⟨rfl, h0⟩ | ⟨g, cap, cur, rfl, hg, hh, hn, _⟩
  · have : L = [] := List.eq_nil_of_length_eq_zero h0
    subst this
    exact ⟨none, 0, rfl, by simp, Nums.nil⟩
  · exact ⟨some ⟨g, 0, none⟩, cap, rfl, hn, Nums.of_own h.1⟩
theorem MadeK.own_ge (h : MadeK e k w w1 L v) {g : Nat} (hg : v.ownBlock = some g) : w.heap.size ≤ g ∧ ∃ cur, w1.heap[g]? = some (.cells cur e (0, 0)) := by
  have hv := h.1
  obtain ⟨_, h2⟩ := hv
  rcases h2 with ⟨rfl, h0⟩ | ⟨g', cap, cur, rfl, hg', hh, hn, _⟩
  · simp [Value.ownBlock] at hg
  · simp [Value.ownBlock] at hg; subst hg; exact ⟨hg', cur, hh⟩
theorem MadeK.app {x y : Int} {o : Obj} (h : MadeK e k w w1 L v) (hown : w2.ownsRow w.heap.size e 1 v' (L.length + 1) (L.map (Value.int k) ++ [.int k x])) (hg : (w1.alloc o).grownBy w2 v.ownBlock) (hx : x = y) : MadeK e k w w2 (L ++ [y]) v' := by
  subst hx
  exact ⟨by simpa using hown, ((h.2.alloc h.2.size o).grown hg (by have := h.2.size; simp; omega) (fun g hk => (h.own_ge hk).1))⟩
/-- another row, of another element type, has grown -/
theorem MadeK.far {e2 : TypeId} {k2 : IntKind} {L2 : List Int} {v2 : Value} {o : Obj} (h : MadeK e k w w1 L v) (h2 : MadeK e2 k2 w w1 L2 v2) (hne : e ≠ e2) (hg : (w1.alloc o).grownBy w2 v2.ownBlock) (hb : Below w.heap.size w w2) : MadeK e k w w2 L v := by
  refine ⟨(h.1.alloc o).kept hg ?_, hb⟩
  cases hv : v.ownBlock with
  | none => exact .inl rfl
  | some g =>
    right
    intro he
    obtain ⟨_, cur, hc⟩ := h.own_ge hv
    obtain ⟨_, cur2, hc2⟩ := h2.own_ge he.symm
    rw [hc] at hc2
    injection hc2 with hc2
    injection hc2 with _ ht
    exact hne ht
theorem MadeK.later (h : MadeK e k w w1 L v) (o : Obj) : MadeK e k w (w1.alloc o) L v := ⟨h.1.alloc o, h.2.alloc h.2.size o⟩
end
end Go.Proofs.YtmmffifndheafaaDoor

namespace Go.Proofs.YtmmffifndheafaaDoor
open Go.RowKit

/-- of the blocks that are there, those outside S are as they were -/
structure Off (S : Nat → Prop) (w w' : World) : Prop where
  os : w'.os = w.os
  tape : w'.tape = w.tape
  output : w'.output = w.output
  size : w.heap.size ≤ w'.heap.size
  block : ∀ k, k < w.heap.size → ¬ S k → w'.heap[k]? = w.heap[k]?
section
variable {S S' : Nat → Prop} {w w1 w' : World} {B : Nat}
theorem Off.refl (S : Nat → Prop) (w : World) : Off S w w := ⟨rfl, rfl, rfl, Nat.le_refl _, fun _ _ _ => rfl⟩
theorem Off.trans (h : Off S w w1) (k : Off S' w1 w') (hS : ∀ j, j < w.heap.size → S' j → S j) : Off S w w' :=
  ⟨k.os.trans h.os, k.tape.trans h.tape, k.output.trans h.output, Nat.le_trans h.size k.size, fun i hi hn => (k.block i (Nat.lt_of_lt_of_le hi h.size) (fun hs => hn (hS i hi hs))).trans (h.block i hi hn)⟩
theorem Off.mono (h : Off S w w') (hS : ∀ j, j < w.heap.size → S j → S' j) : Off S' w w' := ⟨h.os, h.tape, h.output, h.size, fun k hk hn => h.block k hk fun hs => hn (hS k hk hs)⟩
theorem Off.of_below (h : Below w.heap.size w w') : Off S w w' := ⟨h.os, h.tape, h.output, h.size, fun k hk _ => h.block k hk⟩
theorem Off.below (h : Off S w w') (hS : ∀ k, S k → B ≤ k) (hB : B ≤ w.heap.size) : Below B w w' := ⟨h.os, h.tape, h.output, h.size, fun k hk => h.block k (by omega) (fun hs => by have := hS k hs; omega)⟩
theorem Off.cell (h : Off S w w') {p : Addr} {v : Value} (hv : w.cell? p = some v) (hn : ¬ S p.block) : w'.cell? p = some v :=
  (World.cell?_of_block (h.block p.block (World.block_lt_of_cell? w p hv) hn)).trans hv
theorem Off.setCell (h : Off S w w') {p : Addr} (hp : S p.block) (u : Value) : Off S w (w'.setCell p u) :=
  ⟨h.os, h.tape, h.output, by simpa [World.setCell] using h.size, fun k hk hn => (Below.heap_setCell _ _ _ _ (fun e => hn (by subst e; exact hp))).trans (h.block k hk hn)⟩
theorem Off.setRow (h : Off S w w') {g : Nat} (hp : S g) (cs : Array Value) : Off S w (w'.setRow g cs) :=
  ⟨h.os, h.tape, h.output, by simpa [World.setRow] using h.size, fun k hk hn => (setRow_other _ _ _ _ (fun e => hn (by subst e; exact hp))).trans (h.block k hk hn)⟩
end

/-- the block of a slice's address -/
def blockOf (A : Option Addr) (g : Nat) : Prop := ∃ o s, A = some ⟨g, o, s⟩

theorem Nums.off {S : Nat → Prop} {k : IntKind} {w w' : World} {B : Nat} {A : Option Addr} {zs : List Int} (h : Nums k w B A zs) (hf : Off S w w') (hn : zs ≠ [] → ∀ g, blockOf A g → ¬ S g) : Nums k w' B A zs := fun h0 => by
  obtain ⟨b, off, e, hb, hc⟩ := h h0
  exact ⟨b, off, e, hb, fun j c hj => hf.cell (hc j c hj) (hn h0 b ⟨_, _, e⟩)⟩

/-- a row that the call made, known whole: nil, or cap cells of type T, the numbers cur -/
def KRow (T : TypeId) (k : IntKind) (w : World) (A : Option Addr) (cap : Nat) (cur : List Int) : Prop :=
  cur.length = cap ∧ ((A = none ∧ cap = 0) ∨ ∃ g, A = some ⟨g, 0, none⟩ ∧ cap ≤ maxLen ∧ w.heap[g]? = some (.cells (cur.map (Value.int k)).toArray T (0, 0)))
section
variable {T : TypeId} {k : IntKind} {w w' : World} {A : Option Addr} {cap : Nat} {cur : List Int}
theorem KRow.nil (T : TypeId) (k : IntKind) (w : World) : KRow T k w none 0 [] := ⟨rfl, .inl ⟨rfl, rfl⟩⟩
theorem KRow.lt (h : KRow T k w A cap cur) {g : Nat} (hg : blockOf A g) : g < w.heap.size := by
  obtain ⟨o, s, rfl⟩ := hg
  rcases h.2 with ⟨h0, _⟩ | ⟨g', e, _, hh⟩
  · simp at h0
  · injection e with e; injection e with e1; subst e1
    exact (Array.getElem?_eq_some_iff.1 hh).1
theorem KRow.off {S : Nat → Prop} (h : KRow T k w A cap cur) (hf : Off S w w') (hn : ∀ g, blockOf A g → ¬ S g) : KRow T k w' A cap cur := by
  refine ⟨h.1, ?_⟩
  rcases h.2 with h0 | ⟨g, rfl, hm, hh⟩
  · exact .inl h0
  · exact .inr ⟨g, rfl, hm, by rw [hf.block g (Array.getElem?_eq_some_iff.1 hh).1 (hn g ⟨_, _, rfl⟩)]; exact hh⟩
theorem KRow.cells (h : KRow T k w A cap cur) {g o : Nat} (hA : A = some ⟨g, o, none⟩) : o = 0 ∧ w.heap[g]? = some (.cells (cur.map (Value.int k)).toArray T (0, 0)) := by
  rcases h.2 with ⟨h0, _⟩ | ⟨g', e, _, hh⟩
  · rw [hA] at h0; simp at h0
  · rw [hA] at e; injection e with e; injection e with e1 e2; subst e1; exact ⟨e2, hh⟩
theorem KRow.cell (h : KRow T k w A cap cur) {g o : Nat} (hA : A = some ⟨g, o, none⟩) {j : Nat} {c : Int} (hj : cur[j]? = some c) : w.cell? ⟨g, j, none⟩ = some (.int k c) := by
  obtain ⟨_, hh⟩ := h.cells hA
  simp [World.cell?, hh, hj]
theorem KRow.nums (h : KRow T k w A cap cur) (n : Nat) : Nums k w w.heap.size A (cur.take n) := by
  refine Nums.take (fun hn => ?_) n
  rcases h.2 with ⟨_, h1⟩ | ⟨g, rfl, _, hh⟩
  · exact absurd (List.eq_nil_of_length_eq_zero (h.1.trans h1)) hn
  · exact ⟨g, 0, rfl, (Array.getElem?_eq_some_iff.1 hh).1, fun j c hj => by rw [Nat.zero_add]; exact h.cell rfl hj⟩
theorem zeroCells_int (k : IntKind) (n : Nat) : Builtin.zeroCells #[.int k 0] n = ((List.replicate n (0 : Int)).map (Value.int k)).toArray := by
  apply Array.ext
  · simp [Builtin.zeroCells]
  · intro i h1 h2
    simp [Builtin.zeroCells, Nat.mod_one]
end
theorem setCell_at {w : World} {b j : Nat} {cs : Array Value} {t : TypeId} {u : Value} (h : w.heap[b]? = some (.cells cs t (0, 0))) : (w.setCell ⟨b, j, none⟩ u).heap[b]? = some (.cells (cs.setIfInBounds j u) t (0, 0)) := by
  have hlt := (Array.getElem?_eq_some_iff.1 h).1
  have hv := (Array.getElem?_eq_some_iff.1 h).2
  simp [World.setCell, Array.getElem?_modify, h]
end Go.Proofs.YtmmffifndheafaaDoor

namespace Go.Proofs.YtmmffifndheafaaDoor
open Go.RowKit

/-- the blocks of S are as they were -/
def KeepS (S : Nat → Prop) (W W' : World) : Prop := W.heap.size ≤ W'.heap.size ∧ ∀ k, S k → W'.heap[k]? = W.heap[k]?
section
variable {S S' : Nat → Prop} {A B C : World}
theorem KeepS.refl (S : Nat → Prop) (W : World) : KeepS S W W := ⟨Nat.le_refl _, fun _ _ => rfl⟩
theorem KeepS.trans (h : KeepS S A B) (k : KeepS S B C) : KeepS S A C := ⟨Nat.le_trans h.1 k.1, fun i h1 => (k.2 i h1).trans (h.2 i h1)⟩
theorem KeepS.of_below {n : Nat} (h : Below n A B) (hS : ∀ k, S k → k < n) : KeepS S A B := ⟨h.size, fun k h1 => h.block k (hS k h1)⟩
theorem KeepS.cell (h : KeepS S A B) {p : Addr} (h1 : S p.block) : B.cell? p = A.cell? p := World.cell?_of_block (h.2 p.block h1)
theorem KeepS.less (h : KeepS S A B) (hS : ∀ k, S' k → S k) : KeepS S' A B := ⟨h.1, fun k hk => h.2 k (hS k hk)⟩
theorem KeepS.set (h : KeepS S A B) {b : Nat} (hb : ¬ S b) (v : Value) : KeepS S A (B.setCell ⟨b, 0, none⟩ v) :=
  ⟨by simpa [World.setCell] using h.1, fun k hk => (Below.heap_setCell B ⟨b, 0, none⟩ v k (fun e => by subst e; exact hb hk)).trans (h.2 k hk)⟩
theorem KeepS.grown {row : Option Nat} (h : KeepS S A B) (hg : B.grownBy C row) (hS : ∀ k, S k → k < B.heap.size) (hr : ∀ k, row = some k → ¬ S k) : KeepS S A C :=
  ⟨Nat.le_trans h.1 hg.size, fun k hk => (hg.block k (hS k hk) (fun e => hr k e.symm hk)).trans (h.2 k hk)⟩
theorem keepS_t (h : KeepS S A B) (k : KeepS S B C) : KeepS S A C := h.trans k
theorem keepS_b {w : World} (hh : ∀ k, S k → k < w.heap.size) (W : World) (l : Nat) (o o' : Obj) (hl : w.heap.size ≤ l) (_ho : W.heap[l]? = some o) (_h1 : o.isCells = false) (_h2 : o.isWalk = false) : KeepS S W (W.putObj l o') := by
  refine ⟨by simp [World.putObj], fun k hk => ?_⟩
  have := hh k hk
  simp only [World.putObj]
  rw [Array.getElem?_setIfInBounds]
  rw [if_neg (by omega)]
end

/-- the numbers zs lie at a, in a block of S -/
def NumsS (k : IntKind) (w : World) (S : Nat → Prop) (a : Option Addr) (zs : List Int) : Prop :=
  zs ≠ [] → ∃ b off, a = some ⟨b, off, none⟩ ∧ S b ∧ ∀ j c, zs[j]? = some c → w.cell? ⟨b, off + j, none⟩ = some (.int k c)
section
variable {k : IntKind} {S S' : Nat → Prop} {w w' : World} {B : Nat} {a : Option Addr} {zs : List Int}
theorem NumsS.nil : NumsS k w S a [] := fun h => absurd rfl h
theorem NumsS.keeps (h : NumsS k w S a zs) (hk : KeepS S w w') : NumsS k w' S a zs := fun hn => by
  obtain ⟨b, off, e, h1, hc⟩ := h hn
  exact ⟨b, off, e, h1, fun j c hj => (hk.cell (p := ⟨b, off + j, none⟩) h1).trans (hc j c hj)⟩
theorem NumsS.nums (h : NumsS k w S a zs) (hS : ∀ k, S k → k < B) : Nums k w B a zs := fun hn => by
  obtain ⟨b, off, e, h1, hc⟩ := h hn
  exact ⟨b, off, e, hS b h1, hc⟩
theorem NumsS.more (h : NumsS k w S a zs) (hS : ∀ k, S k → S' k) : NumsS k w S' a zs := fun hn => by
  obtain ⟨b, off, e, h1, hc⟩ := h hn
  exact ⟨b, off, e, hS b h1, hc⟩
theorem Nums.numsS (h : Nums k w B a zs) (hS : ∀ k, k < B → S k) : NumsS k w S a zs := fun hn => by
  obtain ⟨b, off, e, h1, hc⟩ := h hn
  exact ⟨b, off, e, hS b h1, hc⟩
theorem NumsS.take (h : NumsS k w S a zs) (n : Nat) : NumsS k w S a (zs.take n) := fun hn => by
  obtain ⟨b, off, e, h1, hc⟩ := h (by intro e; subst e; simp at hn)
  refine ⟨b, off, e, h1, fun j c hj => hc j c ?_⟩
  rw [List.getElem?_take] at hj
  by_cases hlt : j < n
  · simpa [hlt] using hj
  · simp [hlt] at hj
/-- cut ahead twice: the address as the walk spells it -/
theorem NumsS.drop2 {a' : Option Addr} (h : NumsS k w S a zs) {i j : Nat} (ha : i + j < zs.length → ∀ b o, a = some ⟨b, o, none⟩ → a' = some ⟨b, o + i + j, none⟩) : NumsS k w S a' (zs.drop (i + j)) := fun hn => by
  have hi' : i + j < zs.length := by
    rcases Nat.lt_or_ge (i + j) zs.length with h1 | h1
    · exact h1
    · exact absurd (List.drop_eq_nil_of_le h1) hn
  obtain ⟨b, off, rfl, hb, hcell⟩ := h (by intro e; subst e; simp at hi')
  refine ⟨b, off + i + j, ha hi' b off rfl, hb, fun q c hj => ?_⟩
  rw [Nat.add_assoc, Nat.add_assoc, ← Nat.add_assoc i j q]
  exact hcell (i + j + q) c (by rw [← hj, List.getElem?_drop])
end
theorem MadeK.numsS {e : TypeId} {k : IntKind} {w w1 : World} {L : List Int} {A : Option Addr} {n c : Nat} (h : MadeK e k w w1 L (.slice A n c)) (hn : L.length = n) : NumsS k w1 (fun b => w.heap.size ≤ b ∧ b < w1.heap.size) A L := fun h0 => by
  subst hn
  obtain ⟨b, off, rfl, hb, hc⟩ := Nums.of_own h.1 h0
  exact ⟨b, off, rfl, ⟨(h.own_ge (g := b) rfl).1, hb⟩, hc⟩
end Go.Proofs.YtmmffifndheafaaDoor

namespace Go.Proofs.YtmmffifndheafaaDoor
open Go.RowKit Go.Shelf
set_option maxRecDepth 100000
attribute [local go_sem] Oper.semAt_some

/-- the cells of the four parts -/
def ptC (v k i c m : Int) : Array Value := #[.int .i64 v, .int .i64 1, .int .i64 2, .int .i64 10, .int .i64 k, .int .i64 1, .int .i64 5, .int .i64 9, .int .i64 c, .int .i64 1, .int .i64 255, .int .i64 3, .int .i64 i, .int .i64 0, .int .i64 m, .int .i64 3]

theorem parts_any (v k s i c : Int) (w : World) :
    Calls Tryd.prog 18 #[hdV v k s i c] w fun e w' => ∃ g, e = .returned (.func (.func 26) #[] #[.pointer (some ⟨g, 0, none⟩)]) ∧ w.heap.size ≤ g ∧ w'.heap[g]? = some (.cells (ptC v k i c (wrap64 (c - 1))) 59 (0, 0)) ∧ Below w.heap.size w w' := by
  unfold hdV
  go_enter Tryd.func18, Tryd.ntmps18
  go_wp2
  go_ret
  exact ⟨_, rfl, Nat.le_succ _, by rw [show w.heap.size + 1 = (w.alloc (.cells #[.int .i64 v, .int .i64 k, .int .u32 s, .int .i64 i, .int .i64 c] 24)).heap.size by simp]; exact World.alloc_heap_new _ _, ((Below.refl _ w).alloc (Nat.le_refl _) _).alloc (by simp) _⟩

end Go.Proofs.YtmmffifndheafaaDoor

namespace Go.Proofs.YtmmffifndheafaaDoor
open Go.RowKit Go.Shelf
set_option maxRecDepth 100000
attribute [local go_sem] Oper.semAt_some

/-- the j-th part -/
def ptCs (v k i c m : Int) : Nat → Array Value
  | 0 => #[.int .i64 v, .int .i64 1, .int .i64 2, .int .i64 10]
  | 1 => #[.int .i64 k, .int .i64 1, .int .i64 5, .int .i64 9]
  | 2 => #[.int .i64 c, .int .i64 1, .int .i64 255, .int .i64 3]
  | _ => #[.int .i64 i, .int .i64 0, .int .i64 m, .int .i64 3]
def ptV (v k i c m : Int) (j : Nat) : Value := .agg (ptCs v k i c m j)

theorem idx_part (v k i c m : Int) (W : World) :
    (Instr.index 59 (.agg (ptC v k i c m)) (.int .i64 0)).run Tryd.prog W = .ok (.agg (ptCs v k i c m 0)) W ∧ (Instr.index 59 (.agg (ptC v k i c m)) (.int .i64 1)).run Tryd.prog W = .ok (.agg (ptCs v k i c m 1)) W ∧
    (Instr.index 59 (.agg (ptC v k i c m)) (.int .i64 2)).run Tryd.prog W = .ok (.agg (ptCs v k i c m 2)) W ∧ (Instr.index 59 (.agg (ptC v k i c m)) (.int .i64 3)).run Tryd.prog W = .ok (.agg (ptCs v k i c m 3)) W := by
  refine ⟨?_, ?_, ?_, ?_⟩ <;> simp [Instr.index, run_underlying Tryd.underlying59, asIntOf, part, go_sem, Tryd.sizeOf50, ptC, ptCs]

set_option maxHeartbeats 2000000 in
theorem parts_in (n : Nat) (hn : 1 ≤ n) (m' l g : Nat) (v k i c m : Int) (J : Nat → World → Prop) (Jx : World → Prop) (hJ : ∀ j A cs t, J j A → J j (A.alloc (.cells cs t)))
    (hY : ∀ j W, J j W → j < 4 → YieldAt Fence.wide m' Tryd.prog l #[ptV v k i c m j] W fun e W' => (e = .returned (.bool true) ∧ J (j + 1) W') ∨ (e = .returned (.bool false) ∧ Jx W'))
    (W : World) (hg : W.heap[g]? = some (.cells (ptC v k i c m) 59 (0, 0))) (h0 : J 0 W) :
    CallsIn Fence.wide n Tryd.prog 26 #[.func (.yield l) #[] #[], .pointer (some ⟨g, 0, none⟩)] W fun e W' => (∃ v, e = .returned v) ∧ (J 4 W' ∨ Jx W') := by
  have hc : ∀ j x, (ptC v k i c m)[j]? = some x → W.cell? ⟨g, j, none⟩ = some x := fun j x hx => by simp [World.cell?, hg, hx]
  unfold ptC at hc
  have c0 := hc 0 _ rfl; have c1 := hc 1 _ rfl; have c2 := hc 2 _ rfl; have c3 := hc 3 _ rfl
  have c4 := hc 4 _ rfl; have c5 := hc 5 _ rfl; have c6 := hc 6 _ rfl; have c7 := hc 7 _ rfl
  have c8 := hc 8 _ rfl; have c9 := hc 9 _ rfl; have c10 := hc 10 _ rfl; have c11 := hc 11 _ rfl
  have c12 := hc 12 _ rfl; have c13 := hc 13 _ rfl; have c14 := hc 14 _ rfl; have c15 := hc 15 _ rfl
  clear hc hg
  refine callsIn_of_wp Tryd.func26 rfl trivial ?_ rfl
  simp only [Tryd.ntmps26, List.size_toArray, List.length_cons, List.length_nil, Nat.reduceAdd, Nat.reduceSub, Array.replicate_succ, Array.replicate_zero, List.push_toArray, List.append_toArray, List.nil_append, List.cons_append]
  gi_wp2
  clear c0 c1 c2 c3 c4 c5 c6 c7 c8 c9 c10 c11 c12 c13 c14 c15
  gi_loopw [6] (fun x wr => ∃ j : Nat, j ≤ 4 ∧ x = .int .i64 (j : Int) ∧ J j wr) (fun x _ => 4 - (intOf x).toNat)
  case atStart => exact ⟨0, by omega, rfl, h0⟩
  case round =>
    obtain ⟨j, hj, rfl, hJj⟩ := hrel
    by_cases h4 : j = 4
    · subst h4
      gi_wp2
      go_end0
      exact ⟨⟨_, rfl⟩, .inl hJj⟩
    · have HYa := Lib.hid (fun cs t => hY j _ (hJ j _ cs t hJj) (by omega))
      clear hJj
      obtain rfl | rfl | rfl | rfl : j = 0 ∨ j = 1 ∨ j = 2 ∨ j = 3 := by omega
      · have HY0 := HYa.out (ptCs v k i c m 0) 50
        have hix := fun W => (idx_part v k i c m W).1
        simp only [ptC, ptCs] at hix
        clear HYa
        simp only [ptV, ptCs] at HY0
        obtain ⟨fn, tmps, assign, body, hy, hR⟩ := yield_any (n - 1) HY0
        have HR := Lib.hid hR
        clear hR HY0
        gi_wp2_with fail
        refine HR.out.mono ?_
        rintro e W3 (⟨rfl, hJ3⟩ | ⟨rfl, hJx3⟩)
        · gi_wp2
          go_roundw
          case rel => exact ⟨1, by omega, by go_num, hJ3⟩
          case measure => simp [intOf]
        · gi_wp2
          refine bodyPost_ret (results_none rfl _ _ _) rfl ?_
          exact ⟨⟨_, rfl⟩, .inr hJx3⟩
      · have HY0 := HYa.out (ptCs v k i c m 1) 50
        have hix := fun W => (idx_part v k i c m W).2.1
        simp only [ptC, ptCs] at hix
        clear HYa
        simp only [ptV, ptCs] at HY0
        obtain ⟨fn, tmps, assign, body, hy, hR⟩ := yield_any (n - 1) HY0
        have HR := Lib.hid hR
        clear hR HY0
        gi_wp2_with fail
        refine HR.out.mono ?_
        rintro e W3 (⟨rfl, hJ3⟩ | ⟨rfl, hJx3⟩)
        · gi_wp2
          go_roundw
          case rel => exact ⟨2, by omega, by go_num, hJ3⟩
          case measure => simp [intOf]
        · gi_wp2
          refine bodyPost_ret (results_none rfl _ _ _) rfl ?_
          exact ⟨⟨_, rfl⟩, .inr hJx3⟩
      · have HY0 := HYa.out (ptCs v k i c m 2) 50
        have hix := fun W => (idx_part v k i c m W).2.2.1
        simp only [ptC, ptCs] at hix
        clear HYa
        simp only [ptV, ptCs] at HY0
        obtain ⟨fn, tmps, assign, body, hy, hR⟩ := yield_any (n - 1) HY0
        have HR := Lib.hid hR
        clear hR HY0
        gi_wp2_with fail
        refine HR.out.mono ?_
        rintro e W3 (⟨rfl, hJ3⟩ | ⟨rfl, hJx3⟩)
        · gi_wp2
          go_roundw
          case rel => exact ⟨3, by omega, by go_num, hJ3⟩
          case measure => simp [intOf]
        · gi_wp2
          refine bodyPost_ret (results_none rfl _ _ _) rfl ?_
          exact ⟨⟨_, rfl⟩, .inr hJx3⟩
      · have HY0 := HYa.out (ptCs v k i c m 3) 50
        have hix := fun W => (idx_part v k i c m W).2.2.2
        simp only [ptC, ptCs] at hix
        clear HYa
        simp only [ptV, ptCs] at HY0
        obtain ⟨fn, tmps, assign, body, hy, hR⟩ := yield_any (n - 1) HY0
        have HR := Lib.hid hR
        clear hR HY0
        gi_wp2_with fail
        refine HR.out.mono ?_
        rintro e W3 (⟨rfl, hJ3⟩ | ⟨rfl, hJx3⟩)
        · gi_wp2
          go_roundw
          case rel => exact ⟨4, by omega, by go_num, hJ3⟩
          case measure => simp [intOf]
        · gi_wp2
          refine bodyPost_ret (results_none rfl _ _ _) rfl ?_
          exact ⟨⟨_, rfl⟩, .inr hJx3⟩
end Go.Proofs.YtmmffifndheafaaDoor

namespace Go.Proofs.YtmmffifndheafaaDoor
open Go.RowKit

section
variable {F : Fence} {n : Nat} {P : Program} {g : Operand} {ps : Array Tmp} {assign body : Code} {Q : Exit → Act → World → Prop} {a : Act} {w : World}
theorem range_stopa {α : Type} (hro : F.round = none) (h1 : 1 ≤ n) {gf : Nat} {lb : Array Value} (hg : a.eval g = .func (.func gf) #[] lb) (hFg : F.fn gf) (eg : ∀ args w, (callFunc gf args).run P w = .ok (.enter gf args) w)
    (enc : α → Array Value) (hps : ∀ x, (enc x).size = ps.size) (Rd : Nat → α → World → Prop) (Ra : Nat → α → Act → World → Prop) (Dn : Nat → World → Prop) (Sx : Code → World → Prop) (Kp : World → World → Prop) (N : Nat)
    (hRp : ∀ j x b W l o o', Ra j x b W → w.heap.size ≤ l → W.heap[l]? = some o → o.isCells = false → Ra j x b (W.putObj l o'))
    (hDp : ∀ j W l o o', Dn j W → w.heap.size ≤ l → W.heap[l]? = some o → o.isCells = false → Dn j (W.putObj l o'))
    (hSp : ∀ c W l o o', Sx c W → w.heap.size ≤ l → W.heap[l]? = some o → o.isCells = false → Sx c (W.putObj l o'))
    (hKt : ∀ A B C, Kp A B → Kp B C → Kp A C)
    (hKp : ∀ W l o o', w.heap.size ≤ l → W.heap[l]? = some o → o.isCells = false → Kp W (W.putObj l o'))
    (hD0 : ∀ o, Dn 0 ((w.alloc (.deferred (some []))).alloc o))
    (hassign : ∀ (l j : Nat) (x : α) (W : World) (K : Act → World → Prop), Rd j x W → j < N → (∀ b W', Ra j x b W' → KeepsFrom w.heap.size W W' → Kp W W' → K b W') →
      assign.wpIn (F.inRound l) (n - 1 - 1) P (Exit.then K (fun _ _ _ => False)) { tmps := (ps.zip (enc x)).foldl (fun t (p, v) => t.setIfInBounds p v) a.tmps, defers := [] } W)
    (hbody : ∀ (l j : Nat) (x : α) (b : Act) (W : World), w.heap.size ≤ l → Ra j x b W → j < N → body.wpIn (F.inRound l) (n - 1 - 1) P (stopPost w.heap.size Kp (Dn (j + 1)) Sx W) b W)
    (hiter : ∀ (Bk : World → Prop) (X : World → Prop) (l : Nat) (W : World), (∀ A B, Bk A → A.heap.size ≤ B.heap.size → (∀ k, w.heap.size ≤ k → k < w.heap.size + 2 → B.heap[k]? = A.heap[k]?) → Bk B) → (∀ A, Bk A → w.heap.size + 2 ≤ A.heap.size) →
      (∀ A l' o o', X A → w.heap.size + 2 ≤ l' → A.heap[l']? = some o → o.isCells = false → X (A.putObj l' o')) → l < w.heap.size + 2 → Dn 0 W → Bk W →
      (∀ j x W1, Rd j x W1 → Bk W1 → j < N → YieldAt F (n - 1 - 1) P l (enc x) W1 (YPost w.heap.size l Kp (fun W2 => Dn (j + 1) W2 ∧ Bk W2) X W1)) →
      CallsIn F (n - 1) P gf (#[.func (.yield l) #[] #[]] ++ lb) W fun e W' => (∃ v, e = .returned v) ∧ ((Dn N W' ∧ Bk W') ∨ X W'))
    (hdone : ∀ (D : Nat) (W : World), w.heap.size ≤ D → Dn N W → W.heap[D]? = some (.deferred (some [])) → Q .normal { a with defers := { target := .collected D, args := #[] } :: a.defers } W)
    (hstop : ∀ (D : Nat) (c : Code) (W : World), w.heap.size ≤ D → Sx c W → W.heap[D]? = some (.deferred (some [])) → c.wpIn F n P Q { a with defers := { target := .collected D, args := #[] } :: a.defers } W) :
    (Code.rangeFunc g ps assign body).wpIn F n P Q a w := by
  apply wpIn_rangeFunc
  intro fn hfn
  rw [hro]
  have hent := run_enterLoop_outer (P := P) (w := w) fn a.tmps ps assign body
  obtain ⟨lp, hlp⟩ : ∃ lp : LoopState → Option Code → Loop, lp = fun st pe => { state := st, pending := pe, fn := fn, tmps := a.tmps, params := ps, assign := assign, body := body, defers := w.heap.size } := ⟨_, rfl⟩
  have hlp0 : ({ state := .ready, pending := none, fn, tmps := a.tmps, params := ps, assign, body, defers := w.heap.size } : Loop) = lp .ready none := by rw [hlp]
  rw [hlp0] at hent
  have hD0' := hD0 (.loop (lp .ready none))
  have hl0 : ((w.alloc (.deferred (some []))).alloc (.loop (lp .ready none))).heap[w.heap.size + 1]? = some (.loop (lp .ready none)) := by
    have h := World.alloc_heap_new (w.alloc (.deferred (some []))) (.loop (lp .ready none))
    rwa [World.size_alloc] at h
  have hd0 : ((w.alloc (.deferred (some []))).alloc (.loop (lp .ready none))).heap[w.heap.size]? = some (.deferred (some [])) := (Below.heap_alloc _ _ _ (by simp)).trans (World.alloc_heap_new w _)
  generalize (w.alloc (.deferred (some []))).alloc (.loop (lp .ready none)) = W0 at *
  refine ⟨_, _, _, { target := .fn (.func gf) lb, args := #[.func (.yield (w.heap.size + 1)) #[] #[]] }, W0, gf, #[.func (.yield (w.heap.size + 1)) #[] #[]] ++ lb, W0, hent, ?_, ?_, ?_, fun _ => h1, ?_⟩
  · simp only [resolve, hg]
    simp [go_sem]
  · intro f' hf'
    simp [Target.leads] at hf'
    subst hf'
    exact hFg
  · simp [invoke, go_sem, eg]
  let Bk : World → Prop := fun W => W.heap[w.heap.size + 1]? = some (.loop (lp .ready none)) ∧ W.heap[w.heap.size]? = some (.deferred (some []))
  let X : World → Prop := fun W => ∃ c, Sx c W ∧ W.heap[w.heap.size + 1]? = some (.loop (lp .done (some c))) ∧ W.heap[w.heap.size]? = some (.deferred (some []))
  have hBlt : ∀ A, Bk A → w.heap.size + 2 ≤ A.heap.size := fun A h => (Array.getElem?_eq_some_iff.1 h.1).1
  refine (hiter Bk X (w.heap.size + 1) W0 (fun A B hA _ hAB => ⟨(hAB _ (by omega) (by omega)).trans hA.1, (hAB _ (by omega) (by omega)).trans hA.2⟩) hBlt
    (fun A l' o o' hA hl' ho hc => by
      obtain ⟨c, h1, h2, h3⟩ := hA
      exact ⟨c, hSp c A l' o o' h1 (by omega) ho hc, (World.putObj_heap_other (by omega)).trans h2, (World.putObj_heap_other (by omega)).trans h3⟩) (by omega) hD0' ⟨hl0, hd0⟩ ?_).mono ?_
  · rintro j x W1 hR hB hj
    have hsz := hBlt W1 hB
    have hy := run_yield (P := P) (args := enc x) hB.1 (by rw [hlp]; exact hps x)
    rw [hlp] at hy
    refine ⟨fn, _, assign, body, hy, roundIn_of_wpIn hfn (hassign _ j x W1 _ hR hj (fun b2 W2 hR2 hkf hKp2 => ?_))⟩
    have hB2 : Bk W2 := ⟨hkf.same _ _ (by omega) hB.1 rfl, hkf.same _ _ (Nat.le_refl _) hB.2 rfl⟩
    have hsz2 := hBlt W2 hB2
    have hbeg := run_beginRound (P := P) hB2.1 (by rw [hlp])
    rw [hlp] at hbeg
    refine ⟨_, hbeg, ?_⟩
    refine wpIn_mono (hbody _ j x b2 _ (by omega) (hRp j x b2 W2 _ _ _ hR2 (by omega) hB2.1 rfl) hj) ?_
    have b1 : (W2.putObj (w.heap.size + 1) (.loop { lp .ready none with state := .busy })).heap[w.heap.size + 1]? = some (.loop { lp .ready none with state := .busy }) := World.putObj_heap_same (by omega)
    have b2 : (W2.putObj (w.heap.size + 1) (.loop { lp .ready none with state := .busy })).heap[w.heap.size]? = some (.deferred (some [])) := (World.putObj_heap_other (by omega)).trans hB2.2
    have hK1 := hKp W2 (w.heap.size + 1) _ (.loop { lp .ready none with state := .busy }) (by omega) hB2.1 rfl
    rw [hlp] at b1 b2 hK1
    have fin : ∀ (jump : Option Code) (W3 : World), KeepsFrom w.heap.size (W2.putObj (w.heap.size + 1) (.loop { lp .ready none with state := .busy })) W3 →
        (Instr.endRound (w.heap.size + 1) jump).run P W3 = .ok (.bool jump.isNone) (W3.putObj (w.heap.size + 1) (.loop (lp (if jump.isNone then .ready else .done) jump))) ∧
        W3.heap[w.heap.size + 1]? = some (.loop { lp .ready none with state := .busy }) ∧
        (W3.putObj (w.heap.size + 1) (.loop (lp (if jump.isNone then .ready else .done) jump))).heap[w.heap.size + 1]? = some (.loop (lp (if jump.isNone then .ready else .done) jump)) ∧
        (W3.putObj (w.heap.size + 1) (.loop (lp (if jump.isNone then .ready else .done) jump))).heap[w.heap.size]? = some (.deferred (some [])) ∧
        KeepsBut w.heap.size (w.heap.size + 1) W1 (W3.putObj (w.heap.size + 1) (.loop (lp (if jump.isNone then .ready else .done) jump))) := fun jump W3 hk => by
      rw [hlp] at hk ⊢
      have c1 := hk.same _ _ (by omega) b1 rfl
      have c2 := hk.same _ _ (Nat.le_refl _) b2 rfl
      have hend := run_endRound (P := P) jump c1
      refine ⟨hend, c1, World.putObj_heap_same (Array.getElem?_eq_some_iff.1 c1).1, (World.putObj_heap_other (by omega)).trans c2, ?_, ?_⟩
      · have h1 := hk.size
        have h2 := hkf.size
        simp only [World.putObj, Array.size_setIfInBounds] at h1 ⊢
        omega
      · intro k o hkl hk2 ho hc
        exact (World.putObj_heap_other (by omega)).trans (hk.same k o hk2 ((World.putObj_heap_other (by omega)).trans (hkf.same k o hk2 ho hc)) hc)
    rintro e a3 W3 hp
    rw [hlp] at fin
    cases e with
    | normal =>
      obtain ⟨hk, hDn, hKp3⟩ := hp
      obtain ⟨hend, c1, d1, d2, hkb⟩ := fin none W3 hk
      exact ⟨_, _, hend, .inl ⟨rfl, ⟨hDp _ _ _ _ _ hDn (by omega) c1 rfl, by rw [hlp]; exact d1, d2⟩, hKt _ _ _ hKp2 (hKt _ _ _ hK1 (hKt _ _ _ hKp3 (hKp W3 _ _ _ (by omega) c1 rfl))), hkb⟩⟩
    | ret =>
      obtain ⟨hk, hx⟩ := hp
      obtain ⟨hend, c1, d1, d2, hkb⟩ := fin (some .ret) W3 hk
      exact ⟨_, _, hend, .inr ⟨rfl, ⟨.ret, hSp _ _ _ _ _ hx (by omega) c1 rfl, by rw [hlp]; exact d1, d2⟩, hkb⟩⟩
    | exit id =>
      obtain ⟨hk, hx⟩ := hp
      obtain ⟨hend, c1, d1, d2, hkb⟩ := fin (some (.exit id)) W3 hk
      exact ⟨_, _, hend, .inr ⟨rfl, ⟨.exit id, hSp _ _ _ _ _ hx (by omega) c1 rfl, by rw [hlp]; exact d1, d2⟩, hkb⟩⟩
    | goto t => exact hp.elim
    | panic ch => exact hp.elim
    | outgrown => exact hp.elim
  · rintro e W2 ⟨⟨v, rfl⟩, ⟨hDN, hB⟩ | ⟨c, hc, hl, hd⟩⟩
    · have hend := run_endLoop (P := P) hB.1 (by rw [hlp]; simp)
      rw [hlp] at hend
      exact ⟨none, _, hend, hdone _ _ (Nat.le_refl _) (hDp _ _ _ _ _ hDN (by omega) hB.1 rfl) ((World.putObj_heap_other (by omega)).trans hB.2)⟩
    · have hend := run_endLoop (P := P) hl (by rw [hlp]; simp)
      rw [hlp] at hend
      exact ⟨some c, _, hend, hstop _ c _ (Nat.le_refl _) (hSp _ _ _ _ _ hc (by omega) hl rfl) ((World.putObj_heap_other (by omega)).trans hd)⟩
end
end Go.Proofs.YtmmffifndheafaaDoor

namespace Go.Proofs.YtmmffifndheafaaDoor
open Go.RowKit

/-- whatever is cells, but block b, is as it was -/
structure KpC (b : Nat) (W W' : World) : Prop where
  size : W.heap.size ≤ W'.heap.size
  same : ∀ (k : Nat) (o : Obj), k ≠ b → W.heap[k]? = some o → o.isCells = true → W'.heap[k]? = some o
theorem KpC.trans {b : Nat} {A B C : World} (h : KpC b A B) (k : KpC b B C) : KpC b A C := ⟨Nat.le_trans h.size k.size, fun i o hi ho hc => k.same i o hi (h.same i o hi ho hc) hc⟩
theorem KpC.putObj {b l : Nat} {W : World} {o o' : Obj} (ho : W.heap[l]? = some o) (hc : o.isCells = false) : KpC b W (W.putObj l o') := by
  refine ⟨by simp [World.putObj], fun k p hk hp hpc => (World.putObj_heap_other (fun e => ?_)).trans hp⟩
  subst e
  rw [hp] at ho
  injection ho with ho
  subst ho
  rw [hpc] at hc; cases hc
theorem KpC.of_below {b : Nat} {W W' : World} (h : Below W.heap.size W W') : KpC b W W' := ⟨h.size, fun k _ _ ho _ => (h.block k (Array.getElem?_eq_some_iff.1 ho).1).trans ho⟩
theorem KpC.set {b : Nat} {W W' : World} (h : KpC b W W') (v : Value) : KpC b W (W'.setCell ⟨b, 0, none⟩ v) :=
  ⟨by simpa [World.setCell] using h.size, fun k _ hk ho hc => (Below.heap_setCell W' ⟨b, 0, none⟩ v k (fun e => hk (by simpa using e))).trans (h.same k _ hk ho hc)⟩

theorem below_put {B l : Nat} (W : World) (o' : Obj) (h : B ≤ l) : Below B W (W.putObj l o') := ⟨rfl, rfl, rfl, by simp [World.putObj], fun k hk => World.putObj_heap_other (by omega)⟩
end Go.Proofs.YtmmffifndheafaaDoor

namespace Go.Proofs.YtmmffifndheafaaDoor
open Go.RowKit

theorem cells_of_cell {W : World} {p : Addr} {v : Value} (h : W.cell? p = some v) : ∃ o : Obj, W.heap[p.block]? = some o ∧ o.isCells = true := by
  unfold World.cell? at h
  cases ho : W.heap[p.block]? with
  | none => simp [ho] at h
  | some o => exact ⟨o, rfl, by cases o <;> simp_all [Obj.isCells]⟩
theorem Nums.putObj {k : IntKind} {V : World} {B l : Nat} {a : Option Addr} {zs : List Int} {o : Obj} (h : Nums k V B a zs) (ho : V.heap[l]? = some o) (hc : o.isCells = false) (o' : Obj) : Nums k (V.putObj l o') B a zs := fun hn => by
  obtain ⟨b, off, e, hb, hcl⟩ := h hn
  refine ⟨b, off, e, hb, fun j c hj => ?_⟩
  have h1 := hcl j c hj
  obtain ⟨o2, h2, h3⟩ := cells_of_cell h1
  refine (World.cell?_of_block (World.putObj_heap_other (fun e => ?_))).trans h1
  simp only at h2 e
  subst e
  rw [ho] at h2
  injection h2 with h2
  subst h2
  rw [hc] at h3; cases h3
theorem off_below {S : Nat → Prop} {w V V' : World} (h : Off S w V) (hb : Below w.heap.size V V') : Off S w V' :=
  ⟨hb.os.trans h.os, hb.tape.trans h.tape, hb.output.trans h.output, Nat.le_trans h.size hb.size, fun k hk hn => (hb.block k hk).trans (h.block k hk hn)⟩
/-- behind j rounds of the law's loop: the box b holds j, all else is as it was -/
def Ld (w : World) (b : Nat) (t : TypeId) (j : Nat) (V : World) : Prop := Boxed V b t (.int .i64 ((j : Nat) : Int)) ∧ Off (fun k => k = b) w V
theorem Ld.below {w V V' : World} {b : Nat} {t : TypeId} {j : Nat} (h : Ld w b t j V) (hb : b < w.heap.size) (hB : Below w.heap.size V V') : Ld w b t j V' :=
  ⟨(hB.block b hb).trans h.1, off_below h.2 hB⟩
end Go.Proofs.YtmmffifndheafaaDoor

namespace Go.Proofs.YtmmffifndheafaaDoor
open Go.RowKit Go.Shelf
set_option maxRecDepth 100000
attribute [local go_sem] Oper.semAt_some

/-- the parts ahead of the j-th are as they may be -/
def okTo (v k i c : Int) (j : Nat) : Prop := (0 < j → 1 ≤ v ∧ v ≤ 2) ∧ (1 < j → 1 ≤ k ∧ k ≤ 5) ∧ (2 < j → 1 ≤ c ∧ c ≤ 255) ∧ (3 < j → 0 ≤ i ∧ i < c)

theorem part_at {v k i c : Int} {j : Nat} (hj : j < 4) (h : okTo v k i c j) : ∃ x le mo wr : Int, ptCs v k i c (wrap64 (c - 1)) j = #[.int .i64 x, .int .i64 le, .int .i64 mo, .int .i64 wr] ∧
    (le ≤ x → x ≤ mo → okTo v k i c (j + 1)) ∧ (x < le ∨ mo < x → chk v k i c = wr) := by
  obtain ⟨h0, h1, h2, h3⟩ := h
  obtain rfl | rfl | rfl | rfl : j = 0 ∨ j = 1 ∨ j = 2 ∨ j = 3 := by omega
  · exact ⟨_, _, _, _, rfl, fun a b => ⟨fun _ => ⟨a, b⟩, by omega, by omega, by omega⟩, fun h => by unfold chk; rw [if_pos h]⟩
  · have := h0 (by omega)
    exact ⟨_, _, _, _, rfl, fun a b => ⟨fun _ => h0 (by omega), fun _ => ⟨a, b⟩, by omega, by omega⟩, fun h => by unfold chk; rw [if_neg (by omega), if_pos h]⟩
  · have := h0 (by omega)
    have := h1 (by omega)
    exact ⟨_, _, _, _, rfl, fun a b => ⟨fun _ => h0 (by omega), fun _ => h1 (by omega), fun _ => ⟨a, b⟩, by omega⟩, fun h => by unfold chk; rw [if_neg (by omega), if_neg (by omega), if_pos (by omega)]⟩
  · have := h0 (by omega)
    have := h1 (by omega)
    have := h2 (by omega)
    have hw : wrap64 (c - 1) = c - 1 := by unfold wrap64; omega
    rw [hw]
    exact ⟨_, _, _, _, rfl, fun a b => ⟨fun _ => h0 (by omega), fun _ => h1 (by omega), fun _ => h2 (by omega), fun _ => ⟨a, by omega⟩⟩, fun h => by unfold chk; rw [if_neg (by omega), if_neg (by omega), if_pos (by omega)]⟩

set_option maxHeartbeats 4000000 in
theorem check_any (v k s i c : Int) (w : World) :
    Calls Tryd.prog 8 #[hdV v k s i c] w fun e w' => e = .returned (.int .i64 (chk v k i c)) ∧ Below w.heap.size w w' := by
  obtain ⟨w0, hw0⟩ : ∃ w0, (w.alloc (.cells #[.int .i64 v, .int .i64 k, .int .u32 s, .int .i64 i, .int .i64 c] 24)).alloc (.cells #[.int .i64 0] 26) = w0 := ⟨_, rfl⟩
  have hs0 : w0.heap.size = w.heap.size + 2 := by rw [← hw0]; simp
  have hb0 : Below w.heap.size w w0 := by rw [← hw0]; exact ((Below.refl _ w).alloc (Nat.le_refl _) _).alloc (by simp) _
  have bF0 : Boxed w0 (w.heap.size + 1) 26 (.int .i64 0) := by
    rw [← hw0]
    have := Boxed.new (w.alloc (.cells #[.int .i64 v, .int .i64 k, .int .u32 s, .int .i64 i, .int .i64 c] 24)) 26 (.int .i64 0)
    rwa [World.size_alloc] at this
  have HP := Lib.hid (parts_any v k s i c)
  have HW := Lib.hid hw0
  clear hw0
  unfold hdV at HP ⊢
  refine (callsIn_wide (n := 9)).1 ?_
  refine callsIn_of_wp_marks Tryd.func8 rfl trivial ?_ rfl
  simp only [Tryd.ntmps8, List.size_toArray, List.length_cons, List.length_nil, Nat.reduceAdd, Nat.reduceSub, Array.replicate_succ, Array.replicate_zero, List.push_toArray, List.append_toArray, List.nil_append, List.cons_append]
  gi_wp2_with fail
  refine wpIn_wide.2 (wp_scope_straight ((wpIn_wide (n := 9)).1 ?_))
  gi_wp2_with fail
  apply wpIn_label
  gi_wp2_with fail
  refine ⟨trivial, ?_⟩
  rw [HW.out]
  refine (callsIn_wide.2 (HP.out w0)).mono ?_
  rintro e w1 ⟨g, rfl, hg0, hg, hb1⟩
  clear HP
  have hs1 := hb1.size
  have hgl : g < w1.heap.size := (Array.getElem?_eq_some_iff.1 hg).1
  have bF1 : Boxed w1 (w.heap.size + 1) 26 (.int .i64 0) := (hb1.block _ (by omega)).trans bF0
  have hb01 := hb0.trans (hb1.mono (by omega))
  clear HW bF0
  have hF : w.heap.size + 1 < w1.heap.size := by omega
  gi_wp2_with fail
  refine range_stopa rfl (by omega) (gf := 26) (lb := #[.pointer (some ⟨g, 0, none⟩)]) rfl trivial (enters_of Tryd.func26 (by kernel_rfl) rfl)
    (fun x : Nat => #[ptV v k i c (wrap64 (c - 1)) x]) (fun _ => rfl)
    (fun j x V => x = j ∧ okTo v k i c j ∧ Below w1.heap.size w1 V)
    (fun j x b V => x = j ∧ okTo v k i c j ∧ Below w1.heap.size w1 V ∧ ∃ q, b = { tmps := #[.agg #[.int .i64 v, .int .i64 k, .int .u32 s, .int .i64 i, .int .i64 c], .pointer (some ⟨w.heap.size, 0, none⟩), .int .i64 0, .pointer (some ⟨w.heap.size + 1, 0, none⟩), .pointer (some ⟨q, 0, none⟩),
        .agg #[.int .i64 v, .int .i64 k, .int .u32 s, .int .i64 i, .int .i64 c], .func (.func 26) #[] #[.pointer (some ⟨g, 0, none⟩)], ptV v k i c (wrap64 (c - 1)) x, undef, undef, undef, undef, undef, undef, undef, undef, undef, undef, undef, undef, undef, undef], defers := [] } ∧
      w1.heap.size ≤ q ∧ V.heap[q]? = some (.cells (ptCs v k i c (wrap64 (c - 1)) j) 50 (0, 0)))
    (fun j V => okTo v k i c j ∧ Below w1.heap.size w1 V)
    (fun cd V => cd = .exit 0 ∧ Boxed V (w.heap.size + 1) 26 (.int .i64 (chk v k i c)) ∧ Off (fun q => q = w.heap.size + 1) w1 V) (fun _ _ => True) 4
    (fun j x b V l o o' h hl ho hc' => ⟨h.1, h.2.1, h.2.2.1.trans ⟨rfl, rfl, rfl, by simp [World.putObj], fun k hk => World.putObj_heap_other (by omega)⟩, by
      obtain ⟨q, h1, h2, h3⟩ := h.2.2.2
      exact ⟨q, h1, h2, (World.putObj_heap_other (fun e => by subst e; rw [h3] at ho; injection ho with ho; subst ho; cases hc')).trans h3⟩⟩)
    (fun j V l o o' h hl _ _ => ⟨h.1, h.2.trans ⟨rfl, rfl, rfl, by simp [World.putObj], fun k hk => World.putObj_heap_other (by omega)⟩⟩)
    (fun cd V l o o' h hl _ _ => ⟨h.1, (World.putObj_heap_other (by omega)).trans h.2.1, off_below h.2.2 (below_put V o' hl)⟩)
    (fun _ _ _ _ _ => trivial) (fun _ _ _ _ _ _ _ => trivial)
    (fun o => ⟨⟨by omega, by omega, by omega, by omega⟩, ((Below.refl w1.heap.size w1).alloc (Nat.le_refl _) _).alloc (by simp) _⟩) ?assign ?body ?iter ?done ?stop
  case assign =>
    rintro l j x V K ⟨rfl, hok, hbV⟩ hj hK
    obtain ⟨y, le, mo, wr, hcs, _⟩ := part_at hj hok
    have hK' := Lib.hid (hK { tmps := #[.agg #[.int .i64 v, .int .i64 k, .int .u32 s, .int .i64 i, .int .i64 c], .pointer (some ⟨w.heap.size, 0, none⟩), .int .i64 0, .pointer (some ⟨w.heap.size + 1, 0, none⟩), .pointer (some ⟨V.heap.size, 0, none⟩),
        .agg #[.int .i64 v, .int .i64 k, .int .u32 s, .int .i64 i, .int .i64 c], .func (.func 26) #[] #[.pointer (some ⟨g, 0, none⟩)], ptV v k i c (wrap64 (c - 1)) x, undef, undef, undef, undef, undef, undef, undef, undef, undef, undef, undef, undef, undef, undef], defers := [] }
      (V.alloc (.cells (ptCs v k i c (wrap64 (c - 1)) x) 50)) ⟨rfl, hok, hbV.alloc hbV.size _, V.heap.size, rfl, hbV.size, World.alloc_heap_new _ _⟩ ⟨by simp, fun q o _ ho _ => (Below.heap_alloc _ _ _ (Array.getElem?_eq_some_iff.1 ho).1).trans ho⟩ trivial)
    clear hK
    unfold ptV at hK' ⊢
    rw [hcs] at hK' ⊢
    gi_wp2
    exact hK'.out
  case body =>
    rintro l j x b V hl ⟨rfl, hok, hbV, q, rfl, hq, hcell⟩ hj
    obtain ⟨y, le, mo, wr, hcs, hin, hout⟩ := part_at hj hok
    rw [hcs] at hcell
    have d0 : V.cell? ⟨q, 0, none⟩ = some (.int .i64 y) := by simp [World.cell?, hcell]
    have d1 : V.cell? ⟨q, 1, none⟩ = some (.int .i64 le) := by simp [World.cell?, hcell]
    have d2 : V.cell? ⟨q, 2, none⟩ = some (.int .i64 mo) := by simp [World.cell?, hcell]
    have d3 : V.cell? ⟨q, 3, none⟩ = some (.int .i64 wr) := by simp [World.cell?, hcell]
    have bFV : Boxed V (w.heap.size + 1) 26 (.int .i64 0) := (hbV.block _ hF).trans bF1
    have e0 := bFV.cell
    have e1 := bFV.frozen
    have hgo := Lib.hid (fun h1 h2 => (⟨⟨Nat.le_refl _, fun _ _ _ ho _ => ho⟩, ⟨hin h1 h2, hbV⟩, trivial⟩ : KeepsFrom w1.heap.size V V ∧ (okTo v k i c (x + 1) ∧ Below w1.heap.size w1 V) ∧ True))
    have hst := Lib.hid (fun h => (⟨(KeepsOthers.setCell _ _ _).from _, by rw [hout h]; exact bFV.set _, (off_below (Off.refl (fun q => q = w.heap.size + 1) w1) hbV).setCell (p := ⟨w.heap.size + 1, 0, none⟩) rfl _⟩ :
      KeepsFrom w1.heap.size V (V.setCell ⟨w.heap.size + 1, 0, none⟩ (.int .i64 wr)) ∧ Boxed (V.setCell ⟨w.heap.size + 1, 0, none⟩ (.int .i64 wr)) (w.heap.size + 1) 26 (.int .i64 (chk v k i c)) ∧ Off (fun q => q = w.heap.size + 1) w1 (V.setCell ⟨w.heap.size + 1, 0, none⟩ (.int .i64 wr))))
    clear hok hbV hcell hin hout hcs bFV
    by_cases h1 : y < le
    · gi_wp2
      exact ⟨(hst.out (.inl h1)).1, rfl, (hst.out (.inl h1)).2⟩
    · by_cases h2 : mo < y
      · gi_wp2
        exact ⟨(hst.out (.inr h2)).1, rfl, (hst.out (.inr h2)).2⟩
      · gi_wp2
        exact hgo.out (by omega) (by omega)
  case iter =>
    intro Bk X l V hBk hBlt hX hl hD hB hY
    exact parts_in 8 (by omega) 7 l g v k i c (wrap64 (c - 1)) (fun j V => (okTo v k i c j ∧ Below w1.heap.size w1 V) ∧ Bk V) X
      (fun j A cs t h => ⟨⟨h.1.1, h.1.2.alloc h.1.2.size _⟩, hBk A _ h.2 (by simp) (fun q h1 h2 => by have := hBlt A h.2; exact Below.heap_alloc _ _ _ (by omega))⟩)
      (fun j W h hj => (hY j j W ⟨rfl, h.1⟩ h.2 hj).mono (fun e W2 h => h.elim (fun h => .inl ⟨h.1, h.2.1⟩) (fun h => .inr ⟨h.1, h.2.1⟩)))
      V ((hD.2.block g hgl).trans hg) ⟨hD, hB⟩
  case done =>
    rintro D V hD ⟨hok, hbV⟩ hK
    have hz : chk v k i c = 0 := by
      have h0 := hok.1 (by omega); have h1 := hok.2.1 (by omega); have h2 := hok.2.2.1 (by omega); have h3 := hok.2.2.2 (by omega)
      unfold chk; rw [if_neg (by omega), if_neg (by omega), if_neg (by omega)]
    have bFV : Boxed V (w.heap.size + 1) 26 (.int .i64 0) := (hbV.block _ hF).trans bF1
    have e0 := bFV.cell
    have HB := Lib.hid (hb01.trans (hbV.mono hb01.size))
    gi_wp2
    simp only [Exit.noGoto]
    refine ⟨by simp, .inl ⟨_, _, rfl, run_takeDeferred hK, ?_⟩⟩
    rw [hz]
    refine ⟨.int .i64 0, ?_, rfl, HB.out.trans (below_put _ _ (by omega))⟩
    simp [results, Tryd.f8, go_sem]
  case stop =>
    rintro D cd V hD ⟨rfl, bF, hO⟩ hK
    have e0 := bF.cell
    have HB := Lib.hid (hb01.trans (hO.below (B := w.heap.size) (fun k hk => by omega) hb01.size))
    gi_wp2
    simp only [Exit.noGoto]
    refine ⟨by simp, .inl ⟨_, _, rfl, run_takeDeferred hK, ?_⟩⟩
    refine ⟨.int .i64 (chk v k i c), ?_, rfl, HB.out.trans (below_put _ _ (by omega))⟩
    simp [results, Tryd.f8, go_sem]
end Go.Proofs.YtmmffifndheafaaDoor

namespace Go.Proofs.YtmmffifndheafaaDoor
open Go.RowKit

/-- the numbers zs lie at a, in a block from lo on, below hi -/
def NumsIn (k : IntKind) (w : World) (lo hi : Nat) (a : Option Addr) (zs : List Int) : Prop :=
  zs ≠ [] → ∃ b off, a = some ⟨b, off, none⟩ ∧ lo ≤ b ∧ b < hi ∧ ∀ j c, zs[j]? = some c → w.cell? ⟨b, off + j, none⟩ = some (.int k c)
/-- the blocks from lo on, below hi, are as they were -/
def Keeps (lo hi : Nat) (W W' : World) : Prop := W.heap.size ≤ W'.heap.size ∧ ∀ k, lo ≤ k → k < hi → W'.heap[k]? = W.heap[k]?
theorem Keeps.refl (lo hi : Nat) (W : World) : Keeps lo hi W W := ⟨Nat.le_refl _, fun _ _ _ => rfl⟩
theorem Keeps.trans {lo hi : Nat} {A B C : World} (h : Keeps lo hi A B) (k : Keeps lo hi B C) : Keeps lo hi A C := ⟨Nat.le_trans h.1 k.1, fun i h1 h2 => (k.2 i h1 h2).trans (h.2 i h1 h2)⟩
theorem Keeps.of_below {lo hi : Nat} {A B : World} (h : Below hi A B) : Keeps lo hi A B := ⟨h.size, fun k _ h2 => h.block k h2⟩
theorem Keeps.of_off {S : Nat → Prop} {lo hi : Nat} {A B : World} (h : Off S A B) (hh : hi ≤ A.heap.size) (hS : ∀ k, lo ≤ k → k < hi → ¬ S k) : Keeps lo hi A B := ⟨h.size, fun k h1 h2 => h.block k (by omega) (hS k h1 h2)⟩
theorem Keeps.cell {lo hi : Nat} {A B : World} (h : Keeps lo hi A B) {p : Addr} (h1 : lo ≤ p.block) (h2 : p.block < hi) : B.cell? p = A.cell? p := World.cell?_of_block (h.2 p.block h1 h2)
section
variable {k : IntKind} {lo lo' hi hi' : Nat} {A B : World} {a : Option Addr} {zs : List Int}
theorem NumsIn.keeps (h : NumsIn k A lo hi a zs) (hk : Keeps lo hi A B) : NumsIn k B lo hi a zs := fun hn => by
  obtain ⟨b, off, e, h1, h2, hc⟩ := h hn
  exact ⟨b, off, e, h1, h2, fun j c hj => (hk.cell (p := ⟨b, off + j, none⟩) h1 h2).trans (hc j c hj)⟩
theorem NumsIn.nums (h : NumsIn k A lo hi a zs) : Nums k A hi a zs := fun hn => by
  obtain ⟨b, off, e, _, h2, hc⟩ := h hn
  exact ⟨b, off, e, h2, hc⟩
theorem NumsIn.mono (h : NumsIn k A lo hi a zs) (hh : hi ≤ hi') : NumsIn k A lo hi' a zs := fun hn => by
  obtain ⟨b, off, e, h1, h2, hc⟩ := h hn
  exact ⟨b, off, e, h1, by omega, hc⟩
theorem NumsIn.lower (h : NumsIn k A lo hi a zs) (hh : lo' ≤ lo) : NumsIn k A lo' hi a zs := fun hn => by
  obtain ⟨b, off, e, h1, h2, hc⟩ := h hn
  exact ⟨b, off, e, by omega, h2, hc⟩
end
theorem MadeK.numsIn {e : TypeId} {k : IntKind} {w w1 : World} {L : List Int} {A : Option Addr} {c : Nat} (h : MadeK e k w w1 L (.slice A L.length c)) : NumsIn k w1 w.heap.size w1.heap.size A L := fun hn => by
  obtain ⟨b, off, rfl, hb, hc⟩ := Nums.of_own h.1 hn
  exact ⟨b, off, rfl, (h.own_ge (g := b) rfl).1, hb, hc⟩
theorem MadeK.less {T : TypeId} {k : IntKind} {w w1 w2 : World} {L : List Int} {v : Value} (h : MadeK T k w1 w2 L v) (hb : Below w.heap.size w w1) : MadeK T k w w2 L v := by
  obtain ⟨⟨e, h2⟩, hb2⟩ := h
  refine ⟨⟨e, ?_⟩, hb.trans (hb2.mono hb.size)⟩
  rcases h2 with h0 | ⟨g, cap, cur, q1, q2, q3⟩
  · exact .inl h0
  · exact .inr ⟨g, cap, cur, q1, Nat.le_trans hb.size q2, q3⟩
end Go.Proofs.YtmmffifndheafaaDoor

namespace Go.Proofs.YtmmffifndheafaaDoor
open Go.RowKit
set_option maxRecDepth 100000
theorem byteInfo : (Tryd.prog.info? 5).map (fun i => (i.zero, i.size, i.bytes)) = some (some (.int .u8 0), 1, 1) := by kernel_rfl
end Go.Proofs.YtmmffifndheafaaDoor

namespace Go.Proofs.YtmmffifndheafaaDoor
open Go.RowKit
set_option maxRecDepth 100000

/-- Same, of lists that are the same -/
theorem same_eq (B : Nat) (a1 a2 : Option Addr) (c1 c2 : Nat) (zs : List Int) (w : World) (hl : zs.length ≤ 9223372036854775807) (h1 : Nums .u8 w B a1 zs) (h2 : Nums .u8 w B a2 zs) :
    Calls Tryd.prog 13 #[.slice a1 zs.length c1, .slice a2 zs.length c2] w fun e w' => e = .returned (.bool true) ∧ ∃ n, w' = w.drewN n := by
  go_enter Tryd.func13, Tryd.ntmps13
  go_wp2
  go_loopw [5] (fun i wr => ∃ k : Nat, k ≤ zs.length ∧ i = .int .i64 k ∧ ∃ n, wr = w.drewN n) (fun i _ => zs.length - (intOf i).toNat)
  case atStart => exact ⟨0, by omega, rfl, 0, rfl⟩
  case round =>
    obtain ⟨k, hk, rfl, n, rfl⟩ := hrel
    by_cases hlt : k < zs.length
    · obtain ⟨c, hc⟩ : ∃ c, zs[k]? = some c := ⟨_, List.getElem?_eq_getElem hlt⟩
      obtain ⟨b1, o1, rfl, hb1, hc1⟩ := h1.open hc
      obtain ⟨b2, o2, rfl, hb2, hc2⟩ := h2.open hc
      clear h1 h2 hc
      have hlt' : (k : Int) < (zs.length : Int) := by omega
      go_wp2
      go_quiet (fail)
      go_wp2
      go_roundw
      case rel => exact ⟨k + 1, by omega, by go_num, _, rfl⟩
      case measure => simp [intOf]; omega
    · go_wp2
      go_ret
      exact ⟨rfl, n, rfl⟩

theorem same_len (B : Nat) (a1 a2 : Option Addr) (n1 n2 c1 c2 : Nat) (x y : List Int) (w : World) (hxy : x = y) (hn1 : x.length = n1) (hn2 : y.length = n2) (hl : n1 ≤ 9223372036854775807) (h1 : Nums .u8 w B a1 x) (h2 : Nums .u8 w B a2 y) :
    Calls Tryd.prog 13 #[.slice a1 n1 c1, .slice a2 n2 c2] w fun e w' => e = .returned (.bool true) ∧ ∃ n, w' = w.drewN n := by
  subst hxy hn1 hn2; exact same_eq B a1 a2 c1 c2 x w hl h1 h2

end Go.Proofs.YtmmffifndheafaaDoor

namespace Go.Proofs.YtmmffifndheafaaDoor
namespace Vi

/-- the bytes of a number: seven bits each, the lowest first -/
def enc (n : Nat) : List Int := if n < 128 then [(n : Int)] else ((n % 128 + 128 : Nat) : Int) :: enc (n / 128)
termination_by n
decreasing_by omega

theorem enc_small {n : Nat} (h : n < 128) : enc n = [(n : Int)] := by rw [enc, if_pos h]
theorem enc_big {n : Nat} (h : 128 ≤ n) : enc n = ((n % 128 + 128 : Nat) : Int) :: enc (n / 128) := by rw [enc, if_neg (by omega)]

theorem enc_pos (n : Nat) : 0 < (enc n).length := by
  by_cases h : n < 128
  · simp [enc_small h]
  · simp [enc_big (Nat.le_of_not_lt h)]

theorem enc_le (k : Nat) : ∀ n : Nat, n < 128 ^ (k + 1) → (enc n).length ≤ k + 1 := by
  induction k with
  | zero => intro n h; rw [enc_small (by simpa using h)]; simp
  | succ k ih =>
    intro n h
    by_cases hn : n < 128
    · simp [enc_small hn]
    · rw [enc_big (Nat.le_of_not_lt hn)]
      have := ih (n / 128) (by rw [Nat.pow_succ] at h; omega)
      simp only [List.length_cons]; omega

theorem enc_le10 {n : Nat} (h : n < 18446744073709551616) : (enc n).length ≤ 10 := enc_le 9 n (by omega)

/-- n has k bytes: then n < 128 ^ k, and at k > 1 at least 128 ^ (k - 1) -/
theorem enc_lt (n : Nat) : n < 128 ^ (enc n).length := by
  induction n using Nat.strongRecOn with
  | _ n ih =>
    by_cases hn : n < 128
    · simp [enc_small hn]; exact hn
    · have h := ih (n / 128) (by omega)
      rw [enc_big (Nat.le_of_not_lt hn), List.length_cons, Nat.pow_succ]
      omega

theorem enc_ge (n : Nat) (h : 1 < (enc n).length) : 128 ^ ((enc n).length - 1) ≤ n := by
  induction n using Nat.strongRecOn with
  | _ n ih =>
    by_cases hn : n < 128
    · simp [enc_small hn] at h
    · have hb := enc_big (Nat.le_of_not_lt hn)
      rw [hb, List.length_cons, Nat.add_sub_cancel]
      by_cases h1 : 1 < (enc (n / 128)).length
      · have hi := ih (n / 128) (by omega) h1
        have hp := enc_pos (n / 128)
        have e : (enc (n / 128)).length = (enc (n / 128)).length - 1 + 1 := by omega
        rw [e, Nat.pow_succ]; omega
      · have hp := enc_pos (n / 128)
        have e : (enc (n / 128)).length = 1 := by omega
        rw [e]; omega

theorem enc_mono {a b : Nat} (h : a ≤ b) : (enc a).length ≤ (enc b).length := by
  by_cases h1 : 1 < (enc a).length
  · have h2 := enc_ge a h1
    have h3 := enc_lt b
    have h4 : 128 ^ ((enc a).length - 1) < 128 ^ (enc b).length := by omega
    have := (Nat.pow_lt_pow_iff_right (by decide : 1 < 128)).1 h4
    omega
  · have := enc_pos b; omega

theorem enc_byte (n : Nat) : ∀ c ∈ enc n, 0 ≤ c ∧ c ≤ 255 := by
  induction n using Nat.strongRecOn with
  | _ n ih =>
    by_cases hn : n < 128
    · rw [enc_small hn]; intro c hc; simp at hc; subst hc; omega
    · rw [enc_big (Nat.le_of_not_lt hn)]
      intro c hc
      simp only [List.mem_cons] at hc
      rcases hc with rfl | hc
      · omega
      · exact ih (n / 128) (by omega) c hc

/-! ### sizes by the length of the bits -/
theorem log2_div128 {n : Nat} (h : 128 ≤ n) : n.log2 = (n / 128).log2 + 7 := by
  have hd : 1 ≤ n / 128 := by omega
  have e : ∀ m : Nat, 2 ≤ m → m.log2 = (m / 2).log2 + 1 := fun m hm => by rw [Nat.log2_def, if_pos hm]
  rw [e n (by omega), e (n / 2) (by omega), e (n / 2 / 2) (by omega), e (n / 2 / 2 / 2) (by omega), e (n / 2 / 2 / 2 / 2) (by omega), e (n / 2 / 2 / 2 / 2 / 2) (by omega), e (n / 2 / 2 / 2 / 2 / 2 / 2) (by omega)]
  rw [show n / 2 / 2 / 2 / 2 / 2 / 2 / 2 = n / 128 by omega]

theorem log2_small {n : Nat} (h : n < 128) : n.log2 ≤ 6 := by
  by_cases h0 : n = 0
  · subst h0; decide
  · have := (Nat.log2_lt h0).2 (show n < 2 ^ 7 by omega); omega

theorem enc_log2 (n : Nat) : (enc n).length = n.log2 / 7 + 1 := by
  induction n using Nat.strongRecOn with
  | _ n ih =>
    by_cases hn : n < 128
    · have := log2_small hn
      rw [enc_small hn]; simp only [List.length_singleton]; omega
    · have h := ih (n / 128) (by omega)
      rw [enc_big (Nat.le_of_not_lt hn), List.length_cons, h, log2_div128 (Nat.le_of_not_lt hn)]
      omega

theorem or_one (n : Nat) : n ||| 1 = n + (1 - n % 2) := by
  have h : n ||| 1 = n / 2 * 2 + 1 := by
    have h1 : n ||| 1 = (n / 2 * 2) ||| 1 := by
      apply Nat.eq_of_testBit_eq
      intro i
      cases i with
      | zero => simp
      | succ i =>
        rw [Nat.testBit_or, Nat.testBit_or, Nat.testBit_succ, Nat.testBit_succ (n / 2 * 2)]
        rw [show n / 2 * 2 / 2 = n / 2 by omega]
    rw [h1]
    exact nat_join 1 (n / 2 * 2) 1 (by omega) (by omega)
  omega

theorem enc_or_one (n : Nat) : (enc (n ||| 1)).length = (enc n).length := by
  have h := or_one n
  by_cases hn : n < 128
  · rw [enc_small hn, enc_small (by omega)]; rfl
  · rw [enc_big (Nat.le_of_not_lt hn), enc_big (by omega), List.length_cons, List.length_cons, show (n ||| 1) / 128 = n / 128 by omega]

theorem size_log2 (n : Nat) : ((n ||| 1).log2 + 1 + 7 - 1) / 7 = (enc n).length := by
  rw [← enc_or_one, enc_log2]; omega

theorem log2_lt64 {n : Nat} (h : n < 18446744073709551616) : n.log2 ≤ 63 := by
  by_cases h0 : n = 0
  · subst h0; decide
  · have := (Nat.log2_lt h0).2 (show n < 2 ^ 64 by omega); omega

end Vi
end Go.Proofs.YtmmffifndheafaaDoor

namespace Go.Proofs.YtmmffifndheafaaDoor
namespace Vi

/-- how many bytes with the highest bit set come first -/
def high : List Int → Nat
  | [] => 0
  | c :: r => if 128 ≤ c then high r + 1 else 0

/-- the number of bytes: seven bits each, the lowest first -/
def val : List Int → Nat
  | [] => 0
  | c :: r => c.toNat % 128 + 128 * val r

/-- the number that bytes begin with, how many bytes it has, the error (the document's P1.2) -/
def get (l : List Int) : Nat × Nat × Nat :=
  if 10 ≤ high l then (0, 0, 3)
  else if l.length ≤ high l then (0, 0, 4)
  else if 18446744073709551616 ≤ val (l.take (high l + 1)) ∨ (0 < high l ∧ l.getD (high l) 0 = 0) then (0, 0, 3)
  else (val (l.take (high l + 1)), high l + 1, 0)

theorem high_all {p : List Int} (hp : ∀ c ∈ p, 128 ≤ c) (r : List Int) : high (p ++ r) = p.length + high r := by
  induction p with
  | nil => simp
  | cons c p ih =>
    rw [List.cons_append, high, if_pos (hp c (by simp)), ih (fun d hd => hp d (by simp [hd])), List.length_cons]; omega

theorem val_append (p r : List Int) : val (p ++ r) = val p + 128 ^ p.length * val r := by
  induction p with
  | nil => simp [val]
  | cons c p ih =>
    rw [List.cons_append, val, ih, val, List.length_cons, Nat.pow_succ, Nat.mul_add]
    rw [show 128 ^ p.length * 128 * val r = 128 * (128 ^ p.length * val r) by rw [Nat.mul_comm (128 ^ p.length) 128, Nat.mul_assoc]]
    omega

theorem val_lt (p : List Int) : val p < 128 ^ p.length := by
  induction p with
  | nil => simp [val]
  | cons c p ih => rw [val, List.length_cons, Nat.pow_succ]; omega

theorem get_end {p : List Int} (hp : ∀ c ∈ p, 128 ≤ c) (hl : p.length ≤ 9) : get p = (0, 0, 4) := by
  have h := high_all hp []
  simp only [List.append_nil, high, Nat.add_zero] at h
  unfold get
  rw [if_neg (by omega), if_pos (by omega)]

theorem get_long {p r : List Int} (hp : ∀ c ∈ p, 128 ≤ c) (hl : 10 ≤ p.length) : get (p ++ r) = (0, 0, 3) := by
  have h := high_all hp r
  unfold get
  rw [if_pos (by omega)]

theorem take_mid (p : List Int) (c : Int) (r : List Int) : (p ++ c :: r).take (p.length + 1) = p ++ [c] := by
  rw [List.take_append, List.take_of_length_le (by omega)]; simp

theorem get_mid {p r : List Int} {c : Int} (hp : ∀ c ∈ p, 128 ≤ c) (hl : p.length ≤ 9) (hc : c < 128) :
    get (p ++ c :: r) = if 18446744073709551616 ≤ val (p ++ [c]) ∨ (0 < p.length ∧ c = 0) then (0, 0, 3) else (val (p ++ [c]), p.length + 1, 0) := by
  have h : high (p ++ c :: r) = p.length := by
    rw [high_all hp]; simp [high, show ¬ 128 ≤ c by omega]
  have hg : (p ++ c :: r).getD p.length 0 = c := by simp [List.getD]
  unfold get
  rw [h, hg, take_mid, if_neg (by omega), if_neg (by simp)]

theorem get_bad {p r : List Int} {c : Int} (hp : ∀ c ∈ p, 128 ≤ c) (hl : p.length ≤ 9) (hc : c < 128) (hb : 18446744073709551616 ≤ val (p ++ [c]) ∨ (0 < p.length ∧ c = 0)) : get (p ++ c :: r) = (0, 0, 3) := by
  rw [get_mid hp hl hc, if_pos hb]
theorem get_ok {p r : List Int} {c : Int} (hp : ∀ c ∈ p, 128 ≤ c) (hl : p.length ≤ 9) (hc : c < 128) (hb : val (p ++ [c]) < 18446744073709551616) (h0 : p.length = 0 ∨ c ≠ 0) : get (p ++ c :: r) = (val (p ++ [c]), p.length + 1, 0) := by
  rw [get_mid hp hl hc, if_neg (by omega)]

/-- the parts of any list: the high bytes that come first, and what is behind them -/
theorem parts (l : List Int) : ∃ p r, l = p ++ r ∧ (∀ c ∈ p, 128 ≤ c) ∧ (r = [] ∨ ∃ c r', r = c :: r' ∧ c < 128) := by
  induction l with
  | nil => exact ⟨[], [], rfl, by simp, .inl rfl⟩
  | cons c l ih =>
    by_cases hc : 128 ≤ c
    · obtain ⟨p, r, e, hp, hr⟩ := ih
      refine ⟨c :: p, r, by rw [e]; rfl, ?_, hr⟩
      intro d hd
      simp only [List.mem_cons] at hd
      rcases hd with rfl | hd
      · exact hc
      · exact hp d hd
    · exact ⟨[], c :: l, rfl, by simp, .inr ⟨c, l, rfl, by omega⟩⟩

/-- what is told is put as it was -/
theorem enc_val {p : List Int} {c : Int} (hp : ∀ d ∈ p, 128 ≤ d ∧ d ≤ 255) (h0 : 0 ≤ c) (hc : c < 128) (hz : p.length = 0 ∨ c ≠ 0) : enc (val (p ++ [c])) = p ++ [c] := by
  induction p with
  | nil =>
    have e : val ([] ++ [c]) = c.toNat := by simp [val]; omega
    rw [e, enc_small (by omega)]; simp; omega
  | cons d p ih =>
    have hd := hp d (by simp)
    have hi := ih (fun x hx => hp x (by simp [hx])) (.inr (by simpa using hz))
    have hc0 : c ≠ 0 := by simpa using hz
    have hv : 1 ≤ val (p ++ [c]) := by
      rw [val_append]
      have h1 : 1 ≤ val [c] := by simp [val]; omega
      have h2 : 1 ≤ 128 ^ p.length := Nat.one_le_pow _ _ (by decide)
      have := Nat.mul_le_mul h2 h1
      omega
    have e : val (d :: p ++ [c]) = d.toNat % 128 + 128 * val (p ++ [c]) := rfl
    rw [e, enc_big (by omega), show (d.toNat % 128 + 128 * val (p ++ [c])) / 128 = val (p ++ [c]) by omega, hi]
    simp only [List.cons_append, List.cons.injEq, and_true]
    omega

/-- a number's bytes: high ones, and a last one -/
theorem enc_parts (n : Nat) : ∃ p c, enc n = p ++ [c] ∧ (∀ d ∈ p, 128 ≤ d ∧ d ≤ 255) ∧ 0 ≤ c ∧ c < 128 ∧ (p.length = 0 ∨ c ≠ 0) ∧ val (p ++ [c]) = n := by
  induction n using Nat.strongRecOn with
  | _ n ih =>
    by_cases hn : n < 128
    · refine ⟨[], n, by rw [enc_small hn]; rfl, by simp, by omega, by omega, .inl rfl, ?_⟩
      simp [val]; omega
    · obtain ⟨p, c, e, hp, h0, hc, hz, hv⟩ := ih (n / 128) (by omega)
      refine ⟨((n % 128 + 128 : Nat) : Int) :: p, c, by rw [enc_big (by omega), e]; rfl, ?_, h0, hc, .inr ?_, ?_⟩
      · intro d hd
        simp only [List.mem_cons] at hd
        rcases hd with rfl | hd
        · omega
        · exact hp d hd
      · rcases hz with hz | hz
        · have : p = [] := List.eq_nil_of_length_eq_zero hz
          subst this
          simp [val] at hv
          intro hc0
          subst hc0
          simp at hv
          omega
        · exact hz
      · have e2 : val ((((n % 128 + 128 : Nat) : Int) :: p) ++ [c]) = ((n % 128 + 128 : Nat) : Int).toNat % 128 + 128 * val (p ++ [c]) := rfl
        rw [e2, hv, Int.toNat_natCast]; omega

/-- what was put is told as it was -/
theorem get_enc {n : Nat} (hn : n < 18446744073709551616) (r : List Int) : get (enc n ++ r) = (n, (enc n).length, 0) := by
  obtain ⟨p, c, e, hp, h0, hc, hz, hv⟩ := enc_parts n
  have hl := enc_le10 hn
  rw [e] at hl ⊢
  simp only [List.length_append, List.length_singleton] at hl ⊢
  rw [List.append_assoc, List.singleton_append, get_ok (fun d hd => (hp d hd).1) (by omega) hc (by omega) hz, hv]

/-- what Get tells: the size, and its bytes -/
theorem get_put {l : List Int} (hl : ∀ c ∈ l, 0 ≤ c ∧ c ≤ 255) (h : (get l).2.2 = 0) :
    (get l).1 < 18446744073709551616 ∧ 0 < (get l).2.1 ∧ (get l).2.1 ≤ l.length ∧ enc (get l).1 = l.take (get l).2.1 ∧ (enc (get l).1).length = (get l).2.1 := by
  obtain ⟨p, r, rfl, hp, hr⟩ := parts l
  by_cases h10 : 10 ≤ p.length
  · rw [get_long hp h10] at h; simp at h
  · rcases hr with rfl | ⟨c, r', rfl, hc⟩
    · rw [List.append_nil, get_end hp (by omega)] at h; simp at h
    · by_cases hb : 18446744073709551616 ≤ val (p ++ [c]) ∨ (0 < p.length ∧ c = 0)
      · rw [get_bad hp (by omega) hc hb] at h; simp at h
      · have hz : p.length = 0 ∨ c ≠ 0 := by omega
        have hc0 := hl c (by simp)
        have he := enc_val (fun d hd => ⟨hp d hd, (hl d (by simp [hd])).2⟩) hc0.1 hc hz
        rw [get_ok hp (by omega) hc (by omega) hz]
        simp only
        rw [he, take_mid]
        refine ⟨by omega, by omega, by simp, rfl, by simp⟩

/-- what is not told is nought -/
theorem get_err {l : List Int} (h : (get l).2.2 ≠ 0) : (get l).1 = 0 ∧ (get l).2.1 = 0 := by
  unfold get at h ⊢
  split
  · exact ⟨rfl, rfl⟩
  · split
    · exact ⟨rfl, rfl⟩
    · split
      · exact ⟨rfl, rfl⟩
      · rename_i h1 h2 h3
        rw [if_neg h1, if_neg h2, if_neg h3] at h
        exact absurd rfl h

theorem get_le (l : List Int) : (get l).1 < 18446744073709551616 ∧ (get l).2.1 ≤ 10 ∧ (get l).2.1 ≤ l.length ∧ (get l).2.2 ≤ 4 := by
  unfold get
  split
  · simp
  · split
    · simp
    · split
      · simp
      · simp only; omega

/-! ### one byte more, in the model's own words -/
theorem or_join (x c k : Nat) (hx : x < 128 ^ k) (hk : k ≤ 9) (hc : c < 128) (h9 : k = 9 → c ≤ 1) :
    bits .or .u64 (x : Int) (IntKind.u64.wrap ((c : Int) * 2 ^ (7 * k))) = ((x + 128 ^ k * c : Nat) : Int) := by
  have e : (128 : Nat) ^ k = 2 ^ (7 * k) := by rw [show (128 : Nat) = 2 ^ 7 from rfl, ← Nat.pow_mul]
  have hp : c * 2 ^ (7 * k) < 18446744073709551616 := by
    have : k = 0 ∨ k = 1 ∨ k = 2 ∨ k = 3 ∨ k = 4 ∨ k = 5 ∨ k = 6 ∨ k = 7 ∨ k = 8 ∨ k = 9 := by omega
    rcases this with rfl | rfl | rfl | rfl | rfl | rfl | rfl | rfl | rfl | rfl <;> (simp only [Nat.reduceMul, Nat.reducePow]; omega)
  have hx2 : x < 18446744073709551616 := by
    have : k = 0 ∨ k = 1 ∨ k = 2 ∨ k = 3 ∨ k = 4 ∨ k = 5 ∨ k = 6 ∨ k = 7 ∨ k = 8 ∨ k = 9 := by omega
    rcases this with rfl | rfl | rfl | rfl | rfl | rfl | rfl | rfl | rfl | rfl <;> (simp only [Nat.reducePow] at hx; omega)
  have ec : (c : Int) * 2 ^ (7 * k) = ((c * 2 ^ (7 * k) : Nat) : Int) := by push_cast; rfl
  rw [ec, IntKind.wrap_u64, Int.emod_eq_of_lt (by omega) (by omega), u64_or_nat x _ hx2 hp, Nat.or_comm, nat_join (7 * k) _ x (Nat.mul_mod_left _ _) (by rw [← e]; exact hx), e, Nat.mul_comm, Nat.add_comm]

end Vi
end Go.Proofs.YtmmffifndheafaaDoor

namespace Go.Proofs.YtmmffifndheafaaDoor
open Go.RowKit
set_option maxRecDepth 100000

/-- the bytes of numbers, one behind the other -/
def puts (zs : List Int) : List Int := zs.flatMap fun z => Vi.enc z.toNat
theorem puts_nil : puts [] = [] := rfl
theorem puts_append (a b : List Int) : puts (a ++ b) = puts a ++ puts b := by simp [puts]
theorem puts_one (z : Int) : puts [z] = Vi.enc z.toNat := by simp [puts]
theorem puts_byte (zs : List Int) : ∀ c ∈ puts zs, 0 ≤ c ∧ c ≤ 255 := by
  intro c hc
  simp only [puts, List.mem_flatMap] at hc
  obtain ⟨z, _, hc⟩ := hc
  exact Vi.enc_byte _ c hc
theorem puts_length (zs : List Int) (h : ∀ z ∈ zs, 0 ≤ z ∧ z ≤ 18446744073709551615) : (puts zs).length ≤ 10 * zs.length := by
  induction zs with
  | nil => simp [puts]
  | cons z zs ih =>
    have h1 := ih (fun x hx => h x (by simp [hx]))
    have h2 := Vi.enc_le10 (n := z.toNat) (by have := h z (by simp); omega)
    rw [show z :: zs = [z] ++ zs from rfl, puts_append, puts_one, List.length_append, List.length_append, List.length_singleton]
    omega
theorem take_more {zs : List Int} {k : Nat} {z : Int} (h : zs[k]? = some z) : zs.take (k + 1) = zs.take k ++ [z] := by
  have hk : k < zs.length := by
    rcases Nat.lt_or_ge k zs.length with h1 | h1
    · exact h1
    · rw [List.getElem?_eq_none h1] at h; simp at h
  rw [List.getElem?_eq_getElem hk] at h
  injection h with h
  rw [List.take_succ_eq_append_getElem hk, h]

theorem or128 (m : Nat) : bits .or .u8 (IntKind.u8.wrap (m : Int)) 128 = ((m % 128 + 128 : Nat) : Int) := by
  rw [IntKind.wrap_u8, show (m : Int) % 256 = ((m % 256 : Nat) : Int) by omega, show (128 : Int) = ((128 : Nat) : Int) from rfl, u8_or_nat _ _ (by omega) (by omega)]
  have h : m % 256 ||| 128 = m % 128 + 128 := by
    have h1 : ∀ i : Fin 256, i.val ||| 128 = i.val % 128 + 128 := by decide +kernel
    have := h1 ⟨m % 256, by omega⟩
    simp only at this
    omega
  rw [h]

/-- bytes that a call has made -/
def Made (w w' : World) (L : List Int) (v : Value) : Prop := w'.ownsRow w.heap.size 5 1 v L.length (L.map (Value.int .u8)) ∧ Below w.heap.size w w'
theorem Made.nil (w : World) : Made w w [] (.slice none 0 0) := ⟨World.ownsRow_nil _ _ _ _, Below.refl _ _⟩
theorem Made.slice {w w' : World} {L : List Int} {v : Value} (h : Made w w' L v) : ∃ A c, v = .slice A L.length c ∧ L.length ≤ c ∧ Nums .u8 w' w'.heap.size A L := by
  have h1 := h.1
  obtain ⟨_, h2⟩ := h1
  rcases h2 with ⟨rfl, h0⟩ | ⟨g, cap, cur, rfl, hg, hh, hn, _⟩
  · have : L = [] := List.eq_nil_of_length_eq_zero h0
    subst this
    exact ⟨none, 0, rfl, by simp, Nums.nil⟩
  · exact ⟨some ⟨g, 0, none⟩, cap, rfl, hn, Nums.of_own h.1⟩
theorem Made.app {w w1 w2 : World} {L : List Int} {v v' : Value} {x y : Int} {o : Obj} (h : Made w w1 L v) (hown : w2.ownsRow w.heap.size 5 1 v' (L.length + 1) (L.map (Value.int .u8) ++ [.int .u8 x])) (hg : (w1.alloc o).grownBy w2 v.ownBlock) (hx : x = y) : Made w w2 (L ++ [y]) v' := by
  subst hx
  refine ⟨by simpa using hown, ((h.2.alloc h.2.size o).grown hg (by have := h.2.size; simp; omega) (fun k hk => ?_))⟩
  have hv := h.1
  obtain ⟨_, h2⟩ := hv
  rcases h2 with ⟨rfl, h0⟩ | ⟨g, cap, cur, rfl, hg, hh, hn, _⟩
  · simp [Value.ownBlock] at hk
  · simp [Value.ownBlock] at hk; omega



end Go.Proofs.YtmmffifndheafaaDoor

namespace Go.Proofs.YtmmffifndheafaaDoor
open Go.RowKit Go.Deep
set_option maxRecDepth 100000

/-- block b is a lens of the bytes zs, at place p, with error e; its bytes lie in a block from lo on, below b -/
def LensAt (w : World) (lo b : Nat) (zs : List Int) (p e : Nat) : Prop :=
  ∃ A cap, w.heap[b]? = some (.cells #[.slice A zs.length cap, .int .i64 p, .int .i64 e] 63 (0, 0)) ∧ NumsIn .u8 w lo b A zs ∧ zs.length ≤ cap ∧ p ≤ zs.length ∧ lo ≤ b
section
variable {w w' : World} {lo b : Nat} {zs : List Int} {p e p' e' : Nat}
theorem LensAt.lt (h : LensAt w lo b zs p e) : b < w.heap.size := by
  obtain ⟨A, cap, hb, _⟩ := h
  exact (Array.getElem?_eq_some_iff.1 hb).1
theorem LensAt.lo_le (h : LensAt w lo b zs p e) : lo ≤ b := by
  obtain ⟨A, cap, _, _, _, _, h⟩ := h
  exact h
theorem LensAt.place (h : LensAt w lo b zs p e) : p ≤ zs.length := by
  obtain ⟨A, cap, _, _, _, h, _⟩ := h
  exact h
theorem LensAt.keeps (h : LensAt w lo b zs p e) (hk : Keeps lo (b + 1) w w') : LensAt w' lo b zs p e := by
  obtain ⟨A, cap, hb, hn, h1, h2, h3⟩ := h
  exact ⟨A, cap, (hk.2 b h3 (Nat.lt_succ_self b)).trans hb, hn.keeps ⟨hk.1, fun k h4 h5 => hk.2 k h4 (by omega)⟩, h1, h2, h3⟩
theorem LensAt.below (h : LensAt w lo b zs p e) (hb : Below w.heap.size w w') : LensAt w' lo b zs p e := by
  have hl := h.lt
  exact h.keeps ⟨hb.size, fun k _ h2 => hb.block k (by omega)⟩
theorem LensAt.off {S : Nat → Prop} (h : LensAt w lo b zs p e) (hf : Off S w w') (hS : ∀ k, lo ≤ k → k ≤ b → ¬ S k) : LensAt w' lo b zs p e := by
  have hl := h.lt
  exact h.keeps ⟨hf.size, fun k h1 h2 => hf.block k (by omega) (hS k h1 (by omega))⟩
theorem LensAt.open (h : LensAt w lo b zs p e) : ∃ A cap, w.heap[b]? = some (.cells #[.slice A zs.length cap, .int .i64 p, .int .i64 e] 63 (0, 0)) ∧ w.cell? ⟨b, 0, none⟩ = some (.slice A zs.length cap) ∧ w.cell? ⟨b, 1, none⟩ = some (.int .i64 p) ∧ w.cell? ⟨b, 2, none⟩ = some (.int .i64 e) ∧
    w.frozen? ⟨b, 1, none⟩ = false ∧ w.frozen? ⟨b, 2, none⟩ = false ∧ NumsIn .u8 w lo b A zs ∧ zs.length ≤ cap ∧ p ≤ zs.length ∧ lo ≤ b := by
  obtain ⟨A, cap, hb, hn, h1, h2, h3⟩ := h
  exact ⟨A, cap, hb, by simp [World.cell?, hb], by simp [World.cell?, hb], by simp [World.cell?, hb], by simp [World.frozen?, hb], by simp [World.frozen?, hb], hn, h1, h2, h3⟩
/-- its place moves -/
theorem LensAt.move (h : LensAt w lo b zs p e) (hp : p' ≤ zs.length) : LensAt (w.setCell ⟨b, 1, none⟩ (.int .i64 p')) lo b zs p' e := by
  obtain ⟨A, cap, hb, hn, h1, h2, h3⟩ := h
  refine ⟨A, cap, by rw [setCell_at hb]; simp, hn.keeps ⟨by simp [World.setCell], fun k h4 h5 => Below.heap_setCell _ _ _ _ (by simp; omega)⟩, h1, hp, h3⟩
/-- it has an error -/
theorem LensAt.fail (h : LensAt w lo b zs p e) (e' : Nat) : LensAt (w.setCell ⟨b, 2, none⟩ (.int .i64 e')) lo b zs p e' := by
  obtain ⟨A, cap, hb, hn, h1, h2, h3⟩ := h
  refine ⟨A, cap, by rw [setCell_at hb]; simp, hn.keeps ⟨by simp [World.setCell], fun k h4 h5 => Below.heap_setCell _ _ _ _ (by simp; omega)⟩, h1, h2, h3⟩
end

/-- slices.Clone of bytes -/
theorem cloneK_any (a : Option Addr) (n cap : Nat) (zs : List Int) (w : World) (hn : zs.length = n) (hl : n ≤ 1000000000) (h1 : Nums .u8 w w.heap.size a zs) :
    Calls Tryd.prog 29 #[.slice a n cap] w fun e w' => ∃ v, e = .returned v ∧ MadeK 5 .u8 w w' zs v := by
  subst hn
  obtain ⟨i0, hi, hz0, hz1, hz2⟩ := info_parts byteInfo
  cases a with
  | none =>
    have : zs = [] := by
      apply Classical.byContradiction
      intro hn
      obtain ⟨b, off, e, _⟩ := h1 hn
      cases e
    subst this
    have hq := fun w => Lib.run_eql_slice_nil (P := Tryd.prog) w 25 5 none 0 cap 0 0 Tryd.underlying25
    go_enter Tryd.func29, Tryd.ntmps29
    go_wp2
    go_ret
    exact ⟨_, rfl, MadeK.nil _ _ (Below.refl _ _)⟩
  | some x =>
    have hq := fun w => Lib.run_eql_slice_nil (P := Tryd.prog) w 25 5 (some x) zs.length cap 0 0 Tryd.underlying25
    have hnews : ∀ j u, (zs.map (Value.int .u8))[j]? = some u → (w.alloc (.cells #[] 5)).cell? (x.add j) = some u := by
      intro j u hj
      rw [List.getElem?_map] at hj
      cases hc : zs[j]? with
      | none => rw [hc] at hj; simp at hj
      | some c =>
        rw [hc] at hj
        simp only [Option.map_some, Option.some.injEq] at hj
        subst hj
        obtain ⟨b, off, e, hb, hcell⟩ := h1.open hc
        injection e with e
        subst e
        have := (World.cell?_alloc_lt w (.cells #[] 5) ⟨b, off + j, none⟩ hb).trans hcell
        by_cases h0 : j = 0
        · subst h0; simpa [Addr.add] using this
        · simpa [Addr.add, h0] using this
    have hown : (w.alloc (.cells #[] 5)).ownsRow w.heap.size 5 1 (.slice (some ⟨w.heap.size, 0, none⟩) 0 0) 0 [] :=
      ⟨rfl, .inr ⟨w.heap.size, 0, #[], rfl, Nat.le_refl _, heap_alloc_new w _, Nat.le_refl _, by simp, rfl, rfl⟩⟩
    go_enter Tryd.func29, Tryd.ntmps29
    go_wp2_with (at_builtin; refine wpList_append_own _ rfl (.tmp 5) (.tmp 6) 25 rfl w.heap.size 5 i0 (.int .u8 0) 1 1 Tryd.underlying25 hi hz0 hz1 hz2 rfl (by decide) _ _ _ rfl hown x zs.length cap (zs.map (Value.int .u8)) rfl (by simp) hnews ?_ ?_ ?_ ?_ ?_; (intro u hu; simp at hu; obtain ⟨c, _, rfl⟩ := hu; rfl); (unfold maxLen; omega); omega; (simp); intro v' w1 hown1 hgrow1 _)
    go_ret
    refine ⟨_, rfl, by simpa using hown1, ?_⟩
    exact ((Below.refl w.heap.size w).alloc (Nat.le_refl _) _).grown hgrow1 (by simp) (fun g hk => by have hk : some w.heap.size = some g := hk; injection hk with hk; omega)

theorem lens_new (w w1 : World) (zs : List Int) (A : Option Addr) (c : Nat) (h : MadeK 5 .u8 w w1 zs (.slice A zs.length c)) (hc : zs.length ≤ c) :
    LensAt (w1.alloc (.cells #[.slice A zs.length c, .int .i64 0, .int .i64 0] 63)) w.heap.size w1.heap.size zs 0 0 :=
  ⟨A, c, heap_alloc_new w1 _, h.numsIn.keeps (Keeps.of_below ((Below.refl _ w1).alloc (Nat.le_refl _) _)), hc, Nat.zero_le _, h.2.size⟩
theorem lnew_any (a : Option Addr) (n cap : Nat) (zs : List Int) (w : World) (hn : zs.length = n) (hl : n ≤ 1000000000) (h1 : Nums .u8 w w.heap.size a zs) :
    Calls Tryd.prog 22 #[.slice a n cap] w fun e w' => ∃ b, e = .returned (.pointer (some ⟨b, 0, none⟩)) ∧ LensAt w' w.heap.size b zs 0 0 ∧ Below w.heap.size w w' := by
  subst hn
  have HC := cloneK_any a _ cap zs w rfl hl h1
  clear h1
  go_enter Tryd.func22, Tryd.ntmps22
  go_wp2_with (go_at_call 29; refine HC.mono ?_; rintro e w1 ⟨v, rfl, hm⟩; obtain ⟨A, c, rfl, hc, _⟩ := hm.slice; have HM := Lib.hid hm; clear hm)
  go_ret
  exact ⟨_, rfl, lens_new w w1 zs A c HM.out hc, HM.out.2.alloc HM.out.2.size _⟩

section
variable (lo b : Nat) (zs : List Int) (p e : Nat) (w : World)
theorem lerr_any (h : LensAt w lo b zs p e) : Calls Tryd.prog 45 #[.pointer (some ⟨b, 0, none⟩)] w fun r w' => r = .returned (.int .i64 e) ∧ w = w' := by
  obtain ⟨A, cap, _, c0, c1, c2, _⟩ := h.open
  clear h
  go_enter Tryd.func45, Tryd.ntmps45
  go_wp2
  go_ret
  exact ⟨rfl, rfl⟩
/-- what End tells -/
def endOf (zs : List Int) (p e : Nat) : Nat := if e ≠ 0 then e else if p < zs.length then 3 else 0
end

theorem lerr_nil (w : World) : Calls Tryd.prog 45 #[.pointer none] w fun r w' => r = .returned (.int .i64 1) ∧ w = w' := by
  go_enter Tryd.func45, Tryd.ntmps45
  go_wp2
  go_ret
  exact ⟨rfl, rfl⟩
/-- the first n bytes -/
theorem part_ok (a : Option Addr) (len cap : Nat) (n : Int) (w : World) (h0 : 0 ≤ n) (h1 : n ≤ len) (hc : len ≤ cap) :
    Calls Tryd.prog 38 #[.slice a len cap, .int .i64 n] w fun e w' => e = .returned (.tuple #[.slice a n.toNat n.toNat, .int .i64 0]) ∧ w = w' := by
  have h2 : ¬ (len : Int) < n := by omega
  have h3 : ¬ n < 0 := by omega
  have h4 : n ≤ (cap : Int) := by omega
  go_enter Tryd.func38, Tryd.ntmps38
  go_wp2
  go_ret2
  exact ⟨by simp, rfl⟩
theorem part_neg (a : Option Addr) (len cap : Nat) (n : Int) (w : World) (h0 : n < 0) :
    Calls Tryd.prog 38 #[.slice a len cap, .int .i64 n] w fun e w' => e = .returned (.tuple #[.slice none 0 0, .int .i64 5]) ∧ w = w' := by
  go_enter Tryd.func38, Tryd.ntmps38
  go_wp2
  go_ret2
  exact ⟨rfl, rfl⟩
theorem part_more (a : Option Addr) (len cap : Nat) (n : Int) (w : World) (h1 : (len : Int) < n) :
    Calls Tryd.prog 38 #[.slice a len cap, .int .i64 n] w fun e w' => e = .returned (.tuple #[.slice none 0 0, .int .i64 4]) ∧ w = w' := by
  have h3 : ¬ n < 0 := by omega
  go_enter Tryd.func38, Tryd.ntmps38
  go_wp2
  go_ret2
  exact ⟨rfl, rfl⟩
end Go.Proofs.YtmmffifndheafaaDoor

namespace Go.Proofs.YtmmffifndheafaaDoor
open Go.RowKit
set_option maxRecDepth 100000
section
variable (lo b : Nat) (zs : List Int) (p e : Nat) (w : World)
end
end Go.Proofs.YtmmffifndheafaaDoor

namespace Go.Proofs.YtmmffifndheafaaDoor
open Go.RowKit
set_option maxRecDepth 100000
section
variable (lo b : Nat) (zs : List Int) (p e : Nat) (w : World)
end
end Go.Proofs.YtmmffifndheafaaDoor

namespace Go.Proofs.YtmmffifndheafaaDoor
open Go.RowKit
set_option maxRecDepth 100000
section
variable (lo b : Nat) (zs : List Int) (p e : Nat) (w : World)
theorem rdW_err (fv : Value) (h : LensAt w lo b zs p e) (he : e ≠ 0) :
    Calls Tryd.prog 36 #[.pointer (some ⟨b, 0, none⟩), fv] w fun r w' => r = .returned (.int .u32 0) ∧ w = w' := by
  have HE := lerr_any lo b zs p e w h
  have h3 : ¬ (e : Int) = 0 := by omega
  have h4 : ((e : Int) != 0) = true := by simp; omega
  clear h he
  go_enter Tryd.func36, Tryd.ntmps36
  go_wp2_with (go_at_call 45; refine HE.mono ?_; rintro r w2 ⟨rfl, rfl⟩)
  go_ret
  exact ⟨rfl, rfl⟩
theorem rdW_nil (fv : Value) : Calls Tryd.prog 36 #[.pointer none, fv] w fun r w' => r = .returned (.int .u32 0) ∧ w = w' := by
  go_enter Tryd.func36, Tryd.ntmps36
  go_wp2_with (go_at_call 45; refine (lerr_nil _).mono ?_; rintro r w2 ⟨rfl, rfl⟩)
  go_ret
  exact ⟨rfl, rfl⟩
set_option maxHeartbeats 2000000 in
theorem rdW_ok (c0 : Nat) (h : LensAt w lo b zs p 0) (hl : zs.length ≤ 1000000000) (size : Nat) (hs : p + size ≤ zs.length) (K : Value → World → Prop)
    (HC : ∀ n A cap, Nums .u8 (w.drewN n) b A (zs.drop p) → zs.length - p ≤ cap → Calls Tryd.prog 37 #[.slice A (zs.length - p) cap, .pointer (some ⟨c0, 0, none⟩)] (w.drewN n) fun r w' => ∃ v, r = .returned (.tuple #[v, .int .i64 size, .int .i64 0]) ∧ Below w.heap.size w w' ∧ K v w') :
    Calls Tryd.prog 36 #[.pointer (some ⟨b, 0, none⟩), .func (.func 37) #[] #[.pointer (some ⟨c0, 0, none⟩)]] w fun r w' => ∃ v w1, r = .returned v ∧ K v w1 ∧ Below w.heap.size w w1 ∧ w' = w1.setCell ⟨b, 1, none⟩ (.int .i64 (p + size)) := by
  have HE := lerr_any lo b zs p 0 w h
  have HW := Lib.hid h
  obtain ⟨A, cap, hb, c0, c1, c2, f1, f2, hn, hlc, hp, hlo⟩ := h.open
  have hnd := hn.nums.drop (i := p) hlc
  have hsz := h.lt
  have HB : Hid (∀ w1, Below w.heap.size w w1 → w1.cell? ⟨b, 1, none⟩ = some (.int .i64 p) ∧ w1.frozen? ⟨b, 1, none⟩ = false) := fun w1 hb1 => by
    obtain ⟨_, _, _, _, c1, c2, f1, f2, _⟩ := (HW.out.below hb1).open
    exact ⟨c1, f1⟩
  have hp1 : (p : Int) ≤ (zs.length : Int) := by omega
  have hp2 : (zs.length : Int) ≤ (cap : Int) := by omega
  obtain ⟨A', hA'⟩ : ∃ A', (if cap = p then A else Option.map (fun x => x.add p) A) = A' := ⟨_, rfl⟩
  rw [hA'] at hnd
  have HC1 := HC 1 A' (cap - p) (hnd.kept fun _ _ => rfl) (by omega)
  clear h hn HC
  go_enter Tryd.func36, Tryd.ntmps36
  go_wp2_with (go_at_call 45; refine HE.mono ?_; rintro r w2 ⟨rfl, rfl⟩)
  go_region_with (go_at_call 37; refine HC1.mono ?_; rintro r w3 ⟨v, rfl, hb3, hK⟩; obtain ⟨d1, g1⟩ := HB.out _ hb3)
  all_goals go_wp2
  all_goals go_ret
  all_goals exact ⟨_, _, rfl, hK, hb3, rfl⟩
set_option maxHeartbeats 2000000 in
theorem rdW_bad (c0 : Nat) (h : LensAt w lo b zs p 0) (_hl : zs.length ≤ 1000000000) (err : Nat) (he : err ≠ 0) (K : Value → World → Prop)
    (HC : ∀ n A cap, Nums .u8 (w.drewN n) b A (zs.drop p) → zs.length - p ≤ cap → Calls Tryd.prog 37 #[.slice A (zs.length - p) cap, .pointer (some ⟨c0, 0, none⟩)] (w.drewN n) fun r w' => ∃ v s, r = .returned (.tuple #[v, .int .i64 s, .int .i64 err]) ∧ Below w.heap.size w w' ∧ K v w') :
    Calls Tryd.prog 36 #[.pointer (some ⟨b, 0, none⟩), .func (.func 37) #[] #[.pointer (some ⟨c0, 0, none⟩)]] w fun r w' => r = .returned (.int .u32 0) ∧ ∃ v w1, K v w1 ∧ Below w.heap.size w w1 ∧ w' = w1.setCell ⟨b, 2, none⟩ (.int .i64 err) := by
  have HE := lerr_any lo b zs p 0 w h
  have HW := Lib.hid h
  obtain ⟨A, cap, hb, c0, c1, c2, f1, f2, hn, hlc, hp, hlo⟩ := h.open
  have hnd := hn.nums.drop (i := p) hlc
  have hsz := h.lt
  have HB : Hid (∀ w1, Below w.heap.size w w1 → w1.cell? ⟨b, 2, none⟩ = some (.int .i64 (0 : Nat)) ∧ w1.frozen? ⟨b, 2, none⟩ = false) := fun w1 hb1 => by
    obtain ⟨_, _, _, _, c1, c2, f1, f2, _⟩ := (HW.out.below hb1).open
    exact ⟨c2, f2⟩
  have hp1 : (p : Int) ≤ (zs.length : Int) := by omega
  have hp2 : (zs.length : Int) ≤ (cap : Int) := by omega
  obtain ⟨A', hA'⟩ : ∃ A', (if cap = p then A else Option.map (fun x => x.add p) A) = A' := ⟨_, rfl⟩
  rw [hA'] at hnd
  have HC1 := HC 1 A' (cap - p) (hnd.kept fun _ _ => rfl) (by omega)
  have h3 : ¬ (err : Int) = 0 := by omega
  have h4 : ((err : Int) != 0) = true := by simp; omega
  clear h hn HC he
  go_enter Tryd.func36, Tryd.ntmps36
  go_wp2_with (go_at_call 45; refine HE.mono ?_; rintro r w2 ⟨rfl, rfl⟩)
  go_region_with (go_at_call 37; refine HC1.mono ?_; rintro r w3 ⟨v, s, rfl, hb3, hK⟩; obtain ⟨d1, g1⟩ := HB.out _ hb3)
  all_goals go_wp2
  all_goals go_ret
  all_goals exact ⟨rfl, _, _, hK, hb3, rfl⟩
end
end Go.Proofs.YtmmffifndheafaaDoor

namespace Go.Proofs.YtmmffifndheafaaDoor
open Go.RowKit Go.Shelf
set_option maxRecDepth 100000
attribute [local go_sem] Oper.semAt_some

/-- a place and a byte, as the closure hands them on -/
abbrev PB := { x : Nat × Int // x.1 ≤ 1000000 ∧ 0 ≤ x.2 ∧ x.2 ≤ 255 }
def bytesOf (l : List PB) : List Int := l.map fun x => x.1.2
theorem bytesOf_append (a b : List PB) : bytesOf (a ++ b) = bytesOf a ++ bytesOf b := by simp [bytesOf]
theorem bytesOf_length (a : List PB) : (bytesOf a).length = a.length := by simp [bytesOf]
theorem back_more {zs : List Int} {k : Nat} {c : Int} (h : zs[k]? = some c) : (zs.drop k).reverse = (zs.drop (k + 1)).reverse ++ [c] := by
  have hk : k < zs.length := (List.getElem?_eq_some_iff.1 h).1
  rw [List.getElem?_eq_getElem hk] at h
  injection h with h
  rw [List.drop_eq_getElem_cons hk, List.reverse_cons, h]

theorem NumsS.kept {k : IntKind} {S : Nat → Prop} {A B : World} {a : Option Addr} {zs : List Int} (h : NumsS k A S a zs) (hk : KeepS S A B) : NumsS k B S a zs := fun hn => by
  obtain ⟨b, off, e, h1, hc⟩ := h hn
  exact ⟨b, off, e, h1, fun j c hj => (hk.cell (p := ⟨b, off + j, none⟩) h1).trans (hc j c hj)⟩
theorem NumsS.open {k : IntKind} {S : Nat → Prop} {w : World} {a : Option Addr} {zs : List Int} (h : NumsS k w S a zs) {j : Nat} {c : Int} (hj : zs[j]? = some c) : ∃ b off, a = some ⟨b, off, none⟩ ∧ S b ∧ w.cell? ⟨b, off + j, none⟩ = some (.int k c) := by
  obtain ⟨b, off, e, hb, hc⟩ := h (by intro e; subst e; simp at hj)
  exact ⟨b, off, e, hb, hc j c hj⟩
theorem Nums.toS {k : IntKind} {S : Nat → Prop} {w : World} {B : Nat} {a : Option Addr} {zs : List Int} (h : Nums k w B a zs) (hS : ∀ b, b < B → S b) : NumsS k w S a zs := fun hn => by
  obtain ⟨b, off, e, hb, hc⟩ := h hn
  exact ⟨b, off, e, hS b hb, hc⟩

set_option maxHeartbeats 2000000 in
theorem back_in (n : Nat) (hn : 1 ≤ n) (l Bs c : Nat) (S : Nat → Prop) (A : Option Addr) (zs : List Int) (hl : zs.length ≤ 1000000) (hz : ∀ c ∈ zs, 0 ≤ c ∧ c ≤ 255) (hS : S Bs) (J Jx : List PB → World → Prop)
    (hY : ∀ pre x W, J pre W → pre.length < zs.length → YieldAt Fence.wide (n - 1) Tryd.prog l #[.int .i64 (x.1.1 : Int), .int .u8 x.1.2] W fun e W' =>
      (e = .returned (.bool true) ∧ J (pre ++ [x]) W' ∧ KeepS S W W') ∨ (e = .returned (.bool false) ∧ Jx (pre ++ [x]) W'))
    (W : World) (hBs : W.cell? ⟨Bs, 0, none⟩ = some (.slice A zs.length c)) (hN : NumsS .u8 W S A zs) (h0 : J [] W) :
    CallsIn Fence.wide n Tryd.prog 46 #[.func (.yield l) #[] #[], .pointer (some ⟨Bs, 0, none⟩)] W fun e W' => (∃ v, e = .returned v) ∧
      ((∃ ys, bytesOf ys = zs.reverse ∧ J ys W') ∨ (∃ pre, (bytesOf pre <+: zs.reverse ∧ pre ≠ []) ∧ Jx pre W')) := by
  refine callsIn_of_wp Tryd.func46 rfl trivial ?_ rfl
  simp only [Tryd.ntmps46, List.size_toArray, List.length_cons, List.length_nil, Nat.reduceAdd, Nat.reduceSub, Array.replicate_succ, Array.replicate_zero, List.push_toArray, List.append_toArray, List.nil_append, List.cons_append]
  gi_wp2
  gi_loopw [3] (fun i wr => ∃ (k : Nat) (z : Int) (pre : List PB), k ≤ zs.length ∧ i = .int .i64 z ∧ z = (k : Int) - 1 ∧ bytesOf pre = (zs.drop k).reverse ∧ J pre wr ∧ KeepS S W wr)
    (fun i _ => (intOf i + 1).toNat)
  case atStart => exact ⟨zs.length, _, [], Nat.le_refl _, rfl, by first | rfl | go_num, by simp [bytesOf], h0, KeepS.refl _ _⟩
  case round =>
    obtain ⟨k, z, pre, hk, rfl, hzk, hpre, hJ, hkp⟩ := hrel
    have hbox := (hkp.cell (p := ⟨Bs, 0, none⟩) hS).trans hBs
    have hNr := hN.kept hkp
    cases k with
    | zero =>
      have hz0 : ¬ 0 ≤ z := by omega
      clear hzk
      gi_wp2
      go_end0
      exact ⟨⟨_, rfl⟩, .inl ⟨_, by simpa using hpre, hJ⟩⟩
    | succ k =>
      obtain rfl : z = (k : Int) := by omega
      obtain ⟨c1, hc⟩ : ∃ c, zs[k]? = some c := ⟨_, List.getElem?_eq_getElem (by omega)⟩
      obtain ⟨b1, o1, rfl, hb1, hc1⟩ := hNr.open hc
      have hcb := hz c1 (List.mem_of_getElem? hc)
      have hkl : (k : Int) < (zs.length : Int) := by omega
      have hx : k ≤ 1000000 ∧ 0 ≤ c1 ∧ c1 ≤ 255 := ⟨by omega, hcb.1, hcb.2⟩
      have hcnt : pre.length < zs.length := by
        have h2 := congrArg List.length hpre
        rw [bytesOf_length, List.length_reverse, List.length_drop] at h2
        omega
      have HM : Hid (bytesOf (pre ++ [(⟨(k, c1), hx⟩ : PB)]) = (zs.drop k).reverse) := by
        show _ = _
        rw [bytesOf_append, hpre, back_more hc]; rfl
      have HP : Hid (bytesOf (pre ++ [(⟨(k, c1), hx⟩ : PB)]) <+: zs.reverse ∧ pre ++ [(⟨(k, c1), hx⟩ : PB)] ≠ []) :=
        ⟨by rw [HM.out]; exact ⟨(zs.take k).reverse, by rw [← List.reverse_append, List.take_append_drop]⟩, by simp⟩
      obtain ⟨fn, tmps, assign, body, hy, hR⟩ := hY pre ⟨(k, c1), hx⟩ wr hJ hcnt
      dsimp only at hy
      clear hpre hzk hc hz
      gi_wp2
      refine hR.mono ?_
      rintro e W3 (⟨rfl, hJ3, hk3⟩ | ⟨rfl, hJx3⟩)
      · gi_wp2
        go_roundw
        case rel => exact ⟨k, _, _, by omega, rfl, by first | rfl | go_num, HM.out, hJ3, hkp.trans hk3⟩
        case measure => simp [intOf]
      · gi_wp2
        refine bodyPost_ret (results_none rfl _ _ _) rfl ?_
        exact ⟨⟨_, rfl⟩, .inr ⟨_, HP.out, hJx3⟩⟩

theorem back_stops (n : Nat) (hn : 1 ≤ n) (S : Nat → Prop) (w : World) (zs : List Int) (Bs c : Nat) (A : Option Addr) (hl : zs.length ≤ 1000000) (hz : ∀ c ∈ zs, 0 ≤ c ∧ c ≤ 255) (hS : ∀ k, S k → k < w.heap.size) (hB : S Bs) (hbox : w.cell? ⟨Bs, 0, none⟩ = some (.slice A zs.length c)) (hnum : NumsS .u8 w S A zs) :
    SeqStopsK Fence.wide n Tryd.prog 46 #[.pointer (some ⟨Bs, 0, none⟩)] (fun x : PB => #[Value.int .i64 (x.1.1 : Int), Value.int .u8 x.1.2]) (KeepS S) (fun ys => bytesOf ys = zs.reverse) (fun pre => bytesOf pre <+: zs.reverse ∧ pre ≠ []) zs.length w := fun l J Jx W hW _ _ hY h0 =>
  back_in n hn l Bs c S A zs hl hz hB J Jx hY W ((hW.cell (p := ⟨Bs, 0, none⟩) (hS Bs hB)).trans hbox) (hnum.kept (KeepS.of_below hW hS)) h0
theorem kept_t {S : Nat → Prop} {A B C : World} (h : KeepS S A B) (k : KeepS S B C) : KeepS S A C := h.trans k
theorem kept_b {S : Nat → Prop} {w : World} (hS : ∀ k, S k → k < w.heap.size) (W : World) (l : Nat) (o o' : Obj) (hl : w.heap.size ≤ l) (_ho : W.heap[l]? = some o) (_h1 : o.isCells = false) (_h2 : o.isWalk = false) : KeepS S W (W.putObj l o') := by
  refine ⟨by simp [World.putObj], fun k h2 => ?_⟩
  have := hS k h2
  simp only [World.putObj]
  rw [Array.getElem?_setIfInBounds]
  rw [if_neg (by omega)]
theorem kept_set {S : Nat → Prop} {W W' : World} {C : Nat} (h : KeepS S W W') (hC : ¬ S C) (o : Nat) (v : Value) : KeepS S W (W'.setCell ⟨C, o, none⟩ v) :=
  h.trans ⟨by simp [World.setCell], fun k h1 => Below.heap_setCell W' ⟨C, o, none⟩ v k (fun e => hC (by subst e; exact h1))⟩

/-- slices.Backward -/
theorem back_any (a : Option Addr) (n cap : Nat) (w : World) :
    Calls Tryd.prog 39 #[.slice a n cap] w fun e w' => e = .returned (.func (.func 46) #[] #[.pointer (some ⟨w.heap.size, 0, none⟩)]) ∧ w' = w.alloc (.cells #[.slice a n cap] 25) := by
  go_enter Tryd.func39, Tryd.ntmps39
  go_wp2
  go_ret
  exact ⟨rfl, rfl⟩
end Go.Proofs.YtmmffifndheafaaDoor

namespace Go.Proofs.YtmmffifndheafaaDoor
open Go.RowKit
set_option maxRecDepth 100000

/-- what Get answers -/
def GetR (r : Nat × Nat × Nat) (e : Ending) : Prop := e = .returned (.tuple #[.int .u64 r.1, .int .i64 r.2.1, .int .i64 r.2.2])
theorem GetR.of {r : Nat × Nat × Nat} {a b c : Int} (ha : a = r.1) (hb : b = r.2.1) (hc : c = r.2.2) : GetR r (.returned (.tuple #[.int .u64 a, .int .i64 b, .int .i64 c])) := by
  subst ha hb hc; rfl

theorem split_at {zs p r : List Int} {k : Nat} {c : Int} (hs : zs = p ++ r) (hp : p.length = k) (hc : zs[k]? = some c) : ∃ r', r = c :: r' ∧ zs = (p ++ [c]) ++ r' := by
  subst hs hp
  rw [List.getElem?_append_right (Nat.le_refl _), Nat.sub_self] at hc
  cases r with
  | nil => simp at hc
  | cons d r => simp at hc; subst hc; exact ⟨r, rfl, by simp⟩

/-- the bytes p have come, all of them high -/
def Come (zs : List Int) (k : Nat) (X : Int) : Prop := ∃ p r, zs = p ++ r ∧ p.length = k ∧ (∀ c ∈ p, 128 ≤ c) ∧ X = Vi.val p
theorem come_nil (zs : List Int) : Come zs 0 0 := ⟨[], zs, rfl, rfl, by simp, rfl⟩
theorem come_more {zs : List Int} {k : Nat} {X c : Int} (hz : ∀ c ∈ zs, 0 ≤ c ∧ c ≤ 255) (h : Come zs k X) (hk : k ≤ 8) (hc : zs[k]? = some c) (h1 : 128 ≤ c) : Come zs (k + 1) (bits .or .u64 X (IntKind.u64.wrap (c % 128 * 2 ^ (7 * k)))) := by
  obtain ⟨p, r, hs, hp, ha, rfl⟩ := h
  obtain ⟨r', rfl, hs'⟩ := split_at hs hp hc
  have hv := Vi.val_lt p
  have hcb := hz c (by rw [hs]; simp)
  refine ⟨p ++ [c], r', hs', by simp [hp], ?_, ?_⟩
  · intro d hd
    simp only [List.mem_append, List.mem_singleton] at hd
    rcases hd with hd | rfl
    · exact ha d hd
    · exact h1
  · have hj := Vi.or_join (Vi.val p) (c.toNat % 128) k (by rw [← hp]; exact hv) (by omega) (by omega) (by omega)
    rw [show ((c.toNat % 128 : Nat) : Int) = c % 128 by omega] at hj
    rw [hj, Vi.val_append, hp]
    simp [Vi.val]
/-- the last byte -/
theorem come_last {zs : List Int} {k : Nat} {X c : Int} (hz : ∀ c ∈ zs, 0 ≤ c ∧ c ≤ 255) (h : Come zs k X) (hk : k ≤ 9) (hc : zs[k]? = some c) (h1 : c < 128) (h9 : k = 9 → c ≤ 1) (h0 : k = 0 ∨ c ≠ 0) :
    ((Vi.get zs).1 : Int) = bits .or .u64 X (IntKind.u64.wrap (c % 128 * 2 ^ (7 * k))) ∧ (Vi.get zs).2.1 = k + 1 ∧ (Vi.get zs).2.2 = 0 := by
  obtain ⟨p, r, hs, hp, ha, rfl⟩ := h
  obtain ⟨r', rfl, hs'⟩ := split_at hs hp hc
  have hv := Vi.val_lt p
  have hcb := hz c (by rw [hs]; simp)
  have hj := Vi.or_join (Vi.val p) (c.toNat % 128) k (by rw [← hp]; exact hv) hk (by omega) (by omega)
  rw [show ((c.toNat % 128 : Nat) : Int) = c % 128 by omega] at hj
  have hva : Vi.val (p ++ [c]) = Vi.val p + 128 ^ k * (c.toNat % 128) := by rw [Vi.val_append, hp]; simp [Vi.val]
  have hlt : Vi.val (p ++ [c]) < 18446744073709551616 := by
    by_cases h : k = 9
    · have := h9 h
      subst h
      rw [hp] at hv
      rw [hva]
      have e9 : (128 : Nat) ^ 9 = 9223372036854775808 := by decide
      rw [e9] at hv ⊢
      omega
    · have hv2 := Vi.val_lt (p ++ [c])
      have hle : (p ++ [c]).length ≤ 9 := by simp; omega
      have h9' : 128 ^ (p ++ [c]).length ≤ 128 ^ 9 := Nat.pow_le_pow_right (by decide) hle
      have e9 : (128 : Nat) ^ 9 = 9223372036854775808 := by decide
      omega
  rw [hs, Vi.get_ok ha (by omega) h1 hlt (by omega), hj, hva, hp]
  exact ⟨rfl, rfl, rfl⟩
theorem come_bad {zs : List Int} {k : Nat} {X c : Int} (h : Come zs k X) (hk : k ≤ 9) (hc : zs[k]? = some c) (h1 : c < 128) (hb : (k = 9 ∧ 1 < c) ∨ (0 < k ∧ c = 0)) : Vi.get zs = (0, 0, 3) := by
  obtain ⟨p, r, hs, hp, ha, rfl⟩ := h
  obtain ⟨r', rfl, hs'⟩ := split_at hs hp hc
  rw [hs]
  refine Vi.get_bad ha (by omega) h1 ?_
  rcases hb with ⟨h9, hc1⟩ | ⟨hk0, hc0⟩
  · left
    rw [Vi.val_append, hp, h9]
    have e9 : (128 : Nat) ^ 9 = 9223372036854775808 := by decide
    rw [e9]
    simp only [Vi.val]
    omega
  · exact .inr ⟨by omega, hc0⟩
theorem come_long {zs : List Int} {X c : Int} (h : Come zs 9 X) (hc : zs[9]? = some c) (h1 : 128 ≤ c) : Vi.get zs = (0, 0, 3) := by
  obtain ⟨p, r, hs, hp, ha, rfl⟩ := h
  obtain ⟨r', rfl, hs'⟩ := split_at hs hp hc
  rw [hs']
  refine Vi.get_long ?_ (by simp [hp])
  intro d hd
  simp only [List.mem_append, List.mem_singleton] at hd
  rcases hd with hd | rfl
  · exact ha d hd
  · exact h1
theorem come_end {zs : List Int} {X : Int} {k : Nat} (h : Come zs k X) (hk : k ≤ 9) (hl : k = zs.length) : Vi.get zs = (0, 0, 4) := by
  obtain ⟨p, r, hs, hp, ha, rfl⟩ := h
  have : r = [] := by
    apply List.eq_nil_of_length_eq_zero
    have := congrArg List.length hs
    simp at this; omega
  subst this
  rw [List.append_nil] at hs
  subst hs
  exact Vi.get_end ha (by omega)

end Go.Proofs.YtmmffifndheafaaDoor

namespace Go.Proofs.YtmmffifndheafaaDoor
open Go.RowKit

/-- bytes -/
def Bytes (zs : List Int) : Prop := ∀ z ∈ zs, 0 ≤ z ∧ z < 256
theorem Bytes.take {zs : List Int} (h : Bytes zs) (n : Nat) : Bytes (zs.take n) := fun z hz => h z (List.mem_of_mem_take hz)
theorem Bytes.drop {zs : List Int} (h : Bytes zs) (n : Nat) : Bytes (zs.drop n) := fun z hz => h z (List.mem_of_mem_drop hz)
theorem Bytes.append {x y : List Int} (hx : Bytes x) (hy : Bytes y) : Bytes (x ++ y) := fun z hz => by
  rcases List.mem_append.1 hz with h | h
  · exact hx z h
  · exact hy z h
theorem Bytes.lt {zs : List Int} (h : Bytes zs) : ∀ z ∈ zs, z < 256 := fun z hz => (h z hz).2
theorem bytes_of {es : List Int} (h : ∀ n ∈ es, (Lit.int .u8 n).wf = true) : Bytes es := fun z hz => by
  have := bounds_u8 (h z hz)
  omega
theorem ret_int {k : IntKind} {a b : Int} (h : a = b) : Ending.returned (.int k a) = .returned (.int k b) := by rw [h]
end Go.Proofs.YtmmffifndheafaaDoor

namespace Go.Proofs.YtmmffifndheafaaDoor
open Go.RowKit
set_option maxRecDepth 100000


theorem u64_not (y : Int) (h0 : 0 ≤ y) (h1 : y ≤ 18446744073709551615) : bits .xor .u64 18446744073709551615 y = 18446744073709551615 - y := by
  obtain ⟨m, rfl⟩ := Int.eq_ofNat_of_zero_le h0
  have h := u64_xor_nat 18446744073709551615 m (by omega) (by omega)
  have e : 18446744073709551615 ^^^ m = 18446744073709551615 - m := by
    have hx := congrArg BitVec.toNat (BitVec.xor_allOnes (x := BitVec.ofNat 64 m))
    rw [BitVec.toNat_xor, BitVec.toNat_not, BitVec.toNat_allOnes, BitVec.toNat_ofNat, Nat.mod_eq_of_lt (by omega)] at hx
    rw [Nat.xor_comm]
    exact hx
  rw [e] at h
  rw [show (18446744073709551615 : Int) = ((18446744073709551615 : Nat) : Int) from rfl, h]
  omega

theorem zig_val (n : Int) (h0 : n < 0) (h1 : -9223372036854775808 ≤ n) : bits .xor .u64 IntKind.u64.max (IntKind.u64.wrap (IntKind.u64.wrap n * 2)) = -2 * n - 1 := by
  rw [show IntKind.u64.max = 18446744073709551615 from rfl, u64_not _ (by rw [IntKind.wrap_u64]; omega) (by rw [IntKind.wrap_u64]; omega), IntKind.wrap_u64, IntKind.wrap_u64]
  omega

end Go.Proofs.YtmmffifndheafaaDoor

namespace Go.Proofs.YtmmffifndheafaaDoor
open Go.RowKit

/-- the number of bytes, the lowest one first -/
def le : List Int → Int
  | [] => 0
  | c :: l => c + 256 * le l
theorem le_bound : ∀ {l : List Int}, (∀ c ∈ l, 0 ≤ c ∧ c ≤ 255) → 0 ≤ le l ∧ le l < 256 ^ l.length
  | [], _ => by simp [le]
  | c :: l, h => by
    have h1 := le_bound (l := l) fun d hd => h d (by simp [hd])
    have h2 := h c (by simp)
    simp only [le, List.length_cons, Int.pow_succ]
    omega
theorem le_bound4 {l : List Int} (h : ∀ c ∈ l, 0 ≤ c ∧ c ≤ 255) {n : Nat} (hl : l.length = n) (hn : n ≤ 4) : 0 ≤ le l ∧ le l ≤ 4294967295 := by
  have h1 := le_bound h
  rw [hl] at h1
  have h2 : (256 : Int) ^ n ≤ 4294967296 := by
    match n, hn with
    | 0, _ => decide
    | 1, _ => decide
    | 2, _ => decide
    | 3, _ => decide
    | 4, _ => decide
  omega
theorem le_bound2 {l : List Int} (h : ∀ c ∈ l, 0 ≤ c ∧ c ≤ 255) {n : Nat} (hl : l.length = n) (hn : n ≤ 2) : 0 ≤ le l ∧ le l ≤ 65535 := by
  have h1 := le_bound h
  rw [hl] at h1
  have h2 : (256 : Int) ^ n ≤ 65536 := by
    match n, hn with
    | 0, _ => decide
    | 1, _ => decide
    | 2, _ => decide
  omega
theorem le_bound1 {l : List Int} (h : ∀ c ∈ l, 0 ≤ c ∧ c ≤ 255) (hl : l.length = 1) : 0 ≤ le l ∧ le l ≤ 255 := by
  have h1 := le_bound h
  rw [hl] at h1
  have h2 : (256 : Int) ^ 1 = 256 := by decide
  omega
/-- the next byte below: shifted, and or -/
theorem or_shift (N c : Int) (h0 : 0 ≤ N) (h1 : N < 16777216) (c0 : 0 ≤ c) (c1 : c ≤ 255) : bits .or .u32 (IntKind.u32.wrap (N * 256)) c = c + 256 * N := by
  obtain ⟨m, rfl⟩ := Int.eq_ofNat_of_zero_le h0
  obtain ⟨d, rfl⟩ := Int.eq_ofNat_of_zero_le c0
  have e : IntKind.u32.wrap ((m : Int) * 256) = ((m * 256 : Nat) : Int) := by rw [IntKind.wrap_u32]; omega
  rw [e, u32_or_nat _ _ (by omega) (by omega)]
  have h : m * 256 ||| d = m * 256 + d := by
    rw [show m * 256 = m <<< 8 by rw [Nat.shiftLeft_eq], ← Nat.shiftLeft_add_eq_or_of_lt (by omega)]
  rw [h]; omega

/-- a word of n bytes -/
def wordR (l : List Int) (n : Nat) : Int × Nat × Nat := if l.length < n then (0, 0, 4) else (le (l.take n), n, 0)
/-- a number, not above the most -/
def numR (l : List Int) (most : Int) : Int × Nat × Nat :=
  if (Vi.get l).2.2 ≠ 0 then (0, 0, (Vi.get l).2.2) else if most < ((Vi.get l).1 : Int) then (0, 0, 5) else (((Vi.get l).1 : Int), (Vi.get l).2.1, 0)
/-- the signed one of a number -/
def zagZ (n : Int) : Int := if n % 2 = 1 then -(n / 2) - 1 else n / 2
theorem zagZ_range {n : Int} (h0 : 0 ≤ n) (h1 : n ≤ 18446744073709551615) : -9223372036854775808 ≤ zagZ n ∧ zagZ n ≤ 9223372036854775807 := by
  unfold zagZ; split <;> omega
/-- a signed one, between two -/
def sigR (l : List Int) (least most : Int) : Int × Nat × Nat :=
  if (Vi.get l).2.2 ≠ 0 then (0, 0, (Vi.get l).2.2) else if zagZ ((Vi.get l).1 : Int) < least ∨ most < zagZ ((Vi.get l).1 : Int) then (0, 0, 5) else (zagZ ((Vi.get l).1 : Int), (Vi.get l).2.1, 0)
/-- so many bytes -/
def rawR (l : List Int) (n : Int) : List Int × Nat × Nat := if n < 0 then ([], 0, 5) else if (l.length : Int) < n then ([], 0, 4) else (l.take n.toNat, n.toNat, 0)
/-- bytes, behind how many they are -/
def fldR (l : List Int) (most : Int) : List Int × Nat × Nat :=
  if (Vi.get l).2.2 ≠ 0 then ([], 0, (Vi.get l).2.2) else if max most 0 < ((Vi.get l).1 : Int) then ([], 0, 6) else if l.length - (Vi.get l).2.1 < (Vi.get l).1 then ([], 0, 4)
  else ((l.drop (Vi.get l).2.1).take (Vi.get l).1, (Vi.get l).2.1 + (Vi.get l).1, 0)

section
variable {l : List Int}
theorem wordR_le (n : Nat) : (wordR l n).2.1 ≤ l.length := by unfold wordR; split <;> simp <;> omega
theorem numR_le (most : Int) : (numR l most).2.1 ≤ l.length := by
  have := (Vi.get_le l).2.2.1
  unfold numR; split
  · simp
  · split
    · simp
    · exact this
theorem sigR_le (least most : Int) : (sigR l least most).2.1 ≤ l.length := by
  have := (Vi.get_le l).2.2.1
  unfold sigR; split
  · simp
  · split
    · simp
    · exact this
theorem rawR_le (n : Int) : (rawR l n).2.1 ≤ l.length := by 
  unfold rawR; split
  · simp
  · split
    · simp
    · show n.toNat ≤ l.length
      omega
theorem fldR_le (most : Int) : (fldR l most).2.1 ≤ l.length := by
  have := (Vi.get_le l).2.2.1
  unfold fldR; split
  · simp
  · split
    · simp
    · split
      · simp
      · show (Vi.get l).2.1 + (Vi.get l).1 ≤ l.length
        omega
end
end Go.Proofs.YtmmffifndheafaaDoor

namespace Go.Proofs.YtmmffifndheafaaDoor
open Go.RowKit
set_option maxRecDepth 100000

end Go.Proofs.YtmmffifndheafaaDoor

namespace Go.Proofs.YtmmffifndheafaaDoor
open Go.RowKit
set_option maxRecDepth 100000

/-- what a read's closure hands on: where nothing is wrong, the value and its bytes' number -/
def ClosI (k : IntKind) (x : Int × Nat × Nat) (r : Ending) : Prop :=
  ∃ (v s : Int), r = .returned (.tuple #[.int k v, .int .i64 s, .int .i64 x.2.2]) ∧ (x.2.2 = 0 → v = x.1 ∧ s = x.2.1)
theorem ClosI.bad {k : IntKind} {x : Int × Nat × Nat} {v s : Int} {e : Int} (h : x.2.2 ≠ 0) (he : e = x.2.2) : ClosI k x (.returned (.tuple #[.int k v, .int .i64 s, .int .i64 e])) := by
  subst he; exact ⟨v, s, rfl, fun h0 => absurd h0 h⟩
theorem ClosI.ok {k : IntKind} {x : Int × Nat × Nat} {v s : Int} {e : Int} (hv : v = x.1) (hs : s = x.2.1) (he : e = x.2.2) : ClosI k x (.returned (.tuple #[.int k v, .int .i64 s, .int .i64 e])) := by
  subst he; exact ⟨v, s, rfl, fun _ => ⟨hv, hs⟩⟩

section
variable (B : Nat) (a : Option Addr) (n cap c : Nat) (l : List Int) (w : World)
/-- what a closure that makes bytes hands on -/
def ClosB (x : List Int × Nat × Nat) (w : World) (r : Ending) (w' : World) : Prop :=
  ∃ (v : Value) (s : Int), r = .returned (.tuple #[v, .int .i64 s, .int .i64 x.2.2]) ∧ MadeK 5 .u8 w w' x.1 v ∧ (x.2.2 = 0 → s = x.2.1)
theorem ClosB.mk {x : List Int × Nat × Nat} {w w' : World} {v : Value} {s e : Int} (hm : MadeK 5 .u8 w w' x.1 v) (he : e = x.2.2) (hs : x.2.2 = 0 → s = x.2.1) : ClosB x w (.returned (.tuple #[v, .int .i64 s, .int .i64 e])) w' := by
  subst he; exact ⟨v, s, rfl, hm, hs⟩
end
end Go.Proofs.YtmmffifndheafaaDoor
