/-
  Contracts of varint.Zig and the document's Zig.
-/
import Derived.Test.YtmmffifndheafaaDoorBts
import Derived.Test.YtmmffifndheafaaDoorRows
import Derived.Test.YtmmffifndheafaaDoorNum
import Derived.WalkKit
import Derived.WalkLawsBesides
namespace Go.Proofs.YtmmffifndheafaaDoor
open Go.RowKit
set_option maxRecDepth 100000


theorem u64_not (y : Int) (h0 : 0 ≤ y) (h1 : y ≤ 18446744073709551615) : bits .xor .u64 18446744073709551615 y = 18446744073709551615 - y := by
  obtain ⟨m, rfl⟩ := Int.eq_ofNat_of_zero_le h0
  have h := u64_xor_nat 18446744073709551615 m (by omega) (by omega)
  have e : 18446744073709551615 ^^^ m = 18446744073709551615 - m := by
    have hx := congrArg BitVec.toNat (BitVec.xor_allOnes (x := BitVec.ofNat 64 m))
    rw [BitVec.toNat_xor, BitVec.toNat_not, BitVec.toNat_allOnes, BitVec.toNat_ofNat, Nat.mod_eq_of_lt (by omega)] at hx
    rw [Nat.xor_comm]
    exact hx
  rw [e] at h
  rw [show (18446744073709551615 : Int) = ((18446744073709551615 : Nat) : Int) from rfl, h]
  omega

theorem zig_val (n : Int) (h0 : n < 0) (h1 : -9223372036854775808 ≤ n) : bits .xor .u64 IntKind.u64.max (IntKind.u64.wrap (IntKind.u64.wrap n * 2)) = -2 * n - 1 := by
  rw [show IntKind.u64.max = 18446744073709551615 from rfl, u64_not _ (by rw [IntKind.wrap_u64]; omega) (by rw [IntKind.wrap_u64]; omega), IntKind.wrap_u64, IntKind.wrap_u64]
  omega

end Go.Proofs.YtmmffifndheafaaDoor
