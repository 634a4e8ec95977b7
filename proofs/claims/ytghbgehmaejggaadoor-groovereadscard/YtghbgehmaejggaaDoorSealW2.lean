/- Contracts of package seal: Long, sealOf; the law package's awake. No law is claimed here. -/
import Derived.Test.YtghbgehmaejggaaDoorSealW
namespace Go.Proofs.YtghbgehmaejggaaDoor
open Go.RowKit

theorem not_u32 (r : Nat) (h : r < 4294967296) : bits .xor .u32 IntKind.u32.max (r : Int) = ((4294967295 - r : Nat) : Int) := by
  have := xor_u32 4294967295 r (by decide) h
  have e : 4294967295 ^^^ r = 4294967295 - r := by
    have h2 := congrArg BitVec.toNat (BitVec.not_def (x := BitVec.ofNat 32 r))
    rw [BitVec.toNat_xor, BitVec.toNat_not, BitVec.toNat_allOnes, BitVec.toNat_ofNat, Nat.mod_eq_of_lt (by omega)] at h2
    exact h2.symm
  rw [e] at this
  exact this

theorem long_check : longN [49, 50, 51, 52, 53, 54, 55, 56, 57] = 3421780262 := by decide +kernel

end Go.Proofs.YtghbgehmaejggaaDoor
