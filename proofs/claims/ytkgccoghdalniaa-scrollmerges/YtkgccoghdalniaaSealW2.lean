/- Contracts of package seal: Long, sealOf; the law package's awake. No law is claimed here. -/
import Derived.Test.YtkgccoghdalniaaSealW
namespace Go.Proofs.Ytkgccoghdalniaa
open Go.RowKit

theorem not_u32 (r : Nat) (h : r < 4294967296) : bits .xor .u32 IntKind.u32.max (r : Int) = ((4294967295 - r : Nat) : Int) := by
  have := xor_u32 4294967295 r (by decide) h
  have e : 4294967295 ^^^ r = 4294967295 - r := by
    have h2 := congrArg BitVec.toNat (BitVec.not_def (x := BitVec.ofNat 32 r))
    rw [BitVec.toNat_xor, BitVec.toNat_not, BitVec.toNat_allOnes, BitVec.toNat_ofNat, Nat.mod_eq_of_lt (by omega)] at h2
    exact h2.symm
  rw [e] at this
  exact this

set_option maxRecDepth 100000 in
set_option maxHeartbeats 400000 in
theorem sealOf_any (A A2 : Option Addr) (n c m c2 B B2 : Nat) (xs ys : List UInt8) (w : World) (hr : Rd bv w B A n c xs) (hr2 : Rd bv w B2 A2 m c2 ys) (hn : n ≤ 9223372036854775807) (hm : m ≤ 9223372036854775807) :
    Calls Try.prog 34 #[.slice A n c, .slice A2 m c2] w fun e w' => e = .returned (.int .u32 (longN (xs ++ ys) : Int)) ∧ w = w' := by
  have hsg : IntKind.u32.signed = false := rfl
  have HE : Hid (longN (xs ++ ys) = 4294967295 - rollN (rollN 4294967295 xs) ys) := by unfold longN; rw [rollN_append]; rfl
  have hlt := rollN_lt xs 4294967295 (by decide)
  go_enter Try.func34, Try.ntmps34
  go_wp2_with fail
  refine (roll_any _ A n c B xs _ (by omega) (by omega) hr hn).mono ?_
  rintro e w' ⟨rfl, rfl⟩
  rw [show (4294967295 : Int).toNat = 4294967295 from rfl]
  generalize rollN 4294967295 xs = r at *
  obtain ⟨z, HZ, hz0, hz1⟩ : ∃ z : Int, Hid (r = z.toNat) ∧ 0 ≤ z ∧ z < 4294967296 := ⟨r, rfl, by omega, by omega⟩
  have e := HZ.out
  subst e
  rw [Int.toNat_of_nonneg hz0]
  clear hlt
  go_wp2_with fail
  refine (roll_any _ A2 m c2 B2 ys _ hz0 hz1 hr2 hm).mono ?_
  rintro e w' ⟨rfl, rfl⟩
  go_wp2
  rw [not_u32 _ (rollN_lt ys _ (by omega))]
  go_ret
  rw [HE.out]
  exact ⟨rfl, rfl⟩

theorem long_check : longN [49, 50, 51, 52, 53, 54, 55, 56, 57] = 3421780262 := by decide +kernel

end Go.Proofs.Ytkgccoghdalniaa
