/- Contracts of package alu: two operations with sums. No law is claimed here. -/
import Derived.Test.YtigpmmjbdpnkjaaDoorAlu3
namespace Go.Proofs.YtigpmmjbdpnkjaaDoor
open Go.RowKit

theorem right2 (u : Un) (m i : Int) : 0 ≤ (rightU u m i).2 ∧ (rightU u m i).2 < 256 := by
  unfold rightU becU; exact bits_u8 .or _ _
theorem rightA (u : Un) (m i : Int) : (rightU u m i).1.a = u.a := rfl
theorem becA (u : Un) (m : Int) : (becU u m).1.a = u.a := rfl

end Go.Proofs.YtigpmmjbdpnkjaaDoor
