/- The document's operations of registers alone (kotatsuref08.Self): its parts. No law is claimed here. -/
import Derived.Test.YtigpmmjbdpnkjaaDoorRU2
import Derived.Deep.RegionLaw
namespace Go.Proofs.YtigpmmjbdpnkjaaDoor
open Go.RowKit

set_option maxRecDepth 100000 in
set_option maxHeartbeats 1000000 in
theorem rget_A (a x y s p : Int) (w : World) : Calls Tryd.prog 13 #[rv a x y s p, .int .u8 65] w fun e w' => e = .returned (.int .i64 a) ∧ Ext w w' := by
  unfold rv
  go_enter Tryd.func13, Tryd.ntmps13
  go_wp2
  go_ret
  exact ⟨rfl, (Ext.refl _).alloc _⟩

set_option maxRecDepth 100000 in
set_option maxHeartbeats 1000000 in
theorem rget_X (a x y s p : Int) (w : World) : Calls Tryd.prog 13 #[rv a x y s p, .int .u8 88] w fun e w' => e = .returned (.int .i64 x) ∧ Ext w w' := by
  unfold rv
  go_enter Tryd.func13, Tryd.ntmps13
  go_wp2
  go_ret
  exact ⟨rfl, (Ext.refl _).alloc _⟩

set_option maxRecDepth 100000 in
set_option maxHeartbeats 1000000 in
theorem rget_Y (a x y s p : Int) (w : World) : Calls Tryd.prog 13 #[rv a x y s p, .int .u8 89] w fun e w' => e = .returned (.int .i64 y) ∧ Ext w w' := by
  unfold rv
  go_enter Tryd.func13, Tryd.ntmps13
  go_wp2
  go_ret
  exact ⟨rfl, (Ext.refl _).alloc _⟩

set_option maxRecDepth 100000 in
set_option maxHeartbeats 1000000 in
theorem rget_S (a x y s p : Int) (w : World) : Calls Tryd.prog 13 #[rv a x y s p, .int .u8 83] w fun e w' => e = .returned (.int .i64 s) ∧ Ext w w' := by
  unfold rv
  go_enter Tryd.func13, Tryd.ntmps13
  go_wp2
  go_ret
  exact ⟨rfl, (Ext.refl _).alloc _⟩

end Go.Proofs.YtigpmmjbdpnkjaaDoor
