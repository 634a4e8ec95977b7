/- The document's example, and flags set or cleared (walks). No law is claimed here. -/
import Derived.Test.YtigpmmjbdpnkjaaDoorAlu7
import Derived.Test.YtigpmmjbdpnkjaaDoorAluM
namespace Go.Proofs.YtigpmmjbdpnkjaaDoor
open Go.RowKit

theorem awake_val : adcU ⟨80, 0, 0, 0, 0⟩ 80 = ⟨160, 0, 0, 0, 192⟩ := by rfl

set_option maxRecDepth 100000 in
set_option maxHeartbeats 1000000 in
theorem awake_any (w : World) : Calls Tryd.prog 4 #[] w fun e w' => e = .returned (.bool true) ∧ Ext w w' := by
  have F0 := fun w => Read_adc 80 0 0 0 0 80 (by decide) (by decide) (by decide) (by decide) w
  rw [awake_val] at F0
  unfold uu uv at F0
  go_enter Tryd.func4, Tryd.ntmps4
  go_wp2_with (go_at_call 11; refine (F0 _).mono ?_; rintro e w' ⟨rfl, os, q, rfl⟩)
  go_ret
  exact ⟨rfl, (Ext.refl _).ext _ _⟩

end Go.Proofs.YtigpmmjbdpnkjaaDoor
