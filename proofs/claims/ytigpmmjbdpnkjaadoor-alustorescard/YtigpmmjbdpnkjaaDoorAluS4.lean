/- Stores and branches: names that are no branch. No law is claimed here. -/
import Derived.Test.YtigpmmjbdpnkjaaDoorRU7
import Derived.Test.YtigpmmjbdpnkjaaDoorRU10
import Derived.Test.YtigpmmjbdpnkjaaDoorAluA
import Derived.BigQuiet
namespace Go.Proofs.YtigpmmjbdpnkjaaDoor
open Go.RowKit

set_option maxRecDepth 100000 in
set_option maxHeartbeats 1000000 in
theorem rtakes_nop (a x y s p : Int) (w : World) : Calls Tryd.prog 10 #[rv a x y s p, .string { data := #[78, 79, 80] }] w fun e w' => e = .returned (.bool false) ∧ Ext w w' := by
  unfold rv
  go_enter Tryd.func10, Tryd.ntmps10
  go_wp2
  go_ret
  refine ⟨rfl, ?_⟩
  repeat (first | exact Ext.refl _ | refine Ext.alloc ?_ _ | refine Ext.ext ?_ _ _ | refine Ext.drew ?_ | refine Ext.drewN ?_ _)

set_option maxRecDepth 100000 in
set_option maxHeartbeats 1000000 in
theorem rtakes_ora (a x y s p : Int) (w : World) : Calls Tryd.prog 10 #[rv a x y s p, .string { data := #[79, 82, 65] }] w fun e w' => e = .returned (.bool false) ∧ Ext w w' := by
  unfold rv
  go_enter Tryd.func10, Tryd.ntmps10
  go_wp2
  go_ret
  refine ⟨rfl, ?_⟩
  repeat (first | exact Ext.refl _ | refine Ext.alloc ?_ _ | refine Ext.ext ?_ _ _ | refine Ext.drew ?_ | refine Ext.drewN ?_ _)

set_option maxRecDepth 100000 in
set_option maxHeartbeats 1000000 in
theorem rtakes_and (a x y s p : Int) (w : World) : Calls Tryd.prog 10 #[rv a x y s p, .string { data := #[65, 78, 68] }] w fun e w' => e = .returned (.bool false) ∧ Ext w w' := by
  unfold rv
  go_enter Tryd.func10, Tryd.ntmps10
  go_wp2
  go_ret
  refine ⟨rfl, ?_⟩
  repeat (first | exact Ext.refl _ | refine Ext.alloc ?_ _ | refine Ext.ext ?_ _ _ | refine Ext.drew ?_ | refine Ext.drewN ?_ _)

set_option maxRecDepth 100000 in
set_option maxHeartbeats 1000000 in
theorem rtakes_eor (a x y s p : Int) (w : World) : Calls Tryd.prog 10 #[rv a x y s p, .string { data := #[69, 79, 82] }] w fun e w' => e = .returned (.bool false) ∧ Ext w w' := by
  unfold rv
  go_enter Tryd.func10, Tryd.ntmps10
  go_wp2
  go_ret
  refine ⟨rfl, ?_⟩
  repeat (first | exact Ext.refl _ | refine Ext.alloc ?_ _ | refine Ext.ext ?_ _ _ | refine Ext.drew ?_ | refine Ext.drewN ?_ _)

set_option maxRecDepth 100000 in
set_option maxHeartbeats 1000000 in
theorem rtakes_adc (a x y s p : Int) (w : World) : Calls Tryd.prog 10 #[rv a x y s p, .string { data := #[65, 68, 67] }] w fun e w' => e = .returned (.bool false) ∧ Ext w w' := by
  unfold rv
  go_enter Tryd.func10, Tryd.ntmps10
  go_wp2
  go_ret
  refine ⟨rfl, ?_⟩
  repeat (first | exact Ext.refl _ | refine Ext.alloc ?_ _ | refine Ext.ext ?_ _ _ | refine Ext.drew ?_ | refine Ext.drewN ?_ _)

set_option maxRecDepth 100000 in
set_option maxHeartbeats 1000000 in
theorem rtakes_sbc (a x y s p : Int) (w : World) : Calls Tryd.prog 10 #[rv a x y s p, .string { data := #[83, 66, 67] }] w fun e w' => e = .returned (.bool false) ∧ Ext w w' := by
  unfold rv
  go_enter Tryd.func10, Tryd.ntmps10
  go_wp2
  go_ret
  refine ⟨rfl, ?_⟩
  repeat (first | exact Ext.refl _ | refine Ext.alloc ?_ _ | refine Ext.ext ?_ _ _ | refine Ext.drew ?_ | refine Ext.drewN ?_ _)

set_option maxRecDepth 100000 in
set_option maxHeartbeats 1000000 in
theorem rtakes_cmp (a x y s p : Int) (w : World) : Calls Tryd.prog 10 #[rv a x y s p, .string { data := #[67, 77, 80] }] w fun e w' => e = .returned (.bool false) ∧ Ext w w' := by
  unfold rv
  go_enter Tryd.func10, Tryd.ntmps10
  go_wp2
  go_ret
  refine ⟨rfl, ?_⟩
  repeat (first | exact Ext.refl _ | refine Ext.alloc ?_ _ | refine Ext.ext ?_ _ _ | refine Ext.drew ?_ | refine Ext.drewN ?_ _)

set_option maxRecDepth 100000 in
set_option maxHeartbeats 1000000 in
theorem rtakes_cpx (a x y s p : Int) (w : World) : Calls Tryd.prog 10 #[rv a x y s p, .string { data := #[67, 80, 88] }] w fun e w' => e = .returned (.bool false) ∧ Ext w w' := by
  unfold rv
  go_enter Tryd.func10, Tryd.ntmps10
  go_wp2
  go_ret
  refine ⟨rfl, ?_⟩
  repeat (first | exact Ext.refl _ | refine Ext.alloc ?_ _ | refine Ext.ext ?_ _ _ | refine Ext.drew ?_ | refine Ext.drewN ?_ _)

set_option maxRecDepth 100000 in
set_option maxHeartbeats 1000000 in
theorem rtakes_cpy (a x y s p : Int) (w : World) : Calls Tryd.prog 10 #[rv a x y s p, .string { data := #[67, 80, 89] }] w fun e w' => e = .returned (.bool false) ∧ Ext w w' := by
  unfold rv
  go_enter Tryd.func10, Tryd.ntmps10
  go_wp2
  go_ret
  refine ⟨rfl, ?_⟩
  repeat (first | exact Ext.refl _ | refine Ext.alloc ?_ _ | refine Ext.ext ?_ _ _ | refine Ext.drew ?_ | refine Ext.drewN ?_ _)

set_option maxRecDepth 100000 in
set_option maxHeartbeats 1000000 in
theorem rtakes_lda (a x y s p : Int) (w : World) : Calls Tryd.prog 10 #[rv a x y s p, .string { data := #[76, 68, 65] }] w fun e w' => e = .returned (.bool false) ∧ Ext w w' := by
  unfold rv
  go_enter Tryd.func10, Tryd.ntmps10
  go_wp2
  go_ret
  refine ⟨rfl, ?_⟩
  repeat (first | exact Ext.refl _ | refine Ext.alloc ?_ _ | refine Ext.ext ?_ _ _ | refine Ext.drew ?_ | refine Ext.drewN ?_ _)

set_option maxRecDepth 100000 in
set_option maxHeartbeats 1000000 in
theorem rtakes_ldx (a x y s p : Int) (w : World) : Calls Tryd.prog 10 #[rv a x y s p, .string { data := #[76, 68, 88] }] w fun e w' => e = .returned (.bool false) ∧ Ext w w' := by
  unfold rv
  go_enter Tryd.func10, Tryd.ntmps10
  go_wp2
  go_ret
  refine ⟨rfl, ?_⟩
  repeat (first | exact Ext.refl _ | refine Ext.alloc ?_ _ | refine Ext.ext ?_ _ _ | refine Ext.drew ?_ | refine Ext.drewN ?_ _)

set_option maxRecDepth 100000 in
set_option maxHeartbeats 1000000 in
theorem rtakes_ldy (a x y s p : Int) (w : World) : Calls Tryd.prog 10 #[rv a x y s p, .string { data := #[76, 68, 89] }] w fun e w' => e = .returned (.bool false) ∧ Ext w w' := by
  unfold rv
  go_enter Tryd.func10, Tryd.ntmps10
  go_wp2
  go_ret
  refine ⟨rfl, ?_⟩
  repeat (first | exact Ext.refl _ | refine Ext.alloc ?_ _ | refine Ext.ext ?_ _ _ | refine Ext.drew ?_ | refine Ext.drewN ?_ _)

set_option maxRecDepth 100000 in
set_option maxHeartbeats 1000000 in
theorem rtakes_bit (a x y s p : Int) (w : World) : Calls Tryd.prog 10 #[rv a x y s p, .string { data := #[66, 73, 84] }] w fun e w' => e = .returned (.bool false) ∧ Ext w w' := by
  unfold rv
  go_enter Tryd.func10, Tryd.ntmps10
  go_wp2
  go_ret
  refine ⟨rfl, ?_⟩
  repeat (first | exact Ext.refl _ | refine Ext.alloc ?_ _ | refine Ext.ext ?_ _ _ | refine Ext.drew ?_ | refine Ext.drewN ?_ _)

set_option maxRecDepth 100000 in
set_option maxHeartbeats 1000000 in
theorem rtakes_lax (a x y s p : Int) (w : World) : Calls Tryd.prog 10 #[rv a x y s p, .string { data := #[76, 65, 88] }] w fun e w' => e = .returned (.bool false) ∧ Ext w w' := by
  unfold rv
  go_enter Tryd.func10, Tryd.ntmps10
  go_wp2
  go_ret
  refine ⟨rfl, ?_⟩
  repeat (first | exact Ext.refl _ | refine Ext.alloc ?_ _ | refine Ext.ext ?_ _ _ | refine Ext.drew ?_ | refine Ext.drewN ?_ _)

set_option maxRecDepth 100000 in
set_option maxHeartbeats 1000000 in
theorem rtakes_anc (a x y s p : Int) (w : World) : Calls Tryd.prog 10 #[rv a x y s p, .string { data := #[65, 78, 67] }] w fun e w' => e = .returned (.bool false) ∧ Ext w w' := by
  unfold rv
  go_enter Tryd.func10, Tryd.ntmps10
  go_wp2
  go_ret
  refine ⟨rfl, ?_⟩
  repeat (first | exact Ext.refl _ | refine Ext.alloc ?_ _ | refine Ext.ext ?_ _ _ | refine Ext.drew ?_ | refine Ext.drewN ?_ _)

set_option maxRecDepth 100000 in
set_option maxHeartbeats 1000000 in
theorem rtakes_alr (a x y s p : Int) (w : World) : Calls Tryd.prog 10 #[rv a x y s p, .string { data := #[65, 76, 82] }] w fun e w' => e = .returned (.bool false) ∧ Ext w w' := by
  unfold rv
  go_enter Tryd.func10, Tryd.ntmps10
  go_wp2
  go_ret
  refine ⟨rfl, ?_⟩
  repeat (first | exact Ext.refl _ | refine Ext.alloc ?_ _ | refine Ext.ext ?_ _ _ | refine Ext.drew ?_ | refine Ext.drewN ?_ _)

set_option maxRecDepth 100000 in
set_option maxHeartbeats 1000000 in
theorem rtakes_arr (a x y s p : Int) (w : World) : Calls Tryd.prog 10 #[rv a x y s p, .string { data := #[65, 82, 82] }] w fun e w' => e = .returned (.bool false) ∧ Ext w w' := by
  unfold rv
  go_enter Tryd.func10, Tryd.ntmps10
  go_wp2
  go_ret
  refine ⟨rfl, ?_⟩
  repeat (first | exact Ext.refl _ | refine Ext.alloc ?_ _ | refine Ext.ext ?_ _ _ | refine Ext.drew ?_ | refine Ext.drewN ?_ _)

set_option maxRecDepth 100000 in
set_option maxHeartbeats 1000000 in
theorem rtakes_axs (a x y s p : Int) (w : World) : Calls Tryd.prog 10 #[rv a x y s p, .string { data := #[65, 88, 83] }] w fun e w' => e = .returned (.bool false) ∧ Ext w w' := by
  unfold rv
  go_enter Tryd.func10, Tryd.ntmps10
  go_wp2
  go_ret
  refine ⟨rfl, ?_⟩
  repeat (first | exact Ext.refl _ | refine Ext.alloc ?_ _ | refine Ext.ext ?_ _ _ | refine Ext.drew ?_ | refine Ext.drewN ?_ _)

set_option maxRecDepth 100000 in
set_option maxHeartbeats 1000000 in
theorem rtakes_las (a x y s p : Int) (w : World) : Calls Tryd.prog 10 #[rv a x y s p, .string { data := #[76, 65, 83] }] w fun e w' => e = .returned (.bool false) ∧ Ext w w' := by
  unfold rv
  go_enter Tryd.func10, Tryd.ntmps10
  go_wp2
  go_ret
  refine ⟨rfl, ?_⟩
  repeat (first | exact Ext.refl _ | refine Ext.alloc ?_ _ | refine Ext.ext ?_ _ _ | refine Ext.drew ?_ | refine Ext.drewN ?_ _)

set_option maxRecDepth 100000 in
set_option maxHeartbeats 1000000 in
theorem rtakes_asl (a x y s p : Int) (w : World) : Calls Tryd.prog 10 #[rv a x y s p, .string { data := #[65, 83, 76] }] w fun e w' => e = .returned (.bool false) ∧ Ext w w' := by
  unfold rv
  go_enter Tryd.func10, Tryd.ntmps10
  go_wp2
  go_ret
  refine ⟨rfl, ?_⟩
  repeat (first | exact Ext.refl _ | refine Ext.alloc ?_ _ | refine Ext.ext ?_ _ _ | refine Ext.drew ?_ | refine Ext.drewN ?_ _)

set_option maxRecDepth 100000 in
set_option maxHeartbeats 1000000 in
theorem rtakes_lsr (a x y s p : Int) (w : World) : Calls Tryd.prog 10 #[rv a x y s p, .string { data := #[76, 83, 82] }] w fun e w' => e = .returned (.bool false) ∧ Ext w w' := by
  unfold rv
  go_enter Tryd.func10, Tryd.ntmps10
  go_wp2
  go_ret
  refine ⟨rfl, ?_⟩
  repeat (first | exact Ext.refl _ | refine Ext.alloc ?_ _ | refine Ext.ext ?_ _ _ | refine Ext.drew ?_ | refine Ext.drewN ?_ _)

set_option maxRecDepth 100000 in
set_option maxHeartbeats 1000000 in
theorem rtakes_rol (a x y s p : Int) (w : World) : Calls Tryd.prog 10 #[rv a x y s p, .string { data := #[82, 79, 76] }] w fun e w' => e = .returned (.bool false) ∧ Ext w w' := by
  unfold rv
  go_enter Tryd.func10, Tryd.ntmps10
  go_wp2
  go_ret
  refine ⟨rfl, ?_⟩
  repeat (first | exact Ext.refl _ | refine Ext.alloc ?_ _ | refine Ext.ext ?_ _ _ | refine Ext.drew ?_ | refine Ext.drewN ?_ _)

set_option maxRecDepth 100000 in
set_option maxHeartbeats 1000000 in
theorem rtakes_ror (a x y s p : Int) (w : World) : Calls Tryd.prog 10 #[rv a x y s p, .string { data := #[82, 79, 82] }] w fun e w' => e = .returned (.bool false) ∧ Ext w w' := by
  unfold rv
  go_enter Tryd.func10, Tryd.ntmps10
  go_wp2
  go_ret
  refine ⟨rfl, ?_⟩
  repeat (first | exact Ext.refl _ | refine Ext.alloc ?_ _ | refine Ext.ext ?_ _ _ | refine Ext.drew ?_ | refine Ext.drewN ?_ _)

set_option maxRecDepth 100000 in
set_option maxHeartbeats 1000000 in
theorem rtakes_inc (a x y s p : Int) (w : World) : Calls Tryd.prog 10 #[rv a x y s p, .string { data := #[73, 78, 67] }] w fun e w' => e = .returned (.bool false) ∧ Ext w w' := by
  unfold rv
  go_enter Tryd.func10, Tryd.ntmps10
  go_wp2
  go_ret
  refine ⟨rfl, ?_⟩
  repeat (first | exact Ext.refl _ | refine Ext.alloc ?_ _ | refine Ext.ext ?_ _ _ | refine Ext.drew ?_ | refine Ext.drewN ?_ _)

set_option maxRecDepth 100000 in
set_option maxHeartbeats 1000000 in
theorem rtakes_dec (a x y s p : Int) (w : World) : Calls Tryd.prog 10 #[rv a x y s p, .string { data := #[68, 69, 67] }] w fun e w' => e = .returned (.bool false) ∧ Ext w w' := by
  unfold rv
  go_enter Tryd.func10, Tryd.ntmps10
  go_wp2
  go_ret
  refine ⟨rfl, ?_⟩
  repeat (first | exact Ext.refl _ | refine Ext.alloc ?_ _ | refine Ext.ext ?_ _ _ | refine Ext.drew ?_ | refine Ext.drewN ?_ _)

set_option maxRecDepth 100000 in
set_option maxHeartbeats 1000000 in
theorem rtakes_slo (a x y s p : Int) (w : World) : Calls Tryd.prog 10 #[rv a x y s p, .string { data := #[83, 76, 79] }] w fun e w' => e = .returned (.bool false) ∧ Ext w w' := by
  unfold rv
  go_enter Tryd.func10, Tryd.ntmps10
  go_wp2
  go_ret
  refine ⟨rfl, ?_⟩
  repeat (first | exact Ext.refl _ | refine Ext.alloc ?_ _ | refine Ext.ext ?_ _ _ | refine Ext.drew ?_ | refine Ext.drewN ?_ _)

set_option maxRecDepth 100000 in
set_option maxHeartbeats 1000000 in
theorem rtakes_rla (a x y s p : Int) (w : World) : Calls Tryd.prog 10 #[rv a x y s p, .string { data := #[82, 76, 65] }] w fun e w' => e = .returned (.bool false) ∧ Ext w w' := by
  unfold rv
  go_enter Tryd.func10, Tryd.ntmps10
  go_wp2
  go_ret
  refine ⟨rfl, ?_⟩
  repeat (first | exact Ext.refl _ | refine Ext.alloc ?_ _ | refine Ext.ext ?_ _ _ | refine Ext.drew ?_ | refine Ext.drewN ?_ _)

set_option maxRecDepth 100000 in
set_option maxHeartbeats 1000000 in
theorem rtakes_sre (a x y s p : Int) (w : World) : Calls Tryd.prog 10 #[rv a x y s p, .string { data := #[83, 82, 69] }] w fun e w' => e = .returned (.bool false) ∧ Ext w w' := by
  unfold rv
  go_enter Tryd.func10, Tryd.ntmps10
  go_wp2
  go_ret
  refine ⟨rfl, ?_⟩
  repeat (first | exact Ext.refl _ | refine Ext.alloc ?_ _ | refine Ext.ext ?_ _ _ | refine Ext.drew ?_ | refine Ext.drewN ?_ _)

set_option maxRecDepth 100000 in
set_option maxHeartbeats 1000000 in
theorem rtakes_rra (a x y s p : Int) (w : World) : Calls Tryd.prog 10 #[rv a x y s p, .string { data := #[82, 82, 65] }] w fun e w' => e = .returned (.bool false) ∧ Ext w w' := by
  unfold rv
  go_enter Tryd.func10, Tryd.ntmps10
  go_wp2
  go_ret
  refine ⟨rfl, ?_⟩
  repeat (first | exact Ext.refl _ | refine Ext.alloc ?_ _ | refine Ext.ext ?_ _ _ | refine Ext.drew ?_ | refine Ext.drewN ?_ _)

set_option maxRecDepth 100000 in
set_option maxHeartbeats 1000000 in
theorem rtakes_dcp (a x y s p : Int) (w : World) : Calls Tryd.prog 10 #[rv a x y s p, .string { data := #[68, 67, 80] }] w fun e w' => e = .returned (.bool false) ∧ Ext w w' := by
  unfold rv
  go_enter Tryd.func10, Tryd.ntmps10
  go_wp2
  go_ret
  refine ⟨rfl, ?_⟩
  repeat (first | exact Ext.refl _ | refine Ext.alloc ?_ _ | refine Ext.ext ?_ _ _ | refine Ext.drew ?_ | refine Ext.drewN ?_ _)

set_option maxRecDepth 100000 in
set_option maxHeartbeats 1000000 in
theorem rtakes_isc (a x y s p : Int) (w : World) : Calls Tryd.prog 10 #[rv a x y s p, .string { data := #[73, 83, 67] }] w fun e w' => e = .returned (.bool false) ∧ Ext w w' := by
  unfold rv
  go_enter Tryd.func10, Tryd.ntmps10
  go_wp2
  go_ret
  refine ⟨rfl, ?_⟩
  repeat (first | exact Ext.refl _ | refine Ext.alloc ?_ _ | refine Ext.ext ?_ _ _ | refine Ext.drew ?_ | refine Ext.drewN ?_ _)

set_option maxRecDepth 100000 in
set_option maxHeartbeats 1000000 in
theorem rtakes_sta (a x y s p : Int) (w : World) : Calls Tryd.prog 10 #[rv a x y s p, .string { data := #[83, 84, 65] }] w fun e w' => e = .returned (.bool false) ∧ Ext w w' := by
  unfold rv
  go_enter Tryd.func10, Tryd.ntmps10
  go_wp2
  go_ret
  refine ⟨rfl, ?_⟩
  repeat (first | exact Ext.refl _ | refine Ext.alloc ?_ _ | refine Ext.ext ?_ _ _ | refine Ext.drew ?_ | refine Ext.drewN ?_ _)

set_option maxRecDepth 100000 in
set_option maxHeartbeats 1000000 in
theorem rtakes_stx (a x y s p : Int) (w : World) : Calls Tryd.prog 10 #[rv a x y s p, .string { data := #[83, 84, 88] }] w fun e w' => e = .returned (.bool false) ∧ Ext w w' := by
  unfold rv
  go_enter Tryd.func10, Tryd.ntmps10
  go_wp2
  go_ret
  refine ⟨rfl, ?_⟩
  repeat (first | exact Ext.refl _ | refine Ext.alloc ?_ _ | refine Ext.ext ?_ _ _ | refine Ext.drew ?_ | refine Ext.drewN ?_ _)

set_option maxRecDepth 100000 in
set_option maxHeartbeats 1000000 in
theorem rtakes_sty (a x y s p : Int) (w : World) : Calls Tryd.prog 10 #[rv a x y s p, .string { data := #[83, 84, 89] }] w fun e w' => e = .returned (.bool false) ∧ Ext w w' := by
  unfold rv
  go_enter Tryd.func10, Tryd.ntmps10
  go_wp2
  go_ret
  refine ⟨rfl, ?_⟩
  repeat (first | exact Ext.refl _ | refine Ext.alloc ?_ _ | refine Ext.ext ?_ _ _ | refine Ext.drew ?_ | refine Ext.drewN ?_ _)

set_option maxRecDepth 100000 in
set_option maxHeartbeats 1000000 in
theorem rtakes_sax (a x y s p : Int) (w : World) : Calls Tryd.prog 10 #[rv a x y s p, .string { data := #[83, 65, 88] }] w fun e w' => e = .returned (.bool false) ∧ Ext w w' := by
  unfold rv
  go_enter Tryd.func10, Tryd.ntmps10
  go_wp2
  go_ret
  refine ⟨rfl, ?_⟩
  repeat (first | exact Ext.refl _ | refine Ext.alloc ?_ _ | refine Ext.ext ?_ _ _ | refine Ext.drew ?_ | refine Ext.drewN ?_ _)

set_option maxRecDepth 100000 in
set_option maxHeartbeats 1000000 in
theorem rtakes_tax (a x y s p : Int) (w : World) : Calls Tryd.prog 10 #[rv a x y s p, .string { data := #[84, 65, 88] }] w fun e w' => e = .returned (.bool false) ∧ Ext w w' := by
  unfold rv
  go_enter Tryd.func10, Tryd.ntmps10
  go_wp2
  go_ret
  refine ⟨rfl, ?_⟩
  repeat (first | exact Ext.refl _ | refine Ext.alloc ?_ _ | refine Ext.ext ?_ _ _ | refine Ext.drew ?_ | refine Ext.drewN ?_ _)

set_option maxRecDepth 100000 in
set_option maxHeartbeats 1000000 in
theorem rtakes_tay (a x y s p : Int) (w : World) : Calls Tryd.prog 10 #[rv a x y s p, .string { data := #[84, 65, 89] }] w fun e w' => e = .returned (.bool false) ∧ Ext w w' := by
  unfold rv
  go_enter Tryd.func10, Tryd.ntmps10
  go_wp2
  go_ret
  refine ⟨rfl, ?_⟩
  repeat (first | exact Ext.refl _ | refine Ext.alloc ?_ _ | refine Ext.ext ?_ _ _ | refine Ext.drew ?_ | refine Ext.drewN ?_ _)

set_option maxRecDepth 100000 in
set_option maxHeartbeats 1000000 in
theorem rtakes_txa (a x y s p : Int) (w : World) : Calls Tryd.prog 10 #[rv a x y s p, .string { data := #[84, 88, 65] }] w fun e w' => e = .returned (.bool false) ∧ Ext w w' := by
  unfold rv
  go_enter Tryd.func10, Tryd.ntmps10
  go_wp2
  go_ret
  refine ⟨rfl, ?_⟩
  repeat (first | exact Ext.refl _ | refine Ext.alloc ?_ _ | refine Ext.ext ?_ _ _ | refine Ext.drew ?_ | refine Ext.drewN ?_ _)

set_option maxRecDepth 100000 in
set_option maxHeartbeats 1000000 in
theorem rtakes_tya (a x y s p : Int) (w : World) : Calls Tryd.prog 10 #[rv a x y s p, .string { data := #[84, 89, 65] }] w fun e w' => e = .returned (.bool false) ∧ Ext w w' := by
  unfold rv
  go_enter Tryd.func10, Tryd.ntmps10
  go_wp2
  go_ret
  refine ⟨rfl, ?_⟩
  repeat (first | exact Ext.refl _ | refine Ext.alloc ?_ _ | refine Ext.ext ?_ _ _ | refine Ext.drew ?_ | refine Ext.drewN ?_ _)

set_option maxRecDepth 100000 in
set_option maxHeartbeats 1000000 in
theorem rtakes_tsx (a x y s p : Int) (w : World) : Calls Tryd.prog 10 #[rv a x y s p, .string { data := #[84, 83, 88] }] w fun e w' => e = .returned (.bool false) ∧ Ext w w' := by
  unfold rv
  go_enter Tryd.func10, Tryd.ntmps10
  go_wp2
  go_ret
  refine ⟨rfl, ?_⟩
  repeat (first | exact Ext.refl _ | refine Ext.alloc ?_ _ | refine Ext.ext ?_ _ _ | refine Ext.drew ?_ | refine Ext.drewN ?_ _)

set_option maxRecDepth 100000 in
set_option maxHeartbeats 1000000 in
theorem rtakes_txs (a x y s p : Int) (w : World) : Calls Tryd.prog 10 #[rv a x y s p, .string { data := #[84, 88, 83] }] w fun e w' => e = .returned (.bool false) ∧ Ext w w' := by
  unfold rv
  go_enter Tryd.func10, Tryd.ntmps10
  go_wp2
  go_ret
  refine ⟨rfl, ?_⟩
  repeat (first | exact Ext.refl _ | refine Ext.alloc ?_ _ | refine Ext.ext ?_ _ _ | refine Ext.drew ?_ | refine Ext.drewN ?_ _)

set_option maxRecDepth 100000 in
set_option maxHeartbeats 1000000 in
theorem rtakes_inx (a x y s p : Int) (w : World) : Calls Tryd.prog 10 #[rv a x y s p, .string { data := #[73, 78, 88] }] w fun e w' => e = .returned (.bool false) ∧ Ext w w' := by
  unfold rv
  go_enter Tryd.func10, Tryd.ntmps10
  go_wp2
  go_ret
  refine ⟨rfl, ?_⟩
  repeat (first | exact Ext.refl _ | refine Ext.alloc ?_ _ | refine Ext.ext ?_ _ _ | refine Ext.drew ?_ | refine Ext.drewN ?_ _)

set_option maxRecDepth 100000 in
set_option maxHeartbeats 1000000 in
theorem rtakes_iny (a x y s p : Int) (w : World) : Calls Tryd.prog 10 #[rv a x y s p, .string { data := #[73, 78, 89] }] w fun e w' => e = .returned (.bool false) ∧ Ext w w' := by
  unfold rv
  go_enter Tryd.func10, Tryd.ntmps10
  go_wp2
  go_ret
  refine ⟨rfl, ?_⟩
  repeat (first | exact Ext.refl _ | refine Ext.alloc ?_ _ | refine Ext.ext ?_ _ _ | refine Ext.drew ?_ | refine Ext.drewN ?_ _)

set_option maxRecDepth 100000 in
set_option maxHeartbeats 1000000 in
theorem rtakes_dex (a x y s p : Int) (w : World) : Calls Tryd.prog 10 #[rv a x y s p, .string { data := #[68, 69, 88] }] w fun e w' => e = .returned (.bool false) ∧ Ext w w' := by
  unfold rv
  go_enter Tryd.func10, Tryd.ntmps10
  go_wp2
  go_ret
  refine ⟨rfl, ?_⟩
  repeat (first | exact Ext.refl _ | refine Ext.alloc ?_ _ | refine Ext.ext ?_ _ _ | refine Ext.drew ?_ | refine Ext.drewN ?_ _)

set_option maxRecDepth 100000 in
set_option maxHeartbeats 1000000 in
theorem rtakes_dey (a x y s p : Int) (w : World) : Calls Tryd.prog 10 #[rv a x y s p, .string { data := #[68, 69, 89] }] w fun e w' => e = .returned (.bool false) ∧ Ext w w' := by
  unfold rv
  go_enter Tryd.func10, Tryd.ntmps10
  go_wp2
  go_ret
  refine ⟨rfl, ?_⟩
  repeat (first | exact Ext.refl _ | refine Ext.alloc ?_ _ | refine Ext.ext ?_ _ _ | refine Ext.drew ?_ | refine Ext.drewN ?_ _)

set_option maxRecDepth 100000 in
set_option maxHeartbeats 1000000 in
theorem rtakes_clc (a x y s p : Int) (w : World) : Calls Tryd.prog 10 #[rv a x y s p, .string { data := #[67, 76, 67] }] w fun e w' => e = .returned (.bool false) ∧ Ext w w' := by
  unfold rv
  go_enter Tryd.func10, Tryd.ntmps10
  go_wp2
  go_ret
  refine ⟨rfl, ?_⟩
  repeat (first | exact Ext.refl _ | refine Ext.alloc ?_ _ | refine Ext.ext ?_ _ _ | refine Ext.drew ?_ | refine Ext.drewN ?_ _)

set_option maxRecDepth 100000 in
set_option maxHeartbeats 1000000 in
theorem rtakes_sec (a x y s p : Int) (w : World) : Calls Tryd.prog 10 #[rv a x y s p, .string { data := #[83, 69, 67] }] w fun e w' => e = .returned (.bool false) ∧ Ext w w' := by
  unfold rv
  go_enter Tryd.func10, Tryd.ntmps10
  go_wp2
  go_ret
  refine ⟨rfl, ?_⟩
  repeat (first | exact Ext.refl _ | refine Ext.alloc ?_ _ | refine Ext.ext ?_ _ _ | refine Ext.drew ?_ | refine Ext.drewN ?_ _)

set_option maxRecDepth 100000 in
set_option maxHeartbeats 1000000 in
theorem rtakes_cli (a x y s p : Int) (w : World) : Calls Tryd.prog 10 #[rv a x y s p, .string { data := #[67, 76, 73] }] w fun e w' => e = .returned (.bool false) ∧ Ext w w' := by
  unfold rv
  go_enter Tryd.func10, Tryd.ntmps10
  go_wp2
  go_ret
  refine ⟨rfl, ?_⟩
  repeat (first | exact Ext.refl _ | refine Ext.alloc ?_ _ | refine Ext.ext ?_ _ _ | refine Ext.drew ?_ | refine Ext.drewN ?_ _)

set_option maxRecDepth 100000 in
set_option maxHeartbeats 1000000 in
theorem rtakes_sei (a x y s p : Int) (w : World) : Calls Tryd.prog 10 #[rv a x y s p, .string { data := #[83, 69, 73] }] w fun e w' => e = .returned (.bool false) ∧ Ext w w' := by
  unfold rv
  go_enter Tryd.func10, Tryd.ntmps10
  go_wp2
  go_ret
  refine ⟨rfl, ?_⟩
  repeat (first | exact Ext.refl _ | refine Ext.alloc ?_ _ | refine Ext.ext ?_ _ _ | refine Ext.drew ?_ | refine Ext.drewN ?_ _)

set_option maxRecDepth 100000 in
set_option maxHeartbeats 1000000 in
theorem rtakes_clv (a x y s p : Int) (w : World) : Calls Tryd.prog 10 #[rv a x y s p, .string { data := #[67, 76, 86] }] w fun e w' => e = .returned (.bool false) ∧ Ext w w' := by
  unfold rv
  go_enter Tryd.func10, Tryd.ntmps10
  go_wp2
  go_ret
  refine ⟨rfl, ?_⟩
  repeat (first | exact Ext.refl _ | refine Ext.alloc ?_ _ | refine Ext.ext ?_ _ _ | refine Ext.drew ?_ | refine Ext.drewN ?_ _)

set_option maxRecDepth 100000 in
set_option maxHeartbeats 1000000 in
theorem rtakes_cld (a x y s p : Int) (w : World) : Calls Tryd.prog 10 #[rv a x y s p, .string { data := #[67, 76, 68] }] w fun e w' => e = .returned (.bool false) ∧ Ext w w' := by
  unfold rv
  go_enter Tryd.func10, Tryd.ntmps10
  go_wp2
  go_ret
  refine ⟨rfl, ?_⟩
  repeat (first | exact Ext.refl _ | refine Ext.alloc ?_ _ | refine Ext.ext ?_ _ _ | refine Ext.drew ?_ | refine Ext.drewN ?_ _)

set_option maxRecDepth 100000 in
set_option maxHeartbeats 1000000 in
theorem rtakes_sed (a x y s p : Int) (w : World) : Calls Tryd.prog 10 #[rv a x y s p, .string { data := #[83, 69, 68] }] w fun e w' => e = .returned (.bool false) ∧ Ext w w' := by
  unfold rv
  go_enter Tryd.func10, Tryd.ntmps10
  go_wp2
  go_ret
  refine ⟨rfl, ?_⟩
  repeat (first | exact Ext.refl _ | refine Ext.alloc ?_ _ | refine Ext.ext ?_ _ _ | refine Ext.drew ?_ | refine Ext.drewN ?_ _)

set_option maxRecDepth 100000 in
set_option maxHeartbeats 1000000 in
theorem rtakes_jmp (a x y s p : Int) (w : World) : Calls Tryd.prog 10 #[rv a x y s p, .string { data := #[74, 77, 80] }] w fun e w' => e = .returned (.bool false) ∧ Ext w w' := by
  unfold rv
  go_enter Tryd.func10, Tryd.ntmps10
  go_wp2
  go_ret
  refine ⟨rfl, ?_⟩
  repeat (first | exact Ext.refl _ | refine Ext.alloc ?_ _ | refine Ext.ext ?_ _ _ | refine Ext.drew ?_ | refine Ext.drewN ?_ _)

set_option maxRecDepth 100000 in
set_option maxHeartbeats 1000000 in
theorem rtakes_jsr (a x y s p : Int) (w : World) : Calls Tryd.prog 10 #[rv a x y s p, .string { data := #[74, 83, 82] }] w fun e w' => e = .returned (.bool false) ∧ Ext w w' := by
  unfold rv
  go_enter Tryd.func10, Tryd.ntmps10
  go_wp2
  go_ret
  refine ⟨rfl, ?_⟩
  repeat (first | exact Ext.refl _ | refine Ext.alloc ?_ _ | refine Ext.ext ?_ _ _ | refine Ext.drew ?_ | refine Ext.drewN ?_ _)

set_option maxRecDepth 100000 in
set_option maxHeartbeats 1000000 in
theorem rtakes_rts (a x y s p : Int) (w : World) : Calls Tryd.prog 10 #[rv a x y s p, .string { data := #[82, 84, 83] }] w fun e w' => e = .returned (.bool false) ∧ Ext w w' := by
  unfold rv
  go_enter Tryd.func10, Tryd.ntmps10
  go_wp2
  go_ret
  refine ⟨rfl, ?_⟩
  repeat (first | exact Ext.refl _ | refine Ext.alloc ?_ _ | refine Ext.ext ?_ _ _ | refine Ext.drew ?_ | refine Ext.drewN ?_ _)

set_option maxRecDepth 100000 in
set_option maxHeartbeats 1000000 in
theorem rtakes_rti (a x y s p : Int) (w : World) : Calls Tryd.prog 10 #[rv a x y s p, .string { data := #[82, 84, 73] }] w fun e w' => e = .returned (.bool false) ∧ Ext w w' := by
  unfold rv
  go_enter Tryd.func10, Tryd.ntmps10
  go_wp2
  go_ret
  refine ⟨rfl, ?_⟩
  repeat (first | exact Ext.refl _ | refine Ext.alloc ?_ _ | refine Ext.ext ?_ _ _ | refine Ext.drew ?_ | refine Ext.drewN ?_ _)

set_option maxRecDepth 100000 in
set_option maxHeartbeats 1000000 in
theorem rtakes_brk (a x y s p : Int) (w : World) : Calls Tryd.prog 10 #[rv a x y s p, .string { data := #[66, 82, 75] }] w fun e w' => e = .returned (.bool false) ∧ Ext w w' := by
  unfold rv
  go_enter Tryd.func10, Tryd.ntmps10
  go_wp2
  go_ret
  refine ⟨rfl, ?_⟩
  repeat (first | exact Ext.refl _ | refine Ext.alloc ?_ _ | refine Ext.ext ?_ _ _ | refine Ext.drew ?_ | refine Ext.drewN ?_ _)

set_option maxRecDepth 100000 in
set_option maxHeartbeats 1000000 in
theorem rtakes_pha (a x y s p : Int) (w : World) : Calls Tryd.prog 10 #[rv a x y s p, .string { data := #[80, 72, 65] }] w fun e w' => e = .returned (.bool false) ∧ Ext w w' := by
  unfold rv
  go_enter Tryd.func10, Tryd.ntmps10
  go_wp2
  go_ret
  refine ⟨rfl, ?_⟩
  repeat (first | exact Ext.refl _ | refine Ext.alloc ?_ _ | refine Ext.ext ?_ _ _ | refine Ext.drew ?_ | refine Ext.drewN ?_ _)

set_option maxRecDepth 100000 in
set_option maxHeartbeats 1000000 in
theorem rtakes_php (a x y s p : Int) (w : World) : Calls Tryd.prog 10 #[rv a x y s p, .string { data := #[80, 72, 80] }] w fun e w' => e = .returned (.bool false) ∧ Ext w w' := by
  unfold rv
  go_enter Tryd.func10, Tryd.ntmps10
  go_wp2
  go_ret
  refine ⟨rfl, ?_⟩
  repeat (first | exact Ext.refl _ | refine Ext.alloc ?_ _ | refine Ext.ext ?_ _ _ | refine Ext.drew ?_ | refine Ext.drewN ?_ _)

set_option maxRecDepth 100000 in
set_option maxHeartbeats 1000000 in
theorem rtakes_pla (a x y s p : Int) (w : World) : Calls Tryd.prog 10 #[rv a x y s p, .string { data := #[80, 76, 65] }] w fun e w' => e = .returned (.bool false) ∧ Ext w w' := by
  unfold rv
  go_enter Tryd.func10, Tryd.ntmps10
  go_wp2
  go_ret
  refine ⟨rfl, ?_⟩
  repeat (first | exact Ext.refl _ | refine Ext.alloc ?_ _ | refine Ext.ext ?_ _ _ | refine Ext.drew ?_ | refine Ext.drewN ?_ _)

set_option maxRecDepth 100000 in
set_option maxHeartbeats 1000000 in
theorem rtakes_plp (a x y s p : Int) (w : World) : Calls Tryd.prog 10 #[rv a x y s p, .string { data := #[80, 76, 80] }] w fun e w' => e = .returned (.bool false) ∧ Ext w w' := by
  unfold rv
  go_enter Tryd.func10, Tryd.ntmps10
  go_wp2
  go_ret
  refine ⟨rfl, ?_⟩
  repeat (first | exact Ext.refl _ | refine Ext.alloc ?_ _ | refine Ext.ext ?_ _ _ | refine Ext.drew ?_ | refine Ext.drewN ?_ _)

set_option maxRecDepth 100000 in
set_option maxHeartbeats 1000000 in
theorem rtakes_jam (a x y s p : Int) (w : World) : Calls Tryd.prog 10 #[rv a x y s p, .string { data := #[74, 65, 77] }] w fun e w' => e = .returned (.bool false) ∧ Ext w w' := by
  unfold rv
  go_enter Tryd.func10, Tryd.ntmps10
  go_wp2
  go_ret
  refine ⟨rfl, ?_⟩
  repeat (first | exact Ext.refl _ | refine Ext.alloc ?_ _ | refine Ext.ext ?_ _ _ | refine Ext.drew ?_ | refine Ext.drewN ?_ _)

set_option maxRecDepth 100000 in
set_option maxHeartbeats 1000000 in
theorem rtakes_none (a x y s p : Int) (w : World) : Calls Tryd.prog 10 #[rv a x y s p, .string { data := #[] }] w fun e w' => e = .returned (.bool false) ∧ Ext w w' := by
  unfold rv
  go_enter Tryd.func10, Tryd.ntmps10
  go_wp2
  go_ret
  refine ⟨rfl, ?_⟩
  repeat (first | exact Ext.refl _ | refine Ext.alloc ?_ _ | refine Ext.ext ?_ _ _ | refine Ext.drew ?_ | refine Ext.drewN ?_ _)

end Go.Proofs.YtigpmmjbdpnkjaaDoor
