/- Stores and branches: names that store nothing. No law is claimed here. -/
import Derived.Test.YtigpmmjbdpnkjaaDoorRU7
import Derived.Test.YtigpmmjbdpnkjaaDoorRU10
import Derived.Test.YtigpmmjbdpnkjaaDoorAluA
import Derived.BigQuiet
namespace Go.Proofs.YtigpmmjbdpnkjaaDoor
open Go.RowKit

set_option maxRecDepth 100000 in
set_option maxHeartbeats 1000000 in
theorem rstore_nop (a x y s p : Int) (w : World) : Calls Tryd.prog 7 #[rv a x y s p, .string { data := #[78, 79, 80] }] w fun e w' => e = .returned (.int .i64 0) ∧ Ext w w' := by
  unfold rv
  go_enter Tryd.func7, Tryd.ntmps7
  go_wp2
  go_ret
  refine ⟨rfl, ?_⟩
  repeat (first | exact Ext.refl _ | refine Ext.alloc ?_ _ | refine Ext.ext ?_ _ _ | refine Ext.drew ?_ | refine Ext.drewN ?_ _)

set_option maxRecDepth 100000 in
set_option maxHeartbeats 1000000 in
theorem rstore_ora (a x y s p : Int) (w : World) : Calls Tryd.prog 7 #[rv a x y s p, .string { data := #[79, 82, 65] }] w fun e w' => e = .returned (.int .i64 0) ∧ Ext w w' := by
  unfold rv
  go_enter Tryd.func7, Tryd.ntmps7
  go_wp2
  go_ret
  refine ⟨rfl, ?_⟩
  repeat (first | exact Ext.refl _ | refine Ext.alloc ?_ _ | refine Ext.ext ?_ _ _ | refine Ext.drew ?_ | refine Ext.drewN ?_ _)

set_option maxRecDepth 100000 in
set_option maxHeartbeats 1000000 in
theorem rstore_and (a x y s p : Int) (w : World) : Calls Tryd.prog 7 #[rv a x y s p, .string { data := #[65, 78, 68] }] w fun e w' => e = .returned (.int .i64 0) ∧ Ext w w' := by
  unfold rv
  go_enter Tryd.func7, Tryd.ntmps7
  go_wp2
  go_ret
  refine ⟨rfl, ?_⟩
  repeat (first | exact Ext.refl _ | refine Ext.alloc ?_ _ | refine Ext.ext ?_ _ _ | refine Ext.drew ?_ | refine Ext.drewN ?_ _)

set_option maxRecDepth 100000 in
set_option maxHeartbeats 1000000 in
theorem rstore_eor (a x y s p : Int) (w : World) : Calls Tryd.prog 7 #[rv a x y s p, .string { data := #[69, 79, 82] }] w fun e w' => e = .returned (.int .i64 0) ∧ Ext w w' := by
  unfold rv
  go_enter Tryd.func7, Tryd.ntmps7
  go_wp2
  go_ret
  refine ⟨rfl, ?_⟩
  repeat (first | exact Ext.refl _ | refine Ext.alloc ?_ _ | refine Ext.ext ?_ _ _ | refine Ext.drew ?_ | refine Ext.drewN ?_ _)

set_option maxRecDepth 100000 in
set_option maxHeartbeats 1000000 in
theorem rstore_adc (a x y s p : Int) (w : World) : Calls Tryd.prog 7 #[rv a x y s p, .string { data := #[65, 68, 67] }] w fun e w' => e = .returned (.int .i64 0) ∧ Ext w w' := by
  unfold rv
  go_enter Tryd.func7, Tryd.ntmps7
  go_wp2
  go_ret
  refine ⟨rfl, ?_⟩
  repeat (first | exact Ext.refl _ | refine Ext.alloc ?_ _ | refine Ext.ext ?_ _ _ | refine Ext.drew ?_ | refine Ext.drewN ?_ _)

set_option maxRecDepth 100000 in
set_option maxHeartbeats 1000000 in
theorem rstore_sbc (a x y s p : Int) (w : World) : Calls Tryd.prog 7 #[rv a x y s p, .string { data := #[83, 66, 67] }] w fun e w' => e = .returned (.int .i64 0) ∧ Ext w w' := by
  unfold rv
  go_enter Tryd.func7, Tryd.ntmps7
  go_wp2
  go_ret
  refine ⟨rfl, ?_⟩
  repeat (first | exact Ext.refl _ | refine Ext.alloc ?_ _ | refine Ext.ext ?_ _ _ | refine Ext.drew ?_ | refine Ext.drewN ?_ _)

set_option maxRecDepth 100000 in
set_option maxHeartbeats 1000000 in
theorem rstore_cmp (a x y s p : Int) (w : World) : Calls Tryd.prog 7 #[rv a x y s p, .string { data := #[67, 77, 80] }] w fun e w' => e = .returned (.int .i64 0) ∧ Ext w w' := by
  unfold rv
  go_enter Tryd.func7, Tryd.ntmps7
  go_wp2
  go_ret
  refine ⟨rfl, ?_⟩
  repeat (first | exact Ext.refl _ | refine Ext.alloc ?_ _ | refine Ext.ext ?_ _ _ | refine Ext.drew ?_ | refine Ext.drewN ?_ _)

set_option maxRecDepth 100000 in
set_option maxHeartbeats 1000000 in
theorem rstore_cpx (a x y s p : Int) (w : World) : Calls Tryd.prog 7 #[rv a x y s p, .string { data := #[67, 80, 88] }] w fun e w' => e = .returned (.int .i64 0) ∧ Ext w w' := by
  unfold rv
  go_enter Tryd.func7, Tryd.ntmps7
  go_wp2
  go_ret
  refine ⟨rfl, ?_⟩
  repeat (first | exact Ext.refl _ | refine Ext.alloc ?_ _ | refine Ext.ext ?_ _ _ | refine Ext.drew ?_ | refine Ext.drewN ?_ _)

set_option maxRecDepth 100000 in
set_option maxHeartbeats 1000000 in
theorem rstore_cpy (a x y s p : Int) (w : World) : Calls Tryd.prog 7 #[rv a x y s p, .string { data := #[67, 80, 89] }] w fun e w' => e = .returned (.int .i64 0) ∧ Ext w w' := by
  unfold rv
  go_enter Tryd.func7, Tryd.ntmps7
  go_wp2
  go_ret
  refine ⟨rfl, ?_⟩
  repeat (first | exact Ext.refl _ | refine Ext.alloc ?_ _ | refine Ext.ext ?_ _ _ | refine Ext.drew ?_ | refine Ext.drewN ?_ _)

set_option maxRecDepth 100000 in
set_option maxHeartbeats 1000000 in
theorem rstore_lda (a x y s p : Int) (w : World) : Calls Tryd.prog 7 #[rv a x y s p, .string { data := #[76, 68, 65] }] w fun e w' => e = .returned (.int .i64 0) ∧ Ext w w' := by
  unfold rv
  go_enter Tryd.func7, Tryd.ntmps7
  go_wp2
  go_ret
  refine ⟨rfl, ?_⟩
  repeat (first | exact Ext.refl _ | refine Ext.alloc ?_ _ | refine Ext.ext ?_ _ _ | refine Ext.drew ?_ | refine Ext.drewN ?_ _)

set_option maxRecDepth 100000 in
set_option maxHeartbeats 1000000 in
theorem rstore_ldx (a x y s p : Int) (w : World) : Calls Tryd.prog 7 #[rv a x y s p, .string { data := #[76, 68, 88] }] w fun e w' => e = .returned (.int .i64 0) ∧ Ext w w' := by
  unfold rv
  go_enter Tryd.func7, Tryd.ntmps7
  go_wp2
  go_ret
  refine ⟨rfl, ?_⟩
  repeat (first | exact Ext.refl _ | refine Ext.alloc ?_ _ | refine Ext.ext ?_ _ _ | refine Ext.drew ?_ | refine Ext.drewN ?_ _)

set_option maxRecDepth 100000 in
set_option maxHeartbeats 1000000 in
theorem rstore_ldy (a x y s p : Int) (w : World) : Calls Tryd.prog 7 #[rv a x y s p, .string { data := #[76, 68, 89] }] w fun e w' => e = .returned (.int .i64 0) ∧ Ext w w' := by
  unfold rv
  go_enter Tryd.func7, Tryd.ntmps7
  go_wp2
  go_ret
  refine ⟨rfl, ?_⟩
  repeat (first | exact Ext.refl _ | refine Ext.alloc ?_ _ | refine Ext.ext ?_ _ _ | refine Ext.drew ?_ | refine Ext.drewN ?_ _)

set_option maxRecDepth 100000 in
set_option maxHeartbeats 1000000 in
theorem rstore_bit (a x y s p : Int) (w : World) : Calls Tryd.prog 7 #[rv a x y s p, .string { data := #[66, 73, 84] }] w fun e w' => e = .returned (.int .i64 0) ∧ Ext w w' := by
  unfold rv
  go_enter Tryd.func7, Tryd.ntmps7
  go_wp2
  go_ret
  refine ⟨rfl, ?_⟩
  repeat (first | exact Ext.refl _ | refine Ext.alloc ?_ _ | refine Ext.ext ?_ _ _ | refine Ext.drew ?_ | refine Ext.drewN ?_ _)

set_option maxRecDepth 100000 in
set_option maxHeartbeats 1000000 in
theorem rstore_lax (a x y s p : Int) (w : World) : Calls Tryd.prog 7 #[rv a x y s p, .string { data := #[76, 65, 88] }] w fun e w' => e = .returned (.int .i64 0) ∧ Ext w w' := by
  unfold rv
  go_enter Tryd.func7, Tryd.ntmps7
  go_wp2
  go_ret
  refine ⟨rfl, ?_⟩
  repeat (first | exact Ext.refl _ | refine Ext.alloc ?_ _ | refine Ext.ext ?_ _ _ | refine Ext.drew ?_ | refine Ext.drewN ?_ _)

set_option maxRecDepth 100000 in
set_option maxHeartbeats 1000000 in
theorem rstore_anc (a x y s p : Int) (w : World) : Calls Tryd.prog 7 #[rv a x y s p, .string { data := #[65, 78, 67] }] w fun e w' => e = .returned (.int .i64 0) ∧ Ext w w' := by
  unfold rv
  go_enter Tryd.func7, Tryd.ntmps7
  go_wp2
  go_ret
  refine ⟨rfl, ?_⟩
  repeat (first | exact Ext.refl _ | refine Ext.alloc ?_ _ | refine Ext.ext ?_ _ _ | refine Ext.drew ?_ | refine Ext.drewN ?_ _)

set_option maxRecDepth 100000 in
set_option maxHeartbeats 1000000 in
theorem rstore_alr (a x y s p : Int) (w : World) : Calls Tryd.prog 7 #[rv a x y s p, .string { data := #[65, 76, 82] }] w fun e w' => e = .returned (.int .i64 0) ∧ Ext w w' := by
  unfold rv
  go_enter Tryd.func7, Tryd.ntmps7
  go_wp2
  go_ret
  refine ⟨rfl, ?_⟩
  repeat (first | exact Ext.refl _ | refine Ext.alloc ?_ _ | refine Ext.ext ?_ _ _ | refine Ext.drew ?_ | refine Ext.drewN ?_ _)

set_option maxRecDepth 100000 in
set_option maxHeartbeats 1000000 in
theorem rstore_arr (a x y s p : Int) (w : World) : Calls Tryd.prog 7 #[rv a x y s p, .string { data := #[65, 82, 82] }] w fun e w' => e = .returned (.int .i64 0) ∧ Ext w w' := by
  unfold rv
  go_enter Tryd.func7, Tryd.ntmps7
  go_wp2
  go_ret
  refine ⟨rfl, ?_⟩
  repeat (first | exact Ext.refl _ | refine Ext.alloc ?_ _ | refine Ext.ext ?_ _ _ | refine Ext.drew ?_ | refine Ext.drewN ?_ _)

set_option maxRecDepth 100000 in
set_option maxHeartbeats 1000000 in
theorem rstore_axs (a x y s p : Int) (w : World) : Calls Tryd.prog 7 #[rv a x y s p, .string { data := #[65, 88, 83] }] w fun e w' => e = .returned (.int .i64 0) ∧ Ext w w' := by
  unfold rv
  go_enter Tryd.func7, Tryd.ntmps7
  go_wp2
  go_ret
  refine ⟨rfl, ?_⟩
  repeat (first | exact Ext.refl _ | refine Ext.alloc ?_ _ | refine Ext.ext ?_ _ _ | refine Ext.drew ?_ | refine Ext.drewN ?_ _)

set_option maxRecDepth 100000 in
set_option maxHeartbeats 1000000 in
theorem rstore_las (a x y s p : Int) (w : World) : Calls Tryd.prog 7 #[rv a x y s p, .string { data := #[76, 65, 83] }] w fun e w' => e = .returned (.int .i64 0) ∧ Ext w w' := by
  unfold rv
  go_enter Tryd.func7, Tryd.ntmps7
  go_wp2
  go_ret
  refine ⟨rfl, ?_⟩
  repeat (first | exact Ext.refl _ | refine Ext.alloc ?_ _ | refine Ext.ext ?_ _ _ | refine Ext.drew ?_ | refine Ext.drewN ?_ _)

set_option maxRecDepth 100000 in
set_option maxHeartbeats 1000000 in
theorem rstore_asl (a x y s p : Int) (w : World) : Calls Tryd.prog 7 #[rv a x y s p, .string { data := #[65, 83, 76] }] w fun e w' => e = .returned (.int .i64 0) ∧ Ext w w' := by
  unfold rv
  go_enter Tryd.func7, Tryd.ntmps7
  go_wp2
  go_ret
  refine ⟨rfl, ?_⟩
  repeat (first | exact Ext.refl _ | refine Ext.alloc ?_ _ | refine Ext.ext ?_ _ _ | refine Ext.drew ?_ | refine Ext.drewN ?_ _)

set_option maxRecDepth 100000 in
set_option maxHeartbeats 1000000 in
theorem rstore_lsr (a x y s p : Int) (w : World) : Calls Tryd.prog 7 #[rv a x y s p, .string { data := #[76, 83, 82] }] w fun e w' => e = .returned (.int .i64 0) ∧ Ext w w' := by
  unfold rv
  go_enter Tryd.func7, Tryd.ntmps7
  go_wp2
  go_ret
  refine ⟨rfl, ?_⟩
  repeat (first | exact Ext.refl _ | refine Ext.alloc ?_ _ | refine Ext.ext ?_ _ _ | refine Ext.drew ?_ | refine Ext.drewN ?_ _)

set_option maxRecDepth 100000 in
set_option maxHeartbeats 1000000 in
theorem rstore_rol (a x y s p : Int) (w : World) : Calls Tryd.prog 7 #[rv a x y s p, .string { data := #[82, 79, 76] }] w fun e w' => e = .returned (.int .i64 0) ∧ Ext w w' := by
  unfold rv
  go_enter Tryd.func7, Tryd.ntmps7
  go_wp2
  go_ret
  refine ⟨rfl, ?_⟩
  repeat (first | exact Ext.refl _ | refine Ext.alloc ?_ _ | refine Ext.ext ?_ _ _ | refine Ext.drew ?_ | refine Ext.drewN ?_ _)

set_option maxRecDepth 100000 in
set_option maxHeartbeats 1000000 in
theorem rstore_ror (a x y s p : Int) (w : World) : Calls Tryd.prog 7 #[rv a x y s p, .string { data := #[82, 79, 82] }] w fun e w' => e = .returned (.int .i64 0) ∧ Ext w w' := by
  unfold rv
  go_enter Tryd.func7, Tryd.ntmps7
  go_wp2
  go_ret
  refine ⟨rfl, ?_⟩
  repeat (first | exact Ext.refl _ | refine Ext.alloc ?_ _ | refine Ext.ext ?_ _ _ | refine Ext.drew ?_ | refine Ext.drewN ?_ _)

set_option maxRecDepth 100000 in
set_option maxHeartbeats 1000000 in
theorem rstore_inc (a x y s p : Int) (w : World) : Calls Tryd.prog 7 #[rv a x y s p, .string { data := #[73, 78, 67] }] w fun e w' => e = .returned (.int .i64 0) ∧ Ext w w' := by
  unfold rv
  go_enter Tryd.func7, Tryd.ntmps7
  go_wp2
  go_ret
  refine ⟨rfl, ?_⟩
  repeat (first | exact Ext.refl _ | refine Ext.alloc ?_ _ | refine Ext.ext ?_ _ _ | refine Ext.drew ?_ | refine Ext.drewN ?_ _)

set_option maxRecDepth 100000 in
set_option maxHeartbeats 1000000 in
theorem rstore_dec (a x y s p : Int) (w : World) : Calls Tryd.prog 7 #[rv a x y s p, .string { data := #[68, 69, 67] }] w fun e w' => e = .returned (.int .i64 0) ∧ Ext w w' := by
  unfold rv
  go_enter Tryd.func7, Tryd.ntmps7
  go_wp2
  go_ret
  refine ⟨rfl, ?_⟩
  repeat (first | exact Ext.refl _ | refine Ext.alloc ?_ _ | refine Ext.ext ?_ _ _ | refine Ext.drew ?_ | refine Ext.drewN ?_ _)

set_option maxRecDepth 100000 in
set_option maxHeartbeats 1000000 in
theorem rstore_slo (a x y s p : Int) (w : World) : Calls Tryd.prog 7 #[rv a x y s p, .string { data := #[83, 76, 79] }] w fun e w' => e = .returned (.int .i64 0) ∧ Ext w w' := by
  unfold rv
  go_enter Tryd.func7, Tryd.ntmps7
  go_wp2
  go_ret
  refine ⟨rfl, ?_⟩
  repeat (first | exact Ext.refl _ | refine Ext.alloc ?_ _ | refine Ext.ext ?_ _ _ | refine Ext.drew ?_ | refine Ext.drewN ?_ _)

set_option maxRecDepth 100000 in
set_option maxHeartbeats 1000000 in
theorem rstore_rla (a x y s p : Int) (w : World) : Calls Tryd.prog 7 #[rv a x y s p, .string { data := #[82, 76, 65] }] w fun e w' => e = .returned (.int .i64 0) ∧ Ext w w' := by
  unfold rv
  go_enter Tryd.func7, Tryd.ntmps7
  go_wp2
  go_ret
  refine ⟨rfl, ?_⟩
  repeat (first | exact Ext.refl _ | refine Ext.alloc ?_ _ | refine Ext.ext ?_ _ _ | refine Ext.drew ?_ | refine Ext.drewN ?_ _)

set_option maxRecDepth 100000 in
set_option maxHeartbeats 1000000 in
theorem rstore_sre (a x y s p : Int) (w : World) : Calls Tryd.prog 7 #[rv a x y s p, .string { data := #[83, 82, 69] }] w fun e w' => e = .returned (.int .i64 0) ∧ Ext w w' := by
  unfold rv
  go_enter Tryd.func7, Tryd.ntmps7
  go_wp2
  go_ret
  refine ⟨rfl, ?_⟩
  repeat (first | exact Ext.refl _ | refine Ext.alloc ?_ _ | refine Ext.ext ?_ _ _ | refine Ext.drew ?_ | refine Ext.drewN ?_ _)

set_option maxRecDepth 100000 in
set_option maxHeartbeats 1000000 in
theorem rstore_rra (a x y s p : Int) (w : World) : Calls Tryd.prog 7 #[rv a x y s p, .string { data := #[82, 82, 65] }] w fun e w' => e = .returned (.int .i64 0) ∧ Ext w w' := by
  unfold rv
  go_enter Tryd.func7, Tryd.ntmps7
  go_wp2
  go_ret
  refine ⟨rfl, ?_⟩
  repeat (first | exact Ext.refl _ | refine Ext.alloc ?_ _ | refine Ext.ext ?_ _ _ | refine Ext.drew ?_ | refine Ext.drewN ?_ _)

set_option maxRecDepth 100000 in
set_option maxHeartbeats 1000000 in
theorem rstore_dcp (a x y s p : Int) (w : World) : Calls Tryd.prog 7 #[rv a x y s p, .string { data := #[68, 67, 80] }] w fun e w' => e = .returned (.int .i64 0) ∧ Ext w w' := by
  unfold rv
  go_enter Tryd.func7, Tryd.ntmps7
  go_wp2
  go_ret
  refine ⟨rfl, ?_⟩
  repeat (first | exact Ext.refl _ | refine Ext.alloc ?_ _ | refine Ext.ext ?_ _ _ | refine Ext.drew ?_ | refine Ext.drewN ?_ _)

set_option maxRecDepth 100000 in
set_option maxHeartbeats 1000000 in
theorem rstore_isc (a x y s p : Int) (w : World) : Calls Tryd.prog 7 #[rv a x y s p, .string { data := #[73, 83, 67] }] w fun e w' => e = .returned (.int .i64 0) ∧ Ext w w' := by
  unfold rv
  go_enter Tryd.func7, Tryd.ntmps7
  go_wp2
  go_ret
  refine ⟨rfl, ?_⟩
  repeat (first | exact Ext.refl _ | refine Ext.alloc ?_ _ | refine Ext.ext ?_ _ _ | refine Ext.drew ?_ | refine Ext.drewN ?_ _)

set_option maxRecDepth 100000 in
set_option maxHeartbeats 1000000 in
theorem rstore_tax (a x y s p : Int) (w : World) : Calls Tryd.prog 7 #[rv a x y s p, .string { data := #[84, 65, 88] }] w fun e w' => e = .returned (.int .i64 0) ∧ Ext w w' := by
  unfold rv
  go_enter Tryd.func7, Tryd.ntmps7
  go_wp2
  go_ret
  refine ⟨rfl, ?_⟩
  repeat (first | exact Ext.refl _ | refine Ext.alloc ?_ _ | refine Ext.ext ?_ _ _ | refine Ext.drew ?_ | refine Ext.drewN ?_ _)

set_option maxRecDepth 100000 in
set_option maxHeartbeats 1000000 in
theorem rstore_tay (a x y s p : Int) (w : World) : Calls Tryd.prog 7 #[rv a x y s p, .string { data := #[84, 65, 89] }] w fun e w' => e = .returned (.int .i64 0) ∧ Ext w w' := by
  unfold rv
  go_enter Tryd.func7, Tryd.ntmps7
  go_wp2
  go_ret
  refine ⟨rfl, ?_⟩
  repeat (first | exact Ext.refl _ | refine Ext.alloc ?_ _ | refine Ext.ext ?_ _ _ | refine Ext.drew ?_ | refine Ext.drewN ?_ _)

set_option maxRecDepth 100000 in
set_option maxHeartbeats 1000000 in
theorem rstore_txa (a x y s p : Int) (w : World) : Calls Tryd.prog 7 #[rv a x y s p, .string { data := #[84, 88, 65] }] w fun e w' => e = .returned (.int .i64 0) ∧ Ext w w' := by
  unfold rv
  go_enter Tryd.func7, Tryd.ntmps7
  go_wp2
  go_ret
  refine ⟨rfl, ?_⟩
  repeat (first | exact Ext.refl _ | refine Ext.alloc ?_ _ | refine Ext.ext ?_ _ _ | refine Ext.drew ?_ | refine Ext.drewN ?_ _)

set_option maxRecDepth 100000 in
set_option maxHeartbeats 1000000 in
theorem rstore_tya (a x y s p : Int) (w : World) : Calls Tryd.prog 7 #[rv a x y s p, .string { data := #[84, 89, 65] }] w fun e w' => e = .returned (.int .i64 0) ∧ Ext w w' := by
  unfold rv
  go_enter Tryd.func7, Tryd.ntmps7
  go_wp2
  go_ret
  refine ⟨rfl, ?_⟩
  repeat (first | exact Ext.refl _ | refine Ext.alloc ?_ _ | refine Ext.ext ?_ _ _ | refine Ext.drew ?_ | refine Ext.drewN ?_ _)

set_option maxRecDepth 100000 in
set_option maxHeartbeats 1000000 in
theorem rstore_tsx (a x y s p : Int) (w : World) : Calls Tryd.prog 7 #[rv a x y s p, .string { data := #[84, 83, 88] }] w fun e w' => e = .returned (.int .i64 0) ∧ Ext w w' := by
  unfold rv
  go_enter Tryd.func7, Tryd.ntmps7
  go_wp2
  go_ret
  refine ⟨rfl, ?_⟩
  repeat (first | exact Ext.refl _ | refine Ext.alloc ?_ _ | refine Ext.ext ?_ _ _ | refine Ext.drew ?_ | refine Ext.drewN ?_ _)

set_option maxRecDepth 100000 in
set_option maxHeartbeats 1000000 in
theorem rstore_txs (a x y s p : Int) (w : World) : Calls Tryd.prog 7 #[rv a x y s p, .string { data := #[84, 88, 83] }] w fun e w' => e = .returned (.int .i64 0) ∧ Ext w w' := by
  unfold rv
  go_enter Tryd.func7, Tryd.ntmps7
  go_wp2
  go_ret
  refine ⟨rfl, ?_⟩
  repeat (first | exact Ext.refl _ | refine Ext.alloc ?_ _ | refine Ext.ext ?_ _ _ | refine Ext.drew ?_ | refine Ext.drewN ?_ _)

set_option maxRecDepth 100000 in
set_option maxHeartbeats 1000000 in
theorem rstore_inx (a x y s p : Int) (w : World) : Calls Tryd.prog 7 #[rv a x y s p, .string { data := #[73, 78, 88] }] w fun e w' => e = .returned (.int .i64 0) ∧ Ext w w' := by
  unfold rv
  go_enter Tryd.func7, Tryd.ntmps7
  go_wp2
  go_ret
  refine ⟨rfl, ?_⟩
  repeat (first | exact Ext.refl _ | refine Ext.alloc ?_ _ | refine Ext.ext ?_ _ _ | refine Ext.drew ?_ | refine Ext.drewN ?_ _)

set_option maxRecDepth 100000 in
set_option maxHeartbeats 1000000 in
theorem rstore_iny (a x y s p : Int) (w : World) : Calls Tryd.prog 7 #[rv a x y s p, .string { data := #[73, 78, 89] }] w fun e w' => e = .returned (.int .i64 0) ∧ Ext w w' := by
  unfold rv
  go_enter Tryd.func7, Tryd.ntmps7
  go_wp2
  go_ret
  refine ⟨rfl, ?_⟩
  repeat (first | exact Ext.refl _ | refine Ext.alloc ?_ _ | refine Ext.ext ?_ _ _ | refine Ext.drew ?_ | refine Ext.drewN ?_ _)

set_option maxRecDepth 100000 in
set_option maxHeartbeats 1000000 in
theorem rstore_dex (a x y s p : Int) (w : World) : Calls Tryd.prog 7 #[rv a x y s p, .string { data := #[68, 69, 88] }] w fun e w' => e = .returned (.int .i64 0) ∧ Ext w w' := by
  unfold rv
  go_enter Tryd.func7, Tryd.ntmps7
  go_wp2
  go_ret
  refine ⟨rfl, ?_⟩
  repeat (first | exact Ext.refl _ | refine Ext.alloc ?_ _ | refine Ext.ext ?_ _ _ | refine Ext.drew ?_ | refine Ext.drewN ?_ _)

set_option maxRecDepth 100000 in
set_option maxHeartbeats 1000000 in
theorem rstore_dey (a x y s p : Int) (w : World) : Calls Tryd.prog 7 #[rv a x y s p, .string { data := #[68, 69, 89] }] w fun e w' => e = .returned (.int .i64 0) ∧ Ext w w' := by
  unfold rv
  go_enter Tryd.func7, Tryd.ntmps7
  go_wp2
  go_ret
  refine ⟨rfl, ?_⟩
  repeat (first | exact Ext.refl _ | refine Ext.alloc ?_ _ | refine Ext.ext ?_ _ _ | refine Ext.drew ?_ | refine Ext.drewN ?_ _)

set_option maxRecDepth 100000 in
set_option maxHeartbeats 1000000 in
theorem rstore_clc (a x y s p : Int) (w : World) : Calls Tryd.prog 7 #[rv a x y s p, .string { data := #[67, 76, 67] }] w fun e w' => e = .returned (.int .i64 0) ∧ Ext w w' := by
  unfold rv
  go_enter Tryd.func7, Tryd.ntmps7
  go_wp2
  go_ret
  refine ⟨rfl, ?_⟩
  repeat (first | exact Ext.refl _ | refine Ext.alloc ?_ _ | refine Ext.ext ?_ _ _ | refine Ext.drew ?_ | refine Ext.drewN ?_ _)

set_option maxRecDepth 100000 in
set_option maxHeartbeats 1000000 in
theorem rstore_sec (a x y s p : Int) (w : World) : Calls Tryd.prog 7 #[rv a x y s p, .string { data := #[83, 69, 67] }] w fun e w' => e = .returned (.int .i64 0) ∧ Ext w w' := by
  unfold rv
  go_enter Tryd.func7, Tryd.ntmps7
  go_wp2
  go_ret
  refine ⟨rfl, ?_⟩
  repeat (first | exact Ext.refl _ | refine Ext.alloc ?_ _ | refine Ext.ext ?_ _ _ | refine Ext.drew ?_ | refine Ext.drewN ?_ _)

set_option maxRecDepth 100000 in
set_option maxHeartbeats 1000000 in
theorem rstore_cli (a x y s p : Int) (w : World) : Calls Tryd.prog 7 #[rv a x y s p, .string { data := #[67, 76, 73] }] w fun e w' => e = .returned (.int .i64 0) ∧ Ext w w' := by
  unfold rv
  go_enter Tryd.func7, Tryd.ntmps7
  go_wp2
  go_ret
  refine ⟨rfl, ?_⟩
  repeat (first | exact Ext.refl _ | refine Ext.alloc ?_ _ | refine Ext.ext ?_ _ _ | refine Ext.drew ?_ | refine Ext.drewN ?_ _)

set_option maxRecDepth 100000 in
set_option maxHeartbeats 1000000 in
theorem rstore_sei (a x y s p : Int) (w : World) : Calls Tryd.prog 7 #[rv a x y s p, .string { data := #[83, 69, 73] }] w fun e w' => e = .returned (.int .i64 0) ∧ Ext w w' := by
  unfold rv
  go_enter Tryd.func7, Tryd.ntmps7
  go_wp2
  go_ret
  refine ⟨rfl, ?_⟩
  repeat (first | exact Ext.refl _ | refine Ext.alloc ?_ _ | refine Ext.ext ?_ _ _ | refine Ext.drew ?_ | refine Ext.drewN ?_ _)

set_option maxRecDepth 100000 in
set_option maxHeartbeats 1000000 in
theorem rstore_clv (a x y s p : Int) (w : World) : Calls Tryd.prog 7 #[rv a x y s p, .string { data := #[67, 76, 86] }] w fun e w' => e = .returned (.int .i64 0) ∧ Ext w w' := by
  unfold rv
  go_enter Tryd.func7, Tryd.ntmps7
  go_wp2
  go_ret
  refine ⟨rfl, ?_⟩
  repeat (first | exact Ext.refl _ | refine Ext.alloc ?_ _ | refine Ext.ext ?_ _ _ | refine Ext.drew ?_ | refine Ext.drewN ?_ _)

set_option maxRecDepth 100000 in
set_option maxHeartbeats 1000000 in
theorem rstore_cld (a x y s p : Int) (w : World) : Calls Tryd.prog 7 #[rv a x y s p, .string { data := #[67, 76, 68] }] w fun e w' => e = .returned (.int .i64 0) ∧ Ext w w' := by
  unfold rv
  go_enter Tryd.func7, Tryd.ntmps7
  go_wp2
  go_ret
  refine ⟨rfl, ?_⟩
  repeat (first | exact Ext.refl _ | refine Ext.alloc ?_ _ | refine Ext.ext ?_ _ _ | refine Ext.drew ?_ | refine Ext.drewN ?_ _)

set_option maxRecDepth 100000 in
set_option maxHeartbeats 1000000 in
theorem rstore_sed (a x y s p : Int) (w : World) : Calls Tryd.prog 7 #[rv a x y s p, .string { data := #[83, 69, 68] }] w fun e w' => e = .returned (.int .i64 0) ∧ Ext w w' := by
  unfold rv
  go_enter Tryd.func7, Tryd.ntmps7
  go_wp2
  go_ret
  refine ⟨rfl, ?_⟩
  repeat (first | exact Ext.refl _ | refine Ext.alloc ?_ _ | refine Ext.ext ?_ _ _ | refine Ext.drew ?_ | refine Ext.drewN ?_ _)

set_option maxRecDepth 100000 in
set_option maxHeartbeats 1000000 in
theorem rstore_bpl (a x y s p : Int) (w : World) : Calls Tryd.prog 7 #[rv a x y s p, .string { data := #[66, 80, 76] }] w fun e w' => e = .returned (.int .i64 0) ∧ Ext w w' := by
  unfold rv
  go_enter Tryd.func7, Tryd.ntmps7
  go_wp2
  go_ret
  refine ⟨rfl, ?_⟩
  repeat (first | exact Ext.refl _ | refine Ext.alloc ?_ _ | refine Ext.ext ?_ _ _ | refine Ext.drew ?_ | refine Ext.drewN ?_ _)

set_option maxRecDepth 100000 in
set_option maxHeartbeats 1000000 in
theorem rstore_bmi (a x y s p : Int) (w : World) : Calls Tryd.prog 7 #[rv a x y s p, .string { data := #[66, 77, 73] }] w fun e w' => e = .returned (.int .i64 0) ∧ Ext w w' := by
  unfold rv
  go_enter Tryd.func7, Tryd.ntmps7
  go_wp2
  go_ret
  refine ⟨rfl, ?_⟩
  repeat (first | exact Ext.refl _ | refine Ext.alloc ?_ _ | refine Ext.ext ?_ _ _ | refine Ext.drew ?_ | refine Ext.drewN ?_ _)

set_option maxRecDepth 100000 in
set_option maxHeartbeats 1000000 in
theorem rstore_bvc (a x y s p : Int) (w : World) : Calls Tryd.prog 7 #[rv a x y s p, .string { data := #[66, 86, 67] }] w fun e w' => e = .returned (.int .i64 0) ∧ Ext w w' := by
  unfold rv
  go_enter Tryd.func7, Tryd.ntmps7
  go_wp2
  go_ret
  refine ⟨rfl, ?_⟩
  repeat (first | exact Ext.refl _ | refine Ext.alloc ?_ _ | refine Ext.ext ?_ _ _ | refine Ext.drew ?_ | refine Ext.drewN ?_ _)

set_option maxRecDepth 100000 in
set_option maxHeartbeats 1000000 in
theorem rstore_bvs (a x y s p : Int) (w : World) : Calls Tryd.prog 7 #[rv a x y s p, .string { data := #[66, 86, 83] }] w fun e w' => e = .returned (.int .i64 0) ∧ Ext w w' := by
  unfold rv
  go_enter Tryd.func7, Tryd.ntmps7
  go_wp2
  go_ret
  refine ⟨rfl, ?_⟩
  repeat (first | exact Ext.refl _ | refine Ext.alloc ?_ _ | refine Ext.ext ?_ _ _ | refine Ext.drew ?_ | refine Ext.drewN ?_ _)

set_option maxRecDepth 100000 in
set_option maxHeartbeats 1000000 in
theorem rstore_bcc (a x y s p : Int) (w : World) : Calls Tryd.prog 7 #[rv a x y s p, .string { data := #[66, 67, 67] }] w fun e w' => e = .returned (.int .i64 0) ∧ Ext w w' := by
  unfold rv
  go_enter Tryd.func7, Tryd.ntmps7
  go_wp2
  go_ret
  refine ⟨rfl, ?_⟩
  repeat (first | exact Ext.refl _ | refine Ext.alloc ?_ _ | refine Ext.ext ?_ _ _ | refine Ext.drew ?_ | refine Ext.drewN ?_ _)

set_option maxRecDepth 100000 in
set_option maxHeartbeats 1000000 in
theorem rstore_bcs (a x y s p : Int) (w : World) : Calls Tryd.prog 7 #[rv a x y s p, .string { data := #[66, 67, 83] }] w fun e w' => e = .returned (.int .i64 0) ∧ Ext w w' := by
  unfold rv
  go_enter Tryd.func7, Tryd.ntmps7
  go_wp2
  go_ret
  refine ⟨rfl, ?_⟩
  repeat (first | exact Ext.refl _ | refine Ext.alloc ?_ _ | refine Ext.ext ?_ _ _ | refine Ext.drew ?_ | refine Ext.drewN ?_ _)

set_option maxRecDepth 100000 in
set_option maxHeartbeats 1000000 in
theorem rstore_bne (a x y s p : Int) (w : World) : Calls Tryd.prog 7 #[rv a x y s p, .string { data := #[66, 78, 69] }] w fun e w' => e = .returned (.int .i64 0) ∧ Ext w w' := by
  unfold rv
  go_enter Tryd.func7, Tryd.ntmps7
  go_wp2
  go_ret
  refine ⟨rfl, ?_⟩
  repeat (first | exact Ext.refl _ | refine Ext.alloc ?_ _ | refine Ext.ext ?_ _ _ | refine Ext.drew ?_ | refine Ext.drewN ?_ _)

set_option maxRecDepth 100000 in
set_option maxHeartbeats 1000000 in
theorem rstore_beq (a x y s p : Int) (w : World) : Calls Tryd.prog 7 #[rv a x y s p, .string { data := #[66, 69, 81] }] w fun e w' => e = .returned (.int .i64 0) ∧ Ext w w' := by
  unfold rv
  go_enter Tryd.func7, Tryd.ntmps7
  go_wp2
  go_ret
  refine ⟨rfl, ?_⟩
  repeat (first | exact Ext.refl _ | refine Ext.alloc ?_ _ | refine Ext.ext ?_ _ _ | refine Ext.drew ?_ | refine Ext.drewN ?_ _)

set_option maxRecDepth 100000 in
set_option maxHeartbeats 1000000 in
theorem rstore_jmp (a x y s p : Int) (w : World) : Calls Tryd.prog 7 #[rv a x y s p, .string { data := #[74, 77, 80] }] w fun e w' => e = .returned (.int .i64 0) ∧ Ext w w' := by
  unfold rv
  go_enter Tryd.func7, Tryd.ntmps7
  go_wp2
  go_ret
  refine ⟨rfl, ?_⟩
  repeat (first | exact Ext.refl _ | refine Ext.alloc ?_ _ | refine Ext.ext ?_ _ _ | refine Ext.drew ?_ | refine Ext.drewN ?_ _)

set_option maxRecDepth 100000 in
set_option maxHeartbeats 1000000 in
theorem rstore_jsr (a x y s p : Int) (w : World) : Calls Tryd.prog 7 #[rv a x y s p, .string { data := #[74, 83, 82] }] w fun e w' => e = .returned (.int .i64 0) ∧ Ext w w' := by
  unfold rv
  go_enter Tryd.func7, Tryd.ntmps7
  go_wp2
  go_ret
  refine ⟨rfl, ?_⟩
  repeat (first | exact Ext.refl _ | refine Ext.alloc ?_ _ | refine Ext.ext ?_ _ _ | refine Ext.drew ?_ | refine Ext.drewN ?_ _)

set_option maxRecDepth 100000 in
set_option maxHeartbeats 1000000 in
theorem rstore_rts (a x y s p : Int) (w : World) : Calls Tryd.prog 7 #[rv a x y s p, .string { data := #[82, 84, 83] }] w fun e w' => e = .returned (.int .i64 0) ∧ Ext w w' := by
  unfold rv
  go_enter Tryd.func7, Tryd.ntmps7
  go_wp2
  go_ret
  refine ⟨rfl, ?_⟩
  repeat (first | exact Ext.refl _ | refine Ext.alloc ?_ _ | refine Ext.ext ?_ _ _ | refine Ext.drew ?_ | refine Ext.drewN ?_ _)

set_option maxRecDepth 100000 in
set_option maxHeartbeats 1000000 in
theorem rstore_rti (a x y s p : Int) (w : World) : Calls Tryd.prog 7 #[rv a x y s p, .string { data := #[82, 84, 73] }] w fun e w' => e = .returned (.int .i64 0) ∧ Ext w w' := by
  unfold rv
  go_enter Tryd.func7, Tryd.ntmps7
  go_wp2
  go_ret
  refine ⟨rfl, ?_⟩
  repeat (first | exact Ext.refl _ | refine Ext.alloc ?_ _ | refine Ext.ext ?_ _ _ | refine Ext.drew ?_ | refine Ext.drewN ?_ _)

set_option maxRecDepth 100000 in
set_option maxHeartbeats 1000000 in
theorem rstore_brk (a x y s p : Int) (w : World) : Calls Tryd.prog 7 #[rv a x y s p, .string { data := #[66, 82, 75] }] w fun e w' => e = .returned (.int .i64 0) ∧ Ext w w' := by
  unfold rv
  go_enter Tryd.func7, Tryd.ntmps7
  go_wp2
  go_ret
  refine ⟨rfl, ?_⟩
  repeat (first | exact Ext.refl _ | refine Ext.alloc ?_ _ | refine Ext.ext ?_ _ _ | refine Ext.drew ?_ | refine Ext.drewN ?_ _)

set_option maxRecDepth 100000 in
set_option maxHeartbeats 1000000 in
theorem rstore_pha (a x y s p : Int) (w : World) : Calls Tryd.prog 7 #[rv a x y s p, .string { data := #[80, 72, 65] }] w fun e w' => e = .returned (.int .i64 0) ∧ Ext w w' := by
  unfold rv
  go_enter Tryd.func7, Tryd.ntmps7
  go_wp2
  go_ret
  refine ⟨rfl, ?_⟩
  repeat (first | exact Ext.refl _ | refine Ext.alloc ?_ _ | refine Ext.ext ?_ _ _ | refine Ext.drew ?_ | refine Ext.drewN ?_ _)

set_option maxRecDepth 100000 in
set_option maxHeartbeats 1000000 in
theorem rstore_php (a x y s p : Int) (w : World) : Calls Tryd.prog 7 #[rv a x y s p, .string { data := #[80, 72, 80] }] w fun e w' => e = .returned (.int .i64 0) ∧ Ext w w' := by
  unfold rv
  go_enter Tryd.func7, Tryd.ntmps7
  go_wp2
  go_ret
  refine ⟨rfl, ?_⟩
  repeat (first | exact Ext.refl _ | refine Ext.alloc ?_ _ | refine Ext.ext ?_ _ _ | refine Ext.drew ?_ | refine Ext.drewN ?_ _)

set_option maxRecDepth 100000 in
set_option maxHeartbeats 1000000 in
theorem rstore_pla (a x y s p : Int) (w : World) : Calls Tryd.prog 7 #[rv a x y s p, .string { data := #[80, 76, 65] }] w fun e w' => e = .returned (.int .i64 0) ∧ Ext w w' := by
  unfold rv
  go_enter Tryd.func7, Tryd.ntmps7
  go_wp2
  go_ret
  refine ⟨rfl, ?_⟩
  repeat (first | exact Ext.refl _ | refine Ext.alloc ?_ _ | refine Ext.ext ?_ _ _ | refine Ext.drew ?_ | refine Ext.drewN ?_ _)

set_option maxRecDepth 100000 in
set_option maxHeartbeats 1000000 in
theorem rstore_plp (a x y s p : Int) (w : World) : Calls Tryd.prog 7 #[rv a x y s p, .string { data := #[80, 76, 80] }] w fun e w' => e = .returned (.int .i64 0) ∧ Ext w w' := by
  unfold rv
  go_enter Tryd.func7, Tryd.ntmps7
  go_wp2
  go_ret
  refine ⟨rfl, ?_⟩
  repeat (first | exact Ext.refl _ | refine Ext.alloc ?_ _ | refine Ext.ext ?_ _ _ | refine Ext.drew ?_ | refine Ext.drewN ?_ _)

set_option maxRecDepth 100000 in
set_option maxHeartbeats 1000000 in
theorem rstore_jam (a x y s p : Int) (w : World) : Calls Tryd.prog 7 #[rv a x y s p, .string { data := #[74, 65, 77] }] w fun e w' => e = .returned (.int .i64 0) ∧ Ext w w' := by
  unfold rv
  go_enter Tryd.func7, Tryd.ntmps7
  go_wp2
  go_ret
  refine ⟨rfl, ?_⟩
  repeat (first | exact Ext.refl _ | refine Ext.alloc ?_ _ | refine Ext.ext ?_ _ _ | refine Ext.drew ?_ | refine Ext.drewN ?_ _)

set_option maxRecDepth 100000 in
set_option maxHeartbeats 1000000 in
theorem rstore_none (a x y s p : Int) (w : World) : Calls Tryd.prog 7 #[rv a x y s p, .string { data := #[] }] w fun e w' => e = .returned (.int .i64 0) ∧ Ext w w' := by
  unfold rv
  go_enter Tryd.func7, Tryd.ntmps7
  go_wp2
  go_ret
  refine ⟨rfl, ?_⟩
  repeat (first | exact Ext.refl _ | refine Ext.alloc ?_ _ | refine Ext.ext ?_ _ _ | refine Ext.drew ?_ | refine Ext.drewN ?_ _)

end Go.Proofs.YtigpmmjbdpnkjaaDoor
