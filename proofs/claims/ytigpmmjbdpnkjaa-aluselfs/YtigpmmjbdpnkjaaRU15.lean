/- The document's operations of registers alone (kotatsuref08.Self): the others. No law is claimed here. -/
import Derived.Test.YtigpmmjbdpnkjaaRU10
import Derived.Test.YtigpmmjbdpnkjaaRU8
namespace Go.Proofs.Ytigpmmjbdpnkjaa
open Go.RowKit

set_option maxRecDepth 100000 in
set_option maxHeartbeats 2000000 in
theorem rself_nop (a x y s p : Int) (w : World) :
    Calls Try.prog 22 #[rv a x y s p, .string { data := #[78, 79, 80] }] w fun e w' => e = .returned (rv a x y s p) ∧ Ext w w' := by
  unfold rv
  go_enter Try.func22, Try.ntmps22
  go_wp2
  refine bodyPost_ret (by simp [results, Try.results22, go_sem]) rfl ⟨rfl, ?_⟩
  repeat (first | exact Ext.refl _ | refine Ext.alloc ?_ _ | refine Ext.ext ?_ _ _ | refine Ext.drew ?_ | refine Ext.drewN ?_ _)

set_option maxRecDepth 100000 in
set_option maxHeartbeats 2000000 in
theorem rself_ora (a x y s p : Int) (w : World) :
    Calls Try.prog 22 #[rv a x y s p, .string { data := #[79, 82, 65] }] w fun e w' => e = .returned (rv a x y s p) ∧ Ext w w' := by
  unfold rv
  go_enter Try.func22, Try.ntmps22
  go_wp2
  refine bodyPost_ret (by simp [results, Try.results22, go_sem]) rfl ⟨rfl, ?_⟩
  repeat (first | exact Ext.refl _ | refine Ext.alloc ?_ _ | refine Ext.ext ?_ _ _ | refine Ext.drew ?_ | refine Ext.drewN ?_ _)

set_option maxRecDepth 100000 in
set_option maxHeartbeats 2000000 in
theorem rself_and (a x y s p : Int) (w : World) :
    Calls Try.prog 22 #[rv a x y s p, .string { data := #[65, 78, 68] }] w fun e w' => e = .returned (rv a x y s p) ∧ Ext w w' := by
  unfold rv
  go_enter Try.func22, Try.ntmps22
  go_wp2
  refine bodyPost_ret (by simp [results, Try.results22, go_sem]) rfl ⟨rfl, ?_⟩
  repeat (first | exact Ext.refl _ | refine Ext.alloc ?_ _ | refine Ext.ext ?_ _ _ | refine Ext.drew ?_ | refine Ext.drewN ?_ _)

set_option maxRecDepth 100000 in
set_option maxHeartbeats 2000000 in
theorem rself_eor (a x y s p : Int) (w : World) :
    Calls Try.prog 22 #[rv a x y s p, .string { data := #[69, 79, 82] }] w fun e w' => e = .returned (rv a x y s p) ∧ Ext w w' := by
  unfold rv
  go_enter Try.func22, Try.ntmps22
  go_wp2
  refine bodyPost_ret (by simp [results, Try.results22, go_sem]) rfl ⟨rfl, ?_⟩
  repeat (first | exact Ext.refl _ | refine Ext.alloc ?_ _ | refine Ext.ext ?_ _ _ | refine Ext.drew ?_ | refine Ext.drewN ?_ _)

set_option maxRecDepth 100000 in
set_option maxHeartbeats 2000000 in
theorem rself_adc (a x y s p : Int) (w : World) :
    Calls Try.prog 22 #[rv a x y s p, .string { data := #[65, 68, 67] }] w fun e w' => e = .returned (rv a x y s p) ∧ Ext w w' := by
  unfold rv
  go_enter Try.func22, Try.ntmps22
  go_wp2
  refine bodyPost_ret (by simp [results, Try.results22, go_sem]) rfl ⟨rfl, ?_⟩
  repeat (first | exact Ext.refl _ | refine Ext.alloc ?_ _ | refine Ext.ext ?_ _ _ | refine Ext.drew ?_ | refine Ext.drewN ?_ _)

set_option maxRecDepth 100000 in
set_option maxHeartbeats 2000000 in
theorem rself_sbc (a x y s p : Int) (w : World) :
    Calls Try.prog 22 #[rv a x y s p, .string { data := #[83, 66, 67] }] w fun e w' => e = .returned (rv a x y s p) ∧ Ext w w' := by
  unfold rv
  go_enter Try.func22, Try.ntmps22
  go_wp2
  refine bodyPost_ret (by simp [results, Try.results22, go_sem]) rfl ⟨rfl, ?_⟩
  repeat (first | exact Ext.refl _ | refine Ext.alloc ?_ _ | refine Ext.ext ?_ _ _ | refine Ext.drew ?_ | refine Ext.drewN ?_ _)

set_option maxRecDepth 100000 in
set_option maxHeartbeats 2000000 in
theorem rself_cmp (a x y s p : Int) (w : World) :
    Calls Try.prog 22 #[rv a x y s p, .string { data := #[67, 77, 80] }] w fun e w' => e = .returned (rv a x y s p) ∧ Ext w w' := by
  unfold rv
  go_enter Try.func22, Try.ntmps22
  go_wp2
  refine bodyPost_ret (by simp [results, Try.results22, go_sem]) rfl ⟨rfl, ?_⟩
  repeat (first | exact Ext.refl _ | refine Ext.alloc ?_ _ | refine Ext.ext ?_ _ _ | refine Ext.drew ?_ | refine Ext.drewN ?_ _)

set_option maxRecDepth 100000 in
set_option maxHeartbeats 2000000 in
theorem rself_cpx (a x y s p : Int) (w : World) :
    Calls Try.prog 22 #[rv a x y s p, .string { data := #[67, 80, 88] }] w fun e w' => e = .returned (rv a x y s p) ∧ Ext w w' := by
  unfold rv
  go_enter Try.func22, Try.ntmps22
  go_wp2
  refine bodyPost_ret (by simp [results, Try.results22, go_sem]) rfl ⟨rfl, ?_⟩
  repeat (first | exact Ext.refl _ | refine Ext.alloc ?_ _ | refine Ext.ext ?_ _ _ | refine Ext.drew ?_ | refine Ext.drewN ?_ _)

set_option maxRecDepth 100000 in
set_option maxHeartbeats 2000000 in
theorem rself_cpy (a x y s p : Int) (w : World) :
    Calls Try.prog 22 #[rv a x y s p, .string { data := #[67, 80, 89] }] w fun e w' => e = .returned (rv a x y s p) ∧ Ext w w' := by
  unfold rv
  go_enter Try.func22, Try.ntmps22
  go_wp2
  refine bodyPost_ret (by simp [results, Try.results22, go_sem]) rfl ⟨rfl, ?_⟩
  repeat (first | exact Ext.refl _ | refine Ext.alloc ?_ _ | refine Ext.ext ?_ _ _ | refine Ext.drew ?_ | refine Ext.drewN ?_ _)

set_option maxRecDepth 100000 in
set_option maxHeartbeats 2000000 in
theorem rself_lda (a x y s p : Int) (w : World) :
    Calls Try.prog 22 #[rv a x y s p, .string { data := #[76, 68, 65] }] w fun e w' => e = .returned (rv a x y s p) ∧ Ext w w' := by
  unfold rv
  go_enter Try.func22, Try.ntmps22
  go_wp2
  refine bodyPost_ret (by simp [results, Try.results22, go_sem]) rfl ⟨rfl, ?_⟩
  repeat (first | exact Ext.refl _ | refine Ext.alloc ?_ _ | refine Ext.ext ?_ _ _ | refine Ext.drew ?_ | refine Ext.drewN ?_ _)

set_option maxRecDepth 100000 in
set_option maxHeartbeats 2000000 in
theorem rself_ldx (a x y s p : Int) (w : World) :
    Calls Try.prog 22 #[rv a x y s p, .string { data := #[76, 68, 88] }] w fun e w' => e = .returned (rv a x y s p) ∧ Ext w w' := by
  unfold rv
  go_enter Try.func22, Try.ntmps22
  go_wp2
  refine bodyPost_ret (by simp [results, Try.results22, go_sem]) rfl ⟨rfl, ?_⟩
  repeat (first | exact Ext.refl _ | refine Ext.alloc ?_ _ | refine Ext.ext ?_ _ _ | refine Ext.drew ?_ | refine Ext.drewN ?_ _)

set_option maxRecDepth 100000 in
set_option maxHeartbeats 2000000 in
theorem rself_ldy (a x y s p : Int) (w : World) :
    Calls Try.prog 22 #[rv a x y s p, .string { data := #[76, 68, 89] }] w fun e w' => e = .returned (rv a x y s p) ∧ Ext w w' := by
  unfold rv
  go_enter Try.func22, Try.ntmps22
  go_wp2
  refine bodyPost_ret (by simp [results, Try.results22, go_sem]) rfl ⟨rfl, ?_⟩
  repeat (first | exact Ext.refl _ | refine Ext.alloc ?_ _ | refine Ext.ext ?_ _ _ | refine Ext.drew ?_ | refine Ext.drewN ?_ _)

set_option maxRecDepth 100000 in
set_option maxHeartbeats 2000000 in
theorem rself_bit (a x y s p : Int) (w : World) :
    Calls Try.prog 22 #[rv a x y s p, .string { data := #[66, 73, 84] }] w fun e w' => e = .returned (rv a x y s p) ∧ Ext w w' := by
  unfold rv
  go_enter Try.func22, Try.ntmps22
  go_wp2
  refine bodyPost_ret (by simp [results, Try.results22, go_sem]) rfl ⟨rfl, ?_⟩
  repeat (first | exact Ext.refl _ | refine Ext.alloc ?_ _ | refine Ext.ext ?_ _ _ | refine Ext.drew ?_ | refine Ext.drewN ?_ _)

set_option maxRecDepth 100000 in
set_option maxHeartbeats 2000000 in
theorem rself_lax (a x y s p : Int) (w : World) :
    Calls Try.prog 22 #[rv a x y s p, .string { data := #[76, 65, 88] }] w fun e w' => e = .returned (rv a x y s p) ∧ Ext w w' := by
  unfold rv
  go_enter Try.func22, Try.ntmps22
  go_wp2
  refine bodyPost_ret (by simp [results, Try.results22, go_sem]) rfl ⟨rfl, ?_⟩
  repeat (first | exact Ext.refl _ | refine Ext.alloc ?_ _ | refine Ext.ext ?_ _ _ | refine Ext.drew ?_ | refine Ext.drewN ?_ _)

set_option maxRecDepth 100000 in
set_option maxHeartbeats 2000000 in
theorem rself_anc (a x y s p : Int) (w : World) :
    Calls Try.prog 22 #[rv a x y s p, .string { data := #[65, 78, 67] }] w fun e w' => e = .returned (rv a x y s p) ∧ Ext w w' := by
  unfold rv
  go_enter Try.func22, Try.ntmps22
  go_wp2
  refine bodyPost_ret (by simp [results, Try.results22, go_sem]) rfl ⟨rfl, ?_⟩
  repeat (first | exact Ext.refl _ | refine Ext.alloc ?_ _ | refine Ext.ext ?_ _ _ | refine Ext.drew ?_ | refine Ext.drewN ?_ _)

set_option maxRecDepth 100000 in
set_option maxHeartbeats 2000000 in
theorem rself_alr (a x y s p : Int) (w : World) :
    Calls Try.prog 22 #[rv a x y s p, .string { data := #[65, 76, 82] }] w fun e w' => e = .returned (rv a x y s p) ∧ Ext w w' := by
  unfold rv
  go_enter Try.func22, Try.ntmps22
  go_wp2
  refine bodyPost_ret (by simp [results, Try.results22, go_sem]) rfl ⟨rfl, ?_⟩
  repeat (first | exact Ext.refl _ | refine Ext.alloc ?_ _ | refine Ext.ext ?_ _ _ | refine Ext.drew ?_ | refine Ext.drewN ?_ _)

set_option maxRecDepth 100000 in
set_option maxHeartbeats 2000000 in
theorem rself_arr (a x y s p : Int) (w : World) :
    Calls Try.prog 22 #[rv a x y s p, .string { data := #[65, 82, 82] }] w fun e w' => e = .returned (rv a x y s p) ∧ Ext w w' := by
  unfold rv
  go_enter Try.func22, Try.ntmps22
  go_wp2
  refine bodyPost_ret (by simp [results, Try.results22, go_sem]) rfl ⟨rfl, ?_⟩
  repeat (first | exact Ext.refl _ | refine Ext.alloc ?_ _ | refine Ext.ext ?_ _ _ | refine Ext.drew ?_ | refine Ext.drewN ?_ _)

set_option maxRecDepth 100000 in
set_option maxHeartbeats 2000000 in
theorem rself_axs (a x y s p : Int) (w : World) :
    Calls Try.prog 22 #[rv a x y s p, .string { data := #[65, 88, 83] }] w fun e w' => e = .returned (rv a x y s p) ∧ Ext w w' := by
  unfold rv
  go_enter Try.func22, Try.ntmps22
  go_wp2
  refine bodyPost_ret (by simp [results, Try.results22, go_sem]) rfl ⟨rfl, ?_⟩
  repeat (first | exact Ext.refl _ | refine Ext.alloc ?_ _ | refine Ext.ext ?_ _ _ | refine Ext.drew ?_ | refine Ext.drewN ?_ _)

set_option maxRecDepth 100000 in
set_option maxHeartbeats 2000000 in
theorem rself_las (a x y s p : Int) (w : World) :
    Calls Try.prog 22 #[rv a x y s p, .string { data := #[76, 65, 83] }] w fun e w' => e = .returned (rv a x y s p) ∧ Ext w w' := by
  unfold rv
  go_enter Try.func22, Try.ntmps22
  go_wp2
  refine bodyPost_ret (by simp [results, Try.results22, go_sem]) rfl ⟨rfl, ?_⟩
  repeat (first | exact Ext.refl _ | refine Ext.alloc ?_ _ | refine Ext.ext ?_ _ _ | refine Ext.drew ?_ | refine Ext.drewN ?_ _)

set_option maxRecDepth 100000 in
set_option maxHeartbeats 2000000 in
theorem rself_inc (a x y s p : Int) (w : World) :
    Calls Try.prog 22 #[rv a x y s p, .string { data := #[73, 78, 67] }] w fun e w' => e = .returned (rv a x y s p) ∧ Ext w w' := by
  unfold rv
  go_enter Try.func22, Try.ntmps22
  go_wp2
  refine bodyPost_ret (by simp [results, Try.results22, go_sem]) rfl ⟨rfl, ?_⟩
  repeat (first | exact Ext.refl _ | refine Ext.alloc ?_ _ | refine Ext.ext ?_ _ _ | refine Ext.drew ?_ | refine Ext.drewN ?_ _)

set_option maxRecDepth 100000 in
set_option maxHeartbeats 2000000 in
theorem rself_dec (a x y s p : Int) (w : World) :
    Calls Try.prog 22 #[rv a x y s p, .string { data := #[68, 69, 67] }] w fun e w' => e = .returned (rv a x y s p) ∧ Ext w w' := by
  unfold rv
  go_enter Try.func22, Try.ntmps22
  go_wp2
  refine bodyPost_ret (by simp [results, Try.results22, go_sem]) rfl ⟨rfl, ?_⟩
  repeat (first | exact Ext.refl _ | refine Ext.alloc ?_ _ | refine Ext.ext ?_ _ _ | refine Ext.drew ?_ | refine Ext.drewN ?_ _)

set_option maxRecDepth 100000 in
set_option maxHeartbeats 2000000 in
theorem rself_slo (a x y s p : Int) (w : World) :
    Calls Try.prog 22 #[rv a x y s p, .string { data := #[83, 76, 79] }] w fun e w' => e = .returned (rv a x y s p) ∧ Ext w w' := by
  unfold rv
  go_enter Try.func22, Try.ntmps22
  go_wp2
  refine bodyPost_ret (by simp [results, Try.results22, go_sem]) rfl ⟨rfl, ?_⟩
  repeat (first | exact Ext.refl _ | refine Ext.alloc ?_ _ | refine Ext.ext ?_ _ _ | refine Ext.drew ?_ | refine Ext.drewN ?_ _)

set_option maxRecDepth 100000 in
set_option maxHeartbeats 2000000 in
theorem rself_rla (a x y s p : Int) (w : World) :
    Calls Try.prog 22 #[rv a x y s p, .string { data := #[82, 76, 65] }] w fun e w' => e = .returned (rv a x y s p) ∧ Ext w w' := by
  unfold rv
  go_enter Try.func22, Try.ntmps22
  go_wp2
  refine bodyPost_ret (by simp [results, Try.results22, go_sem]) rfl ⟨rfl, ?_⟩
  repeat (first | exact Ext.refl _ | refine Ext.alloc ?_ _ | refine Ext.ext ?_ _ _ | refine Ext.drew ?_ | refine Ext.drewN ?_ _)

set_option maxRecDepth 100000 in
set_option maxHeartbeats 2000000 in
theorem rself_sre (a x y s p : Int) (w : World) :
    Calls Try.prog 22 #[rv a x y s p, .string { data := #[83, 82, 69] }] w fun e w' => e = .returned (rv a x y s p) ∧ Ext w w' := by
  unfold rv
  go_enter Try.func22, Try.ntmps22
  go_wp2
  refine bodyPost_ret (by simp [results, Try.results22, go_sem]) rfl ⟨rfl, ?_⟩
  repeat (first | exact Ext.refl _ | refine Ext.alloc ?_ _ | refine Ext.ext ?_ _ _ | refine Ext.drew ?_ | refine Ext.drewN ?_ _)

set_option maxRecDepth 100000 in
set_option maxHeartbeats 2000000 in
theorem rself_rra (a x y s p : Int) (w : World) :
    Calls Try.prog 22 #[rv a x y s p, .string { data := #[82, 82, 65] }] w fun e w' => e = .returned (rv a x y s p) ∧ Ext w w' := by
  unfold rv
  go_enter Try.func22, Try.ntmps22
  go_wp2
  refine bodyPost_ret (by simp [results, Try.results22, go_sem]) rfl ⟨rfl, ?_⟩
  repeat (first | exact Ext.refl _ | refine Ext.alloc ?_ _ | refine Ext.ext ?_ _ _ | refine Ext.drew ?_ | refine Ext.drewN ?_ _)

end Go.Proofs.Ytigpmmjbdpnkjaa
