/- The document's operations of registers alone (kotatsuref08.Self): the others. No law is claimed here. -/
import Derived.Test.YtigpmmjbdpnkjaaRU10
import Derived.Test.YtigpmmjbdpnkjaaRU8
namespace Go.Proofs.Ytigpmmjbdpnkjaa
open Go.RowKit

set_option maxRecDepth 100000 in
set_option maxHeartbeats 2000000 in
theorem rself_dcp (a x y s p : Int) (w : World) :
    Calls Try.prog 22 #[rv a x y s p, .string { data := #[68, 67, 80] }] w fun e w' => e = .returned (rv a x y s p) ∧ Ext w w' := by
  unfold rv
  go_enter Try.func22, Try.ntmps22
  go_wp2
  refine bodyPost_ret (by simp [results, Try.results22, go_sem]) rfl ⟨rfl, ?_⟩
  repeat (first | exact Ext.refl _ | refine Ext.alloc ?_ _ | refine Ext.ext ?_ _ _ | refine Ext.drew ?_ | refine Ext.drewN ?_ _)

set_option maxRecDepth 100000 in
set_option maxHeartbeats 2000000 in
theorem rself_isc (a x y s p : Int) (w : World) :
    Calls Try.prog 22 #[rv a x y s p, .string { data := #[73, 83, 67] }] w fun e w' => e = .returned (rv a x y s p) ∧ Ext w w' := by
  unfold rv
  go_enter Try.func22, Try.ntmps22
  go_wp2
  refine bodyPost_ret (by simp [results, Try.results22, go_sem]) rfl ⟨rfl, ?_⟩
  repeat (first | exact Ext.refl _ | refine Ext.alloc ?_ _ | refine Ext.ext ?_ _ _ | refine Ext.drew ?_ | refine Ext.drewN ?_ _)

set_option maxRecDepth 100000 in
set_option maxHeartbeats 2000000 in
theorem rself_sta (a x y s p : Int) (w : World) :
    Calls Try.prog 22 #[rv a x y s p, .string { data := #[83, 84, 65] }] w fun e w' => e = .returned (rv a x y s p) ∧ Ext w w' := by
  unfold rv
  go_enter Try.func22, Try.ntmps22
  go_wp2
  refine bodyPost_ret (by simp [results, Try.results22, go_sem]) rfl ⟨rfl, ?_⟩
  repeat (first | exact Ext.refl _ | refine Ext.alloc ?_ _ | refine Ext.ext ?_ _ _ | refine Ext.drew ?_ | refine Ext.drewN ?_ _)

set_option maxRecDepth 100000 in
set_option maxHeartbeats 2000000 in
theorem rself_stx (a x y s p : Int) (w : World) :
    Calls Try.prog 22 #[rv a x y s p, .string { data := #[83, 84, 88] }] w fun e w' => e = .returned (rv a x y s p) ∧ Ext w w' := by
  unfold rv
  go_enter Try.func22, Try.ntmps22
  go_wp2
  refine bodyPost_ret (by simp [results, Try.results22, go_sem]) rfl ⟨rfl, ?_⟩
  repeat (first | exact Ext.refl _ | refine Ext.alloc ?_ _ | refine Ext.ext ?_ _ _ | refine Ext.drew ?_ | refine Ext.drewN ?_ _)

set_option maxRecDepth 100000 in
set_option maxHeartbeats 2000000 in
theorem rself_sty (a x y s p : Int) (w : World) :
    Calls Try.prog 22 #[rv a x y s p, .string { data := #[83, 84, 89] }] w fun e w' => e = .returned (rv a x y s p) ∧ Ext w w' := by
  unfold rv
  go_enter Try.func22, Try.ntmps22
  go_wp2
  refine bodyPost_ret (by simp [results, Try.results22, go_sem]) rfl ⟨rfl, ?_⟩
  repeat (first | exact Ext.refl _ | refine Ext.alloc ?_ _ | refine Ext.ext ?_ _ _ | refine Ext.drew ?_ | refine Ext.drewN ?_ _)

set_option maxRecDepth 100000 in
set_option maxHeartbeats 2000000 in
theorem rself_sax (a x y s p : Int) (w : World) :
    Calls Try.prog 22 #[rv a x y s p, .string { data := #[83, 65, 88] }] w fun e w' => e = .returned (rv a x y s p) ∧ Ext w w' := by
  unfold rv
  go_enter Try.func22, Try.ntmps22
  go_wp2
  refine bodyPost_ret (by simp [results, Try.results22, go_sem]) rfl ⟨rfl, ?_⟩
  repeat (first | exact Ext.refl _ | refine Ext.alloc ?_ _ | refine Ext.ext ?_ _ _ | refine Ext.drew ?_ | refine Ext.drewN ?_ _)

set_option maxRecDepth 100000 in
set_option maxHeartbeats 2000000 in
theorem rself_bpl (a x y s p : Int) (w : World) :
    Calls Try.prog 22 #[rv a x y s p, .string { data := #[66, 80, 76] }] w fun e w' => e = .returned (rv a x y s p) ∧ Ext w w' := by
  unfold rv
  go_enter Try.func22, Try.ntmps22
  go_wp2
  refine bodyPost_ret (by simp [results, Try.results22, go_sem]) rfl ⟨rfl, ?_⟩
  repeat (first | exact Ext.refl _ | refine Ext.alloc ?_ _ | refine Ext.ext ?_ _ _ | refine Ext.drew ?_ | refine Ext.drewN ?_ _)

set_option maxRecDepth 100000 in
set_option maxHeartbeats 2000000 in
theorem rself_bmi (a x y s p : Int) (w : World) :
    Calls Try.prog 22 #[rv a x y s p, .string { data := #[66, 77, 73] }] w fun e w' => e = .returned (rv a x y s p) ∧ Ext w w' := by
  unfold rv
  go_enter Try.func22, Try.ntmps22
  go_wp2
  refine bodyPost_ret (by simp [results, Try.results22, go_sem]) rfl ⟨rfl, ?_⟩
  repeat (first | exact Ext.refl _ | refine Ext.alloc ?_ _ | refine Ext.ext ?_ _ _ | refine Ext.drew ?_ | refine Ext.drewN ?_ _)

set_option maxRecDepth 100000 in
set_option maxHeartbeats 2000000 in
theorem rself_bvc (a x y s p : Int) (w : World) :
    Calls Try.prog 22 #[rv a x y s p, .string { data := #[66, 86, 67] }] w fun e w' => e = .returned (rv a x y s p) ∧ Ext w w' := by
  unfold rv
  go_enter Try.func22, Try.ntmps22
  go_wp2
  refine bodyPost_ret (by simp [results, Try.results22, go_sem]) rfl ⟨rfl, ?_⟩
  repeat (first | exact Ext.refl _ | refine Ext.alloc ?_ _ | refine Ext.ext ?_ _ _ | refine Ext.drew ?_ | refine Ext.drewN ?_ _)

set_option maxRecDepth 100000 in
set_option maxHeartbeats 2000000 in
theorem rself_bvs (a x y s p : Int) (w : World) :
    Calls Try.prog 22 #[rv a x y s p, .string { data := #[66, 86, 83] }] w fun e w' => e = .returned (rv a x y s p) ∧ Ext w w' := by
  unfold rv
  go_enter Try.func22, Try.ntmps22
  go_wp2
  refine bodyPost_ret (by simp [results, Try.results22, go_sem]) rfl ⟨rfl, ?_⟩
  repeat (first | exact Ext.refl _ | refine Ext.alloc ?_ _ | refine Ext.ext ?_ _ _ | refine Ext.drew ?_ | refine Ext.drewN ?_ _)

set_option maxRecDepth 100000 in
set_option maxHeartbeats 2000000 in
theorem rself_bcc (a x y s p : Int) (w : World) :
    Calls Try.prog 22 #[rv a x y s p, .string { data := #[66, 67, 67] }] w fun e w' => e = .returned (rv a x y s p) ∧ Ext w w' := by
  unfold rv
  go_enter Try.func22, Try.ntmps22
  go_wp2
  refine bodyPost_ret (by simp [results, Try.results22, go_sem]) rfl ⟨rfl, ?_⟩
  repeat (first | exact Ext.refl _ | refine Ext.alloc ?_ _ | refine Ext.ext ?_ _ _ | refine Ext.drew ?_ | refine Ext.drewN ?_ _)

set_option maxRecDepth 100000 in
set_option maxHeartbeats 2000000 in
theorem rself_bcs (a x y s p : Int) (w : World) :
    Calls Try.prog 22 #[rv a x y s p, .string { data := #[66, 67, 83] }] w fun e w' => e = .returned (rv a x y s p) ∧ Ext w w' := by
  unfold rv
  go_enter Try.func22, Try.ntmps22
  go_wp2
  refine bodyPost_ret (by simp [results, Try.results22, go_sem]) rfl ⟨rfl, ?_⟩
  repeat (first | exact Ext.refl _ | refine Ext.alloc ?_ _ | refine Ext.ext ?_ _ _ | refine Ext.drew ?_ | refine Ext.drewN ?_ _)

set_option maxRecDepth 100000 in
set_option maxHeartbeats 2000000 in
theorem rself_bne (a x y s p : Int) (w : World) :
    Calls Try.prog 22 #[rv a x y s p, .string { data := #[66, 78, 69] }] w fun e w' => e = .returned (rv a x y s p) ∧ Ext w w' := by
  unfold rv
  go_enter Try.func22, Try.ntmps22
  go_wp2
  refine bodyPost_ret (by simp [results, Try.results22, go_sem]) rfl ⟨rfl, ?_⟩
  repeat (first | exact Ext.refl _ | refine Ext.alloc ?_ _ | refine Ext.ext ?_ _ _ | refine Ext.drew ?_ | refine Ext.drewN ?_ _)

set_option maxRecDepth 100000 in
set_option maxHeartbeats 2000000 in
theorem rself_beq (a x y s p : Int) (w : World) :
    Calls Try.prog 22 #[rv a x y s p, .string { data := #[66, 69, 81] }] w fun e w' => e = .returned (rv a x y s p) ∧ Ext w w' := by
  unfold rv
  go_enter Try.func22, Try.ntmps22
  go_wp2
  refine bodyPost_ret (by simp [results, Try.results22, go_sem]) rfl ⟨rfl, ?_⟩
  repeat (first | exact Ext.refl _ | refine Ext.alloc ?_ _ | refine Ext.ext ?_ _ _ | refine Ext.drew ?_ | refine Ext.drewN ?_ _)

set_option maxRecDepth 100000 in
set_option maxHeartbeats 2000000 in
theorem rself_jmp (a x y s p : Int) (w : World) :
    Calls Try.prog 22 #[rv a x y s p, .string { data := #[74, 77, 80] }] w fun e w' => e = .returned (rv a x y s p) ∧ Ext w w' := by
  unfold rv
  go_enter Try.func22, Try.ntmps22
  go_wp2
  refine bodyPost_ret (by simp [results, Try.results22, go_sem]) rfl ⟨rfl, ?_⟩
  repeat (first | exact Ext.refl _ | refine Ext.alloc ?_ _ | refine Ext.ext ?_ _ _ | refine Ext.drew ?_ | refine Ext.drewN ?_ _)

set_option maxRecDepth 100000 in
set_option maxHeartbeats 2000000 in
theorem rself_jsr (a x y s p : Int) (w : World) :
    Calls Try.prog 22 #[rv a x y s p, .string { data := #[74, 83, 82] }] w fun e w' => e = .returned (rv a x y s p) ∧ Ext w w' := by
  unfold rv
  go_enter Try.func22, Try.ntmps22
  go_wp2
  refine bodyPost_ret (by simp [results, Try.results22, go_sem]) rfl ⟨rfl, ?_⟩
  repeat (first | exact Ext.refl _ | refine Ext.alloc ?_ _ | refine Ext.ext ?_ _ _ | refine Ext.drew ?_ | refine Ext.drewN ?_ _)

set_option maxRecDepth 100000 in
set_option maxHeartbeats 2000000 in
theorem rself_rts (a x y s p : Int) (w : World) :
    Calls Try.prog 22 #[rv a x y s p, .string { data := #[82, 84, 83] }] w fun e w' => e = .returned (rv a x y s p) ∧ Ext w w' := by
  unfold rv
  go_enter Try.func22, Try.ntmps22
  go_wp2
  refine bodyPost_ret (by simp [results, Try.results22, go_sem]) rfl ⟨rfl, ?_⟩
  repeat (first | exact Ext.refl _ | refine Ext.alloc ?_ _ | refine Ext.ext ?_ _ _ | refine Ext.drew ?_ | refine Ext.drewN ?_ _)

set_option maxRecDepth 100000 in
set_option maxHeartbeats 2000000 in
theorem rself_rti (a x y s p : Int) (w : World) :
    Calls Try.prog 22 #[rv a x y s p, .string { data := #[82, 84, 73] }] w fun e w' => e = .returned (rv a x y s p) ∧ Ext w w' := by
  unfold rv
  go_enter Try.func22, Try.ntmps22
  go_wp2
  refine bodyPost_ret (by simp [results, Try.results22, go_sem]) rfl ⟨rfl, ?_⟩
  repeat (first | exact Ext.refl _ | refine Ext.alloc ?_ _ | refine Ext.ext ?_ _ _ | refine Ext.drew ?_ | refine Ext.drewN ?_ _)

set_option maxRecDepth 100000 in
set_option maxHeartbeats 2000000 in
theorem rself_brk (a x y s p : Int) (w : World) :
    Calls Try.prog 22 #[rv a x y s p, .string { data := #[66, 82, 75] }] w fun e w' => e = .returned (rv a x y s p) ∧ Ext w w' := by
  unfold rv
  go_enter Try.func22, Try.ntmps22
  go_wp2
  refine bodyPost_ret (by simp [results, Try.results22, go_sem]) rfl ⟨rfl, ?_⟩
  repeat (first | exact Ext.refl _ | refine Ext.alloc ?_ _ | refine Ext.ext ?_ _ _ | refine Ext.drew ?_ | refine Ext.drewN ?_ _)

set_option maxRecDepth 100000 in
set_option maxHeartbeats 2000000 in
theorem rself_pha (a x y s p : Int) (w : World) :
    Calls Try.prog 22 #[rv a x y s p, .string { data := #[80, 72, 65] }] w fun e w' => e = .returned (rv a x y s p) ∧ Ext w w' := by
  unfold rv
  go_enter Try.func22, Try.ntmps22
  go_wp2
  refine bodyPost_ret (by simp [results, Try.results22, go_sem]) rfl ⟨rfl, ?_⟩
  repeat (first | exact Ext.refl _ | refine Ext.alloc ?_ _ | refine Ext.ext ?_ _ _ | refine Ext.drew ?_ | refine Ext.drewN ?_ _)

set_option maxRecDepth 100000 in
set_option maxHeartbeats 2000000 in
theorem rself_php (a x y s p : Int) (w : World) :
    Calls Try.prog 22 #[rv a x y s p, .string { data := #[80, 72, 80] }] w fun e w' => e = .returned (rv a x y s p) ∧ Ext w w' := by
  unfold rv
  go_enter Try.func22, Try.ntmps22
  go_wp2
  refine bodyPost_ret (by simp [results, Try.results22, go_sem]) rfl ⟨rfl, ?_⟩
  repeat (first | exact Ext.refl _ | refine Ext.alloc ?_ _ | refine Ext.ext ?_ _ _ | refine Ext.drew ?_ | refine Ext.drewN ?_ _)

set_option maxRecDepth 100000 in
set_option maxHeartbeats 2000000 in
theorem rself_pla (a x y s p : Int) (w : World) :
    Calls Try.prog 22 #[rv a x y s p, .string { data := #[80, 76, 65] }] w fun e w' => e = .returned (rv a x y s p) ∧ Ext w w' := by
  unfold rv
  go_enter Try.func22, Try.ntmps22
  go_wp2
  refine bodyPost_ret (by simp [results, Try.results22, go_sem]) rfl ⟨rfl, ?_⟩
  repeat (first | exact Ext.refl _ | refine Ext.alloc ?_ _ | refine Ext.ext ?_ _ _ | refine Ext.drew ?_ | refine Ext.drewN ?_ _)

set_option maxRecDepth 100000 in
set_option maxHeartbeats 2000000 in
theorem rself_plp (a x y s p : Int) (w : World) :
    Calls Try.prog 22 #[rv a x y s p, .string { data := #[80, 76, 80] }] w fun e w' => e = .returned (rv a x y s p) ∧ Ext w w' := by
  unfold rv
  go_enter Try.func22, Try.ntmps22
  go_wp2
  refine bodyPost_ret (by simp [results, Try.results22, go_sem]) rfl ⟨rfl, ?_⟩
  repeat (first | exact Ext.refl _ | refine Ext.alloc ?_ _ | refine Ext.ext ?_ _ _ | refine Ext.drew ?_ | refine Ext.drewN ?_ _)

set_option maxRecDepth 100000 in
set_option maxHeartbeats 2000000 in
theorem rself_jam (a x y s p : Int) (w : World) :
    Calls Try.prog 22 #[rv a x y s p, .string { data := #[74, 65, 77] }] w fun e w' => e = .returned (rv a x y s p) ∧ Ext w w' := by
  unfold rv
  go_enter Try.func22, Try.ntmps22
  go_wp2
  refine bodyPost_ret (by simp [results, Try.results22, go_sem]) rfl ⟨rfl, ?_⟩
  repeat (first | exact Ext.refl _ | refine Ext.alloc ?_ _ | refine Ext.ext ?_ _ _ | refine Ext.drew ?_ | refine Ext.drewN ?_ _)

set_option maxRecDepth 100000 in
set_option maxHeartbeats 2000000 in
theorem rself_none (a x y s p : Int) (w : World) :
    Calls Try.prog 22 #[rv a x y s p, .string { data := #[] }] w fun e w' => e = .returned (rv a x y s p) ∧ Ext w w' := by
  unfold rv
  go_enter Try.func22, Try.ntmps22
  go_wp2
  refine bodyPost_ret (by simp [results, Try.results22, go_sem]) rfl ⟨rfl, ?_⟩
  repeat (first | exact Ext.refl _ | refine Ext.alloc ?_ _ | refine Ext.ext ?_ _ _ | refine Ext.drew ?_ | refine Ext.drewN ?_ _)

end Go.Proofs.Ytigpmmjbdpnkjaa
