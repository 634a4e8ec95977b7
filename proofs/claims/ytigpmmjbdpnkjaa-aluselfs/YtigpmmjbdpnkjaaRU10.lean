/- The document's operations of registers alone (kotatsuref08.Self): its parts. No law is claimed here. -/
import Derived.Test.YtigpmmjbdpnkjaaRU2
import Derived.Deep.RegionLaw
namespace Go.Proofs.Ytigpmmjbdpnkjaa
open Go.RowKit

set_option maxRecDepth 100000 in
set_option maxHeartbeats 1000000 in
theorem rget_A (a x y s p : Int) (w : World) : Calls Try.prog 39 #[rv a x y s p, .int .u8 65] w fun e w' => e = .returned (.int .i64 a) ∧ Ext w w' := by
  unfold rv
  go_enter Try.func39, Try.ntmps39
  go_wp2
  go_ret
  exact ⟨rfl, (Ext.refl _).alloc _⟩

set_option maxRecDepth 100000 in
set_option maxHeartbeats 1000000 in
theorem rget_X (a x y s p : Int) (w : World) : Calls Try.prog 39 #[rv a x y s p, .int .u8 88] w fun e w' => e = .returned (.int .i64 x) ∧ Ext w w' := by
  unfold rv
  go_enter Try.func39, Try.ntmps39
  go_wp2
  go_ret
  exact ⟨rfl, (Ext.refl _).alloc _⟩

set_option maxRecDepth 100000 in
set_option maxHeartbeats 1000000 in
theorem rget_Y (a x y s p : Int) (w : World) : Calls Try.prog 39 #[rv a x y s p, .int .u8 89] w fun e w' => e = .returned (.int .i64 y) ∧ Ext w w' := by
  unfold rv
  go_enter Try.func39, Try.ntmps39
  go_wp2
  go_ret
  exact ⟨rfl, (Ext.refl _).alloc _⟩

set_option maxRecDepth 100000 in
set_option maxHeartbeats 1000000 in
theorem rget_S (a x y s p : Int) (w : World) : Calls Try.prog 39 #[rv a x y s p, .int .u8 83] w fun e w' => e = .returned (.int .i64 s) ∧ Ext w w' := by
  unfold rv
  go_enter Try.func39, Try.ntmps39
  go_wp2
  go_ret
  exact ⟨rfl, (Ext.refl _).alloc _⟩

set_option maxRecDepth 100000 in
set_option maxHeartbeats 1000000 in
theorem rput_A (a x y s p n : Int) (w : World) : Calls Try.prog 40 #[rv a x y s p, .int .u8 65, .int .i64 n] w fun e w' => e = .returned (rv n x y s p) ∧ Ext w w' := by
  unfold rv
  go_enter Try.func40, Try.ntmps40
  go_wp2
  refine bodyPost_ret (by simp [results, Try.results40, go_sem]) rfl ⟨rfl, ?_⟩
  exact ((Ext.refl _).alloc _).alloc _

set_option maxRecDepth 100000 in
set_option maxHeartbeats 1000000 in
theorem rput_X (a x y s p n : Int) (w : World) : Calls Try.prog 40 #[rv a x y s p, .int .u8 88, .int .i64 n] w fun e w' => e = .returned (rv a n y s p) ∧ Ext w w' := by
  unfold rv
  go_enter Try.func40, Try.ntmps40
  go_wp2
  refine bodyPost_ret (by simp [results, Try.results40, go_sem]) rfl ⟨rfl, ?_⟩
  exact ((Ext.refl _).alloc _).alloc _

set_option maxRecDepth 100000 in
set_option maxHeartbeats 1000000 in
theorem rput_Y (a x y s p n : Int) (w : World) : Calls Try.prog 40 #[rv a x y s p, .int .u8 89, .int .i64 n] w fun e w' => e = .returned (rv a x n s p) ∧ Ext w w' := by
  unfold rv
  go_enter Try.func40, Try.ntmps40
  go_wp2
  refine bodyPost_ret (by simp [results, Try.results40, go_sem]) rfl ⟨rfl, ?_⟩
  exact ((Ext.refl _).alloc _).alloc _

set_option maxRecDepth 100000 in
set_option maxHeartbeats 1000000 in
theorem rflag_C (w : World) : Calls Try.prog 41 #[.int .u8 67] w fun e w' => e = .returned (.int .i64 1) ∧ w' = w := by
  go_enter Try.func41, Try.ntmps41
  go_wp2
  go_ret
  exact ⟨rfl, rfl⟩

set_option maxRecDepth 100000 in
set_option maxHeartbeats 1000000 in
theorem rflag_I (w : World) : Calls Try.prog 41 #[.int .u8 73] w fun e w' => e = .returned (.int .i64 4) ∧ w' = w := by
  go_enter Try.func41, Try.ntmps41
  go_wp2
  go_ret
  exact ⟨rfl, rfl⟩

set_option maxRecDepth 100000 in
set_option maxHeartbeats 1000000 in
theorem rflag_D (w : World) : Calls Try.prog 41 #[.int .u8 68] w fun e w' => e = .returned (.int .i64 8) ∧ w' = w := by
  go_enter Try.func41, Try.ntmps41
  go_wp2
  go_ret
  exact ⟨rfl, rfl⟩

set_option maxRecDepth 100000 in
set_option maxHeartbeats 1000000 in
theorem rflag_V (w : World) : Calls Try.prog 41 #[.int .u8 86] w fun e w' => e = .returned (.int .i64 64) ∧ w' = w := by
  go_enter Try.func41, Try.ntmps41
  go_wp2
  go_ret
  exact ⟨rfl, rfl⟩

end Go.Proofs.Ytigpmmjbdpnkjaa
