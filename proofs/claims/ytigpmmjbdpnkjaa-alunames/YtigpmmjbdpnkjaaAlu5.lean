/- Contracts of package alu: two operations with sums. No law is claimed here. -/
import Derived.Test.YtigpmmjbdpnkjaaAlu3
namespace Go.Proofs.Ytigpmmjbdpnkjaa
open Go.RowKit

theorem right2 (u : Un) (m i : Int) : 0 ≤ (rightU u m i).2 ∧ (rightU u m i).2 < 256 := by
  unfold rightU becU; exact bits_u8 .or _ _
theorem rightA (u : Un) (m i : Int) : (rightU u m i).1.a = u.a := rfl
theorem becA (u : Un) (m : Int) : (becU u m).1.a = u.a := rfl

set_option maxRecDepth 100000 in
set_option maxHeartbeats 1000000 in
theorem rra_any (a x y s p m : Int) (ha : 0 ≤ a) (ha2 : a < 256) (w : World) :
    Calls Try.prog 71 #[uv a x y s p, .int .u8 m] w fun e w' => e = .returned (.tuple #[uu (twoU (rightU ⟨a, x, y, s, p⟩ m (bits .and .u8 p 1)) adcU).1, .int .u8 (twoU (rightU ⟨a, x, y, s, p⟩ m (bits .and .u8 p 1)) adcU).2]) ∧ Ext w w' := by
  have F0 := ror_any
  unfold uu uv at F0
  have F1 := adc_any
  unfold uu uv at F1
  have r1 := ext_cell
  have r2 := ext_frozen
  have r3 := ext_setCell
  have r4 := ext_lt
  have r5 := ext_drew
  have r6 := ext_ext
  have q1 : ∀ u m i, (rightU u m i).1.a = u.a := rightA
  have n1 : ∀ u m i, 0 ≤ (rightU u m i).2 ∧ (rightU u m i).2 < 256 := right2
  unfold uu uv
  go_enter Try.func71, Try.ntmps71
  go_wp2_with (first | (go_at_call 65; refine (F0 _ _ _ _ _ _ _).mono ?_; rintro e w' ⟨rfl, os, q, rfl⟩) | (go_at_call 47; refine (F1 _ _ _ _ _ _ (by first | assumption | (rw [q1]; assumption)) (by first | assumption | (rw [q1]; assumption)) (n1 _ _ _).1 (n1 _ _ _).2 _).mono ?_; rintro e w' ⟨rfl, os, q, rfl⟩))
  all_goals
    refine bodyPost_ret (by simp [results, Try.results71, go_sem, *] <;> (repeat' (first | exact rfl | refine And.intro ?_ ?_))) rfl ⟨rfl, ?_⟩
    repeat (first | exact Ext.refl _ | refine Ext.alloc ?_ _ | refine Ext.ext ?_ _ _ | refine Ext.drew ?_ | refine Ext.drewN ?_ _)

set_option maxRecDepth 100000 in
set_option maxHeartbeats 1000000 in
theorem isc_any (a x y s p m : Int) (ha : 0 ≤ a) (ha2 : a < 256) (w : World) :
    Calls Try.prog 73 #[uv a x y s p, .int .u8 m] w fun e w' => e = .returned (.tuple #[uu (twoU (becU ⟨a, x, y, s, p⟩ (IntKind.u8.wrap (m + 1))) (fun u m => adcU u (notB m))).1, .int .u8 (twoU (becU ⟨a, x, y, s, p⟩ (IntKind.u8.wrap (m + 1))) (fun u m => adcU u (notB m))).2]) ∧ Ext w w' := by
  have F0 := inc_any
  unfold uu uv at F0
  have F1 := sbc_any
  unfold uu uv at F1
  have r1 := ext_cell
  have r2 := ext_frozen
  have r3 := ext_setCell
  have r4 := ext_lt
  have r5 := ext_drew
  have r6 := ext_ext
  have q1 : ∀ u m, (becU u m).1.a = u.a := becA
  unfold uu uv
  go_enter Try.func73, Try.ntmps73
  go_wp2_with (first | (go_at_call 66; refine (F0 _ _ _ _ _ _ _).mono ?_; rintro e w' ⟨rfl, os, q, rfl⟩) | (go_at_call 48; refine (F1 _ _ _ _ _ _ (by first | assumption | (rw [q1]; assumption)) (by first | assumption | (rw [q1]; assumption)) _).mono ?_; rintro e w' ⟨rfl, os, q, rfl⟩))
  all_goals
    refine bodyPost_ret (by simp [results, Try.results73, go_sem, *] <;> (repeat' (first | exact rfl | refine And.intro ?_ ?_))) rfl ⟨rfl, ?_⟩
    repeat (first | exact Ext.refl _ | refine Ext.alloc ?_ _ | refine Ext.ext ?_ _ _ | refine Ext.drew ?_ | refine Ext.drewN ?_ _)

end Go.Proofs.Ytigpmmjbdpnkjaa
