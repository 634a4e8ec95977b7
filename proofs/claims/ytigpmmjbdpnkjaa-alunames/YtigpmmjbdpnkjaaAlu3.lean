/- Contracts of package alu: a change of A; operations of two. No law is claimed here. -/
import Derived.Test.YtigpmmjbdpnkjaaAlu2
namespace Go.Proofs.Ytigpmmjbdpnkjaa
open Go.RowKit

def onU (r : Un × Int) : Un := { r.1 with a := r.2 }
def alrU (u : Un) (m : Int) : Un := onU (rightU (andU u m) (andU u m).a 0)
def arrV (u : Un) : Un := flU (flU u 1 (bits .and .u8 u.a 64 != 0)) 64 ((bits .and .u8 u.a 64 != 0) != (bits .and .u8 u.a 32 != 0))
def arrU (u : Un) (m : Int) : Un := arrV (onU (rightU (andU u m) (andU u m).a (bits .and .u8 (andU u m).p 1)))
def twoU (r : Un × Int) (f : Un → Int → Un) : Un × Int := (f r.1 r.2, r.2)

set_option maxRecDepth 100000 in
set_option maxHeartbeats 1000000 in
theorem onA_asl (a x y s p : Int) (w : World) :
    Calls Try.prog 38 #[uv a x y s p, .func (.func 62) #[] #[]] w fun e w' => e = .returned (uu { (leftU ⟨a, x, y, s, p⟩ a 0).1 with a := (leftU ⟨a, x, y, s, p⟩ a 0).2 }) ∧ Ext w w' := by
  have F0 := asl_any
  unfold uu uv at F0
  have r1 := ext_cell
  have r2 := ext_frozen
  have r3 := ext_setCell
  have r4 := ext_lt
  have r5 := ext_drew
  have r6 := ext_ext
  unfold uu uv
  go_enter Try.func38, Try.ntmps38
  go_wp2_with (go_at_call 62; refine (F0 _ _ _ _ _ _ _).mono ?_; rintro e w' ⟨rfl, os, q, rfl⟩)
  all_goals
    refine bodyPost_ret (by simp [results, Try.results38, go_sem, *] <;> (repeat' (first | exact rfl | refine And.intro ?_ ?_))) rfl ⟨rfl, ?_⟩
    repeat (first | exact Ext.refl _ | refine Ext.alloc ?_ _ | refine Ext.ext ?_ _ _ | refine Ext.drew ?_ | refine Ext.drewN ?_ _)


set_option maxRecDepth 100000 in
set_option maxHeartbeats 1000000 in
theorem onA_lsr (a x y s p : Int) (w : World) :
    Calls Try.prog 38 #[uv a x y s p, .func (.func 63) #[] #[]] w fun e w' => e = .returned (uu { (rightU ⟨a, x, y, s, p⟩ a 0).1 with a := (rightU ⟨a, x, y, s, p⟩ a 0).2 }) ∧ Ext w w' := by
  have F0 := lsr_any
  unfold uu uv at F0
  have r1 := ext_cell
  have r2 := ext_frozen
  have r3 := ext_setCell
  have r4 := ext_lt
  have r5 := ext_drew
  have r6 := ext_ext
  unfold uu uv
  go_enter Try.func38, Try.ntmps38
  go_wp2_with (go_at_call 63; refine (F0 _ _ _ _ _ _ _).mono ?_; rintro e w' ⟨rfl, os, q, rfl⟩)
  all_goals
    refine bodyPost_ret (by simp [results, Try.results38, go_sem, *] <;> (repeat' (first | exact rfl | refine And.intro ?_ ?_))) rfl ⟨rfl, ?_⟩
    repeat (first | exact Ext.refl _ | refine Ext.alloc ?_ _ | refine Ext.ext ?_ _ _ | refine Ext.drew ?_ | refine Ext.drewN ?_ _)


set_option maxRecDepth 100000 in
set_option maxHeartbeats 1000000 in
theorem onA_rol (a x y s p : Int) (w : World) :
    Calls Try.prog 38 #[uv a x y s p, .func (.func 64) #[] #[]] w fun e w' => e = .returned (uu { (leftU ⟨a, x, y, s, p⟩ a (bits .and .u8 p 1)).1 with a := (leftU ⟨a, x, y, s, p⟩ a (bits .and .u8 p 1)).2 }) ∧ Ext w w' := by
  have F0 := rol_any
  unfold uu uv at F0
  have r1 := ext_cell
  have r2 := ext_frozen
  have r3 := ext_setCell
  have r4 := ext_lt
  have r5 := ext_drew
  have r6 := ext_ext
  unfold uu uv
  go_enter Try.func38, Try.ntmps38
  go_wp2_with (go_at_call 64; refine (F0 _ _ _ _ _ _ _).mono ?_; rintro e w' ⟨rfl, os, q, rfl⟩)
  all_goals
    refine bodyPost_ret (by simp [results, Try.results38, go_sem, *] <;> (repeat' (first | exact rfl | refine And.intro ?_ ?_))) rfl ⟨rfl, ?_⟩
    repeat (first | exact Ext.refl _ | refine Ext.alloc ?_ _ | refine Ext.ext ?_ _ _ | refine Ext.drew ?_ | refine Ext.drewN ?_ _)


set_option maxRecDepth 100000 in
set_option maxHeartbeats 1000000 in
theorem onA_ror (a x y s p : Int) (w : World) :
    Calls Try.prog 38 #[uv a x y s p, .func (.func 65) #[] #[]] w fun e w' => e = .returned (uu { (rightU ⟨a, x, y, s, p⟩ a (bits .and .u8 p 1)).1 with a := (rightU ⟨a, x, y, s, p⟩ a (bits .and .u8 p 1)).2 }) ∧ Ext w w' := by
  have F0 := ror_any
  unfold uu uv at F0
  have r1 := ext_cell
  have r2 := ext_frozen
  have r3 := ext_setCell
  have r4 := ext_lt
  have r5 := ext_drew
  have r6 := ext_ext
  unfold uu uv
  go_enter Try.func38, Try.ntmps38
  go_wp2_with (go_at_call 65; refine (F0 _ _ _ _ _ _ _).mono ?_; rintro e w' ⟨rfl, os, q, rfl⟩)
  all_goals
    refine bodyPost_ret (by simp [results, Try.results38, go_sem, *] <;> (repeat' (first | exact rfl | refine And.intro ?_ ?_))) rfl ⟨rfl, ?_⟩
    repeat (first | exact Ext.refl _ | refine Ext.alloc ?_ _ | refine Ext.ext ?_ _ _ | refine Ext.drew ?_ | refine Ext.drewN ?_ _)


set_option maxRecDepth 100000 in
set_option maxHeartbeats 1000000 in
theorem alr_any (a x y s p m : Int) (w : World) :
    Calls Try.prog 58 #[uv a x y s p, .int .u8 m] w fun e w' => e = .returned (uu (alrU ⟨a, x, y, s, p⟩ m)) ∧ Ext w w' := by
  have F0 := and_any
  unfold uu uv at F0
  have F1 := onA_lsr
  unfold uu uv at F1
  have r1 := ext_cell
  have r2 := ext_frozen
  have r3 := ext_setCell
  have r4 := ext_lt
  have r5 := ext_drew
  have r6 := ext_ext
  unfold uu uv
  go_enter Try.func58, Try.ntmps58
  go_wp2_with (first | (go_at_call 45; refine (F0 _ _ _ _ _ _ _).mono ?_; rintro e w' ⟨rfl, os, q, rfl⟩) | (go_at_call 38; refine (F1 _ _ _ _ _ _).mono ?_; rintro e w' ⟨rfl, os, q, rfl⟩))
  all_goals
    refine bodyPost_ret (by simp [results, Try.results58, go_sem, *] <;> (repeat' (first | exact rfl | refine And.intro ?_ ?_))) rfl ⟨rfl, ?_⟩
    repeat (first | exact Ext.refl _ | refine Ext.alloc ?_ _ | refine Ext.ext ?_ _ _ | refine Ext.drew ?_ | refine Ext.drewN ?_ _)

set_option maxRecDepth 100000 in
set_option maxHeartbeats 1000000 in
theorem arr_any (a x y s p m : Int) (w : World) :
    Calls Try.prog 59 #[uv a x y s p, .int .u8 m] w fun e w' => e = .returned (uu (arrU ⟨a, x, y, s, p⟩ m)) ∧ Ext w w' := by
  have F0 := and_any
  unfold uu uv at F0
  have F1 := onA_ror
  unfold uu uv at F1
  have F2 := flag_any
  unfold uu uv at F2
  have r1 := ext_cell
  have r2 := ext_frozen
  have r3 := ext_setCell
  have r4 := ext_lt
  have r5 := ext_drew
  have r6 := ext_ext
  have r7 := ext_drewN
  have r8 := drewN_ext
  unfold uu uv
  go_enter Try.func59, Try.ntmps59
  go_upto_region 2 with (first | (go_at_call 45; refine (F0 _ _ _ _ _ _ _).mono ?_; rintro e w' ⟨rfl, os, q, rfl⟩) | (go_at_call 38; refine (F1 _ _ _ _ _ _).mono ?_; rintro e w' ⟨rfl, os, q, rfl⟩) | (go_at_call 23; refine (F2 _ _ _ _ _ _ _ _).mono ?_; rintro e w' ⟨rfl, os, q, rfl⟩))
  go_quiet (fail)
  go_wp2_with (first | (go_at_call 45; refine (F0 _ _ _ _ _ _ _).mono ?_; rintro e w' ⟨rfl, os, q, rfl⟩) | (go_at_call 38; refine (F1 _ _ _ _ _ _).mono ?_; rintro e w' ⟨rfl, os, q, rfl⟩) | (go_at_call 23; refine (F2 _ _ _ _ _ _ _ _).mono ?_; rintro e w' ⟨rfl, os, q, rfl⟩))
  all_goals
    refine bodyPost_ret (by simp [results, Try.results59, go_sem, *] <;> (repeat' (first | exact rfl | refine And.intro ?_ ?_))) rfl ⟨rfl, ?_⟩
    repeat (first | exact Ext.refl _ | refine Ext.alloc ?_ _ | refine Ext.ext ?_ _ _ | refine Ext.drew ?_ | refine Ext.drewN ?_ _)

set_option maxRecDepth 100000 in
set_option maxHeartbeats 1000000 in
theorem slo_any (a x y s p m : Int) (w : World) :
    Calls Try.prog 68 #[uv a x y s p, .int .u8 m] w fun e w' => e = .returned (.tuple #[uu (twoU (leftU ⟨a, x, y, s, p⟩ m 0) oraU).1, .int .u8 (twoU (leftU ⟨a, x, y, s, p⟩ m 0) oraU).2]) ∧ Ext w w' := by
  have F0 := asl_any
  unfold uu uv at F0
  have F1 := ora_any
  unfold uu uv at F1
  have r1 := ext_cell
  have r2 := ext_frozen
  have r3 := ext_setCell
  have r4 := ext_lt
  have r5 := ext_drew
  have r6 := ext_ext
  unfold uu uv
  go_enter Try.func68, Try.ntmps68
  go_wp2_with (first | (go_at_call 62; refine (F0 _ _ _ _ _ _ _).mono ?_; rintro e w' ⟨rfl, os, q, rfl⟩) | (go_at_call 44; refine (F1 _ _ _ _ _ _ _).mono ?_; rintro e w' ⟨rfl, os, q, rfl⟩))
  all_goals
    refine bodyPost_ret (by simp [results, Try.results68, go_sem, *] <;> (repeat' (first | exact rfl | refine And.intro ?_ ?_))) rfl ⟨rfl, ?_⟩
    repeat (first | exact Ext.refl _ | refine Ext.alloc ?_ _ | refine Ext.ext ?_ _ _ | refine Ext.drew ?_ | refine Ext.drewN ?_ _)

set_option maxRecDepth 100000 in
set_option maxHeartbeats 1000000 in
theorem rla_any (a x y s p m : Int) (w : World) :
    Calls Try.prog 69 #[uv a x y s p, .int .u8 m] w fun e w' => e = .returned (.tuple #[uu (twoU (leftU ⟨a, x, y, s, p⟩ m (bits .and .u8 p 1)) andU).1, .int .u8 (twoU (leftU ⟨a, x, y, s, p⟩ m (bits .and .u8 p 1)) andU).2]) ∧ Ext w w' := by
  have F0 := rol_any
  unfold uu uv at F0
  have F1 := and_any
  unfold uu uv at F1
  have r1 := ext_cell
  have r2 := ext_frozen
  have r3 := ext_setCell
  have r4 := ext_lt
  have r5 := ext_drew
  have r6 := ext_ext
  unfold uu uv
  go_enter Try.func69, Try.ntmps69
  go_wp2_with (first | (go_at_call 64; refine (F0 _ _ _ _ _ _ _).mono ?_; rintro e w' ⟨rfl, os, q, rfl⟩) | (go_at_call 45; refine (F1 _ _ _ _ _ _ _).mono ?_; rintro e w' ⟨rfl, os, q, rfl⟩))
  all_goals
    refine bodyPost_ret (by simp [results, Try.results69, go_sem, *] <;> (repeat' (first | exact rfl | refine And.intro ?_ ?_))) rfl ⟨rfl, ?_⟩
    repeat (first | exact Ext.refl _ | refine Ext.alloc ?_ _ | refine Ext.ext ?_ _ _ | refine Ext.drew ?_ | refine Ext.drewN ?_ _)

set_option maxRecDepth 100000 in
set_option maxHeartbeats 1000000 in
theorem sre_any (a x y s p m : Int) (w : World) :
    Calls Try.prog 70 #[uv a x y s p, .int .u8 m] w fun e w' => e = .returned (.tuple #[uu (twoU (rightU ⟨a, x, y, s, p⟩ m 0) eorU).1, .int .u8 (twoU (rightU ⟨a, x, y, s, p⟩ m 0) eorU).2]) ∧ Ext w w' := by
  have F0 := lsr_any
  unfold uu uv at F0
  have F1 := eor_any
  unfold uu uv at F1
  have r1 := ext_cell
  have r2 := ext_frozen
  have r3 := ext_setCell
  have r4 := ext_lt
  have r5 := ext_drew
  have r6 := ext_ext
  unfold uu uv
  go_enter Try.func70, Try.ntmps70
  go_wp2_with (first | (go_at_call 63; refine (F0 _ _ _ _ _ _ _).mono ?_; rintro e w' ⟨rfl, os, q, rfl⟩) | (go_at_call 46; refine (F1 _ _ _ _ _ _ _).mono ?_; rintro e w' ⟨rfl, os, q, rfl⟩))
  all_goals
    refine bodyPost_ret (by simp [results, Try.results70, go_sem, *] <;> (repeat' (first | exact rfl | refine And.intro ?_ ?_))) rfl ⟨rfl, ?_⟩
    repeat (first | exact Ext.refl _ | refine Ext.alloc ?_ _ | refine Ext.ext ?_ _ _ | refine Ext.drew ?_ | refine Ext.drewN ?_ _)

set_option maxRecDepth 100000 in
set_option maxHeartbeats 1000000 in
theorem dcp_any (a x y s p m : Int) (w : World) :
    Calls Try.prog 72 #[uv a x y s p, .int .u8 m] w fun e w' => e = .returned (.tuple #[uu (twoU (becU ⟨a, x, y, s, p⟩ (IntKind.u8.wrap (m - 1))) (fun u m => cmpU u u.a m)).1, .int .u8 (twoU (becU ⟨a, x, y, s, p⟩ (IntKind.u8.wrap (m - 1))) (fun u m => cmpU u u.a m)).2]) ∧ Ext w w' := by
  have F0 := dec_any
  unfold uu uv at F0
  have F1 := cmp_any
  unfold uu uv at F1
  have r1 := ext_cell
  have r2 := ext_frozen
  have r3 := ext_setCell
  have r4 := ext_lt
  have r5 := ext_drew
  have r6 := ext_ext
  unfold uu uv
  go_enter Try.func72, Try.ntmps72
  go_wp2_with (first | (go_at_call 67; refine (F0 _ _ _ _ _ _ _).mono ?_; rintro e w' ⟨rfl, os, q, rfl⟩) | (go_at_call 49; refine (F1 _ _ _ _ _ _ _).mono ?_; rintro e w' ⟨rfl, os, q, rfl⟩))
  all_goals
    refine bodyPost_ret (by simp [results, Try.results72, go_sem, *] <;> (repeat' (first | exact rfl | refine And.intro ?_ ?_))) rfl ⟨rfl, ?_⟩
    repeat (first | exact Ext.refl _ | refine Ext.alloc ?_ _ | refine Ext.ext ?_ _ _ | refine Ext.drew ?_ | refine Ext.drewN ?_ _)

end Go.Proofs.Ytigpmmjbdpnkjaa
