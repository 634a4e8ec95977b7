/- Contracts of package alu: a change of A; operations of two. No law is claimed here. -/
import Derived.Test.YtigpmmjbdpnkjaaDoorAlu2
namespace Go.Proofs.YtigpmmjbdpnkjaaDoor
open Go.RowKit

def onU (r : Un × Int) : Un := { r.1 with a := r.2 }
def alrU (u : Un) (m : Int) : Un := onU (rightU (andU u m) (andU u m).a 0)
def arrV (u : Un) : Un := flU (flU u 1 (bits .and .u8 u.a 64 != 0)) 64 ((bits .and .u8 u.a 64 != 0) != (bits .and .u8 u.a 32 != 0))
def arrU (u : Un) (m : Int) : Un := arrV (onU (rightU (andU u m) (andU u m).a (bits .and .u8 (andU u m).p 1)))
def twoU (r : Un × Int) (f : Un → Int → Un) : Un × Int := (f r.1 r.2, r.2)

set_option maxRecDepth 100000 in
set_option maxHeartbeats 1000000 in
theorem onA_lsr (a x y s p : Int) (w : World) :
    Calls Tryd.prog 40 #[uv a x y s p, .func (.func 41) #[] #[]] w fun e w' => e = .returned (uu { (rightU ⟨a, x, y, s, p⟩ a 0).1 with a := (rightU ⟨a, x, y, s, p⟩ a 0).2 }) ∧ Ext w w' := by
  have F0 := lsr_any
  unfold uu uv at F0
  have r1 := ext_cell
  have r2 := ext_frozen
  have r3 := ext_setCell
  have r4 := ext_lt
  have r5 := ext_drew
  have r6 := ext_ext
  unfold uu uv
  go_enter Tryd.func40, Tryd.ntmps40
  go_wp2_with (go_at_call 41; refine (F0 _ _ _ _ _ _ _).mono ?_; rintro e w' ⟨rfl, os, q, rfl⟩)
  all_goals
    refine bodyPost_ret (by simp [results, Tryd.results40, go_sem, *] <;> (repeat' (first | exact rfl | refine And.intro ?_ ?_))) rfl ⟨rfl, ?_⟩
    repeat (first | exact Ext.refl _ | refine Ext.alloc ?_ _ | refine Ext.ext ?_ _ _ | refine Ext.drew ?_ | refine Ext.drewN ?_ _)


set_option maxRecDepth 100000 in
set_option maxHeartbeats 1000000 in
theorem onA_ror (a x y s p : Int) (w : World) :
    Calls Tryd.prog 40 #[uv a x y s p, .func (.func 42) #[] #[]] w fun e w' => e = .returned (uu { (rightU ⟨a, x, y, s, p⟩ a (bits .and .u8 p 1)).1 with a := (rightU ⟨a, x, y, s, p⟩ a (bits .and .u8 p 1)).2 }) ∧ Ext w w' := by
  have F0 := ror_any
  unfold uu uv at F0
  have r1 := ext_cell
  have r2 := ext_frozen
  have r3 := ext_setCell
  have r4 := ext_lt
  have r5 := ext_drew
  have r6 := ext_ext
  unfold uu uv
  go_enter Tryd.func40, Tryd.ntmps40
  go_wp2_with (go_at_call 42; refine (F0 _ _ _ _ _ _ _).mono ?_; rintro e w' ⟨rfl, os, q, rfl⟩)
  all_goals
    refine bodyPost_ret (by simp [results, Tryd.results40, go_sem, *] <;> (repeat' (first | exact rfl | refine And.intro ?_ ?_))) rfl ⟨rfl, ?_⟩
    repeat (first | exact Ext.refl _ | refine Ext.alloc ?_ _ | refine Ext.ext ?_ _ _ | refine Ext.drew ?_ | refine Ext.drewN ?_ _)


set_option maxRecDepth 100000 in
set_option maxHeartbeats 1000000 in
theorem alr_any (a x y s p m : Int) (w : World) :
    Calls Tryd.prog 32 #[uv a x y s p, .int .u8 m] w fun e w' => e = .returned (uu (alrU ⟨a, x, y, s, p⟩ m)) ∧ Ext w w' := by
  have F0 := and_any
  unfold uu uv at F0
  have F1 := onA_lsr
  unfold uu uv at F1
  have r1 := ext_cell
  have r2 := ext_frozen
  have r3 := ext_setCell
  have r4 := ext_lt
  have r5 := ext_drew
  have r6 := ext_ext
  unfold uu uv
  go_enter Tryd.func32, Tryd.ntmps32
  go_wp2_with (first | (go_at_call 19; refine (F0 _ _ _ _ _ _ _).mono ?_; rintro e w' ⟨rfl, os, q, rfl⟩) | (go_at_call 40; refine (F1 _ _ _ _ _ _).mono ?_; rintro e w' ⟨rfl, os, q, rfl⟩))
  all_goals
    refine bodyPost_ret (by simp [results, Tryd.results32, go_sem, *] <;> (repeat' (first | exact rfl | refine And.intro ?_ ?_))) rfl ⟨rfl, ?_⟩
    repeat (first | exact Ext.refl _ | refine Ext.alloc ?_ _ | refine Ext.ext ?_ _ _ | refine Ext.drew ?_ | refine Ext.drewN ?_ _)

set_option maxRecDepth 100000 in
set_option maxHeartbeats 1000000 in
theorem arr_any (a x y s p m : Int) (w : World) :
    Calls Tryd.prog 33 #[uv a x y s p, .int .u8 m] w fun e w' => e = .returned (uu (arrU ⟨a, x, y, s, p⟩ m)) ∧ Ext w w' := by
  have F0 := and_any
  unfold uu uv at F0
  have F1 := onA_ror
  unfold uu uv at F1
  have F2 := flag_any
  unfold uu uv at F2
  have r1 := ext_cell
  have r2 := ext_frozen
  have r3 := ext_setCell
  have r4 := ext_lt
  have r5 := ext_drew
  have r6 := ext_ext
  have r7 := ext_drewN
  have r8 := drewN_ext
  unfold uu uv
  go_enter Tryd.func33, Tryd.ntmps33
  go_upto_region 2 with (first | (go_at_call 19; refine (F0 _ _ _ _ _ _ _).mono ?_; rintro e w' ⟨rfl, os, q, rfl⟩) | (go_at_call 40; refine (F1 _ _ _ _ _ _).mono ?_; rintro e w' ⟨rfl, os, q, rfl⟩) | (go_at_call 37; refine (F2 _ _ _ _ _ _ _ _).mono ?_; rintro e w' ⟨rfl, os, q, rfl⟩))
  go_quiet (fail)
  go_wp2_with (first | (go_at_call 19; refine (F0 _ _ _ _ _ _ _).mono ?_; rintro e w' ⟨rfl, os, q, rfl⟩) | (go_at_call 40; refine (F1 _ _ _ _ _ _).mono ?_; rintro e w' ⟨rfl, os, q, rfl⟩) | (go_at_call 37; refine (F2 _ _ _ _ _ _ _ _).mono ?_; rintro e w' ⟨rfl, os, q, rfl⟩))
  all_goals
    refine bodyPost_ret (by simp [results, Tryd.results33, go_sem, *] <;> (repeat' (first | exact rfl | refine And.intro ?_ ?_))) rfl ⟨rfl, ?_⟩
    repeat (first | exact Ext.refl _ | refine Ext.alloc ?_ _ | refine Ext.ext ?_ _ _ | refine Ext.drew ?_ | refine Ext.drewN ?_ _)

end Go.Proofs.YtigpmmjbdpnkjaaDoor
