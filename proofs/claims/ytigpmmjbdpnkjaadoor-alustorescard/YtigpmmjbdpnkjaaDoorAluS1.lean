/- Stores and branches: package alu. No law is claimed here. -/
import Derived.Test.YtigpmmjbdpnkjaaDoorRU7
import Derived.Test.YtigpmmjbdpnkjaaDoorRU10
import Derived.Test.YtigpmmjbdpnkjaaDoorAluA
import Derived.BigQuiet
namespace Go.Proofs.YtigpmmjbdpnkjaaDoor
open Go.RowKit

set_option maxRecDepth 100000 in
set_option maxHeartbeats 1000000 in
theorem store_31 (a x y s p : Int) (w : World) : Calls Tryd.prog 6 #[uv a x y s p, .int .u8 31] w fun e w' => e = .returned (.int .u8 (a)) ∧ Ext w w' := by
  unfold uv
  go_enter Tryd.func6, Tryd.ntmps6
  go_wp2
  go_ret
  exact ⟨rfl, (Ext.refl _).alloc _⟩

set_option maxRecDepth 100000 in
set_option maxHeartbeats 1000000 in
theorem store_32 (a x y s p : Int) (w : World) : Calls Tryd.prog 6 #[uv a x y s p, .int .u8 32] w fun e w' => e = .returned (.int .u8 (x)) ∧ Ext w w' := by
  unfold uv
  go_enter Tryd.func6, Tryd.ntmps6
  go_wp2
  go_ret
  exact ⟨rfl, (Ext.refl _).alloc _⟩

set_option maxRecDepth 100000 in
set_option maxHeartbeats 1000000 in
theorem store_33 (a x y s p : Int) (w : World) : Calls Tryd.prog 6 #[uv a x y s p, .int .u8 33] w fun e w' => e = .returned (.int .u8 (y)) ∧ Ext w w' := by
  unfold uv
  go_enter Tryd.func6, Tryd.ntmps6
  go_wp2
  go_ret
  exact ⟨rfl, (Ext.refl _).alloc _⟩

set_option maxRecDepth 100000 in
set_option maxHeartbeats 1000000 in
theorem store_34 (a x y s p : Int) (w : World) : Calls Tryd.prog 6 #[uv a x y s p, .int .u8 34] w fun e w' => e = .returned (.int .u8 (bits .and .u8 a x)) ∧ Ext w w' := by
  unfold uv
  go_enter Tryd.func6, Tryd.ntmps6
  go_wp2
  go_ret
  exact ⟨rfl, (Ext.refl _).alloc _⟩

set_option maxRecDepth 100000 in
set_option maxHeartbeats 1000000 in
theorem store_other (a x y s p op : Int) (w : World) (h1 : op ≠ 31) (h2 : op ≠ 32) (h3 : op ≠ 33) (h4 : op ≠ 34) : Calls Tryd.prog 6 #[uv a x y s p, .int .u8 op] w fun e w' => e = .returned (.int .u8 0) ∧ Ext w w' := by
  have t1 : (op == 31) = false := by rw [beq_eq_false_iff_ne]; exact h1
  have t2 : (op == 32) = false := by rw [beq_eq_false_iff_ne]; exact h2
  have t3 : (op == 33) = false := by rw [beq_eq_false_iff_ne]; exact h3
  have t4 : (op == 34) = false := by rw [beq_eq_false_iff_ne]; exact h4
  clear h1 h2 h3 h4
  unfold uv
  go_enter Tryd.func6, Tryd.ntmps6
  go_wp2
  go_ret
  exact ⟨rfl, (Ext.refl _).alloc _⟩

set_option maxRecDepth 100000 in
set_option maxHeartbeats 1000000 in
theorem takes_other (a x y s p op : Int) (w : World) (hk : kindU op ≠ 5) : Calls Tryd.prog 9 #[uv a x y s p, .int .u8 op] w fun e w' => e = .returned (.bool false) ∧ Ext w w' := by
  have F2 := kind_any
  unfold uv
  go_enter Tryd.func9, Tryd.ntmps9
  go_wp2_with (go_at_call 14; refine (F2 _ _).mono ?_; rintro e w' ⟨rfl, rfl⟩)
  go_ret
  exact ⟨rfl, (Ext.refl _).alloc _⟩

set_option maxRecDepth 100000 in
set_option maxHeartbeats 1000000 in
theorem takes_52 (a x y s p : Int) (c : Bool) (w : World) (h0 : 0 < w.heap.size) (hg : w.cell? ⟨0, 0, none⟩ = some (.int .u8 128)) (hc : (bits .and .u8 p 128 != 0) = c) :
    Calls Tryd.prog 9 #[uv a x y s p, .int .u8 52] w fun e w' => e = .returned (.bool (!c)) ∧ Ext w w' := by
  have F2 := kind_any
  have hw : IntKind.u8.wrap 0 = 0 := rfl
  cases c
  all_goals
    unfold uv
    go_enter Tryd.func9, Tryd.ntmps9
    go_upto_region 4 with (go_at_call 14; refine (F2 _ _).mono ?_; rintro e w' ⟨rfl, rfl⟩; unfold kindU)
    go_quiet (fail)
    go_wp2
    go_ret
    refine ⟨rfl, ?_⟩
    repeat (first | exact Ext.refl _ | refine Ext.alloc ?_ _ | refine Ext.ext ?_ _ _ | refine Ext.drew ?_ | refine Ext.drewN ?_ _)

set_option maxRecDepth 100000 in
set_option maxHeartbeats 1000000 in
theorem takes_53 (a x y s p : Int) (c : Bool) (w : World) (h0 : 0 < w.heap.size) (hg : w.cell? ⟨0, 0, none⟩ = some (.int .u8 128)) (hc : (bits .and .u8 p 128 != 0) = c) :
    Calls Tryd.prog 9 #[uv a x y s p, .int .u8 53] w fun e w' => e = .returned (.bool (c)) ∧ Ext w w' := by
  have F2 := kind_any
  have hw : IntKind.u8.wrap 1 = 1 := rfl
  cases c
  all_goals
    unfold uv
    go_enter Tryd.func9, Tryd.ntmps9
    go_upto_region 4 with (go_at_call 14; refine (F2 _ _).mono ?_; rintro e w' ⟨rfl, rfl⟩; unfold kindU)
    go_quiet (fail)
    go_wp2
    go_ret
    refine ⟨rfl, ?_⟩
    repeat (first | exact Ext.refl _ | refine Ext.alloc ?_ _ | refine Ext.ext ?_ _ _ | refine Ext.drew ?_ | refine Ext.drewN ?_ _)

set_option maxRecDepth 100000 in
set_option maxHeartbeats 1000000 in
theorem takes_54 (a x y s p : Int) (c : Bool) (w : World) (h0 : 0 < w.heap.size) (hg : w.cell? ⟨0, 1, none⟩ = some (.int .u8 64)) (hc : (bits .and .u8 p 64 != 0) = c) :
    Calls Tryd.prog 9 #[uv a x y s p, .int .u8 54] w fun e w' => e = .returned (.bool (!c)) ∧ Ext w w' := by
  have F2 := kind_any
  have hw : IntKind.u8.wrap 2 = 2 := rfl
  cases c
  all_goals
    unfold uv
    go_enter Tryd.func9, Tryd.ntmps9
    go_upto_region 4 with (go_at_call 14; refine (F2 _ _).mono ?_; rintro e w' ⟨rfl, rfl⟩; unfold kindU)
    go_quiet (fail)
    go_wp2
    go_ret
    refine ⟨rfl, ?_⟩
    repeat (first | exact Ext.refl _ | refine Ext.alloc ?_ _ | refine Ext.ext ?_ _ _ | refine Ext.drew ?_ | refine Ext.drewN ?_ _)

set_option maxRecDepth 100000 in
set_option maxHeartbeats 1000000 in
theorem takes_55 (a x y s p : Int) (c : Bool) (w : World) (h0 : 0 < w.heap.size) (hg : w.cell? ⟨0, 1, none⟩ = some (.int .u8 64)) (hc : (bits .and .u8 p 64 != 0) = c) :
    Calls Tryd.prog 9 #[uv a x y s p, .int .u8 55] w fun e w' => e = .returned (.bool (c)) ∧ Ext w w' := by
  have F2 := kind_any
  have hw : IntKind.u8.wrap 3 = 3 := rfl
  cases c
  all_goals
    unfold uv
    go_enter Tryd.func9, Tryd.ntmps9
    go_upto_region 4 with (go_at_call 14; refine (F2 _ _).mono ?_; rintro e w' ⟨rfl, rfl⟩; unfold kindU)
    go_quiet (fail)
    go_wp2
    go_ret
    refine ⟨rfl, ?_⟩
    repeat (first | exact Ext.refl _ | refine Ext.alloc ?_ _ | refine Ext.ext ?_ _ _ | refine Ext.drew ?_ | refine Ext.drewN ?_ _)

set_option maxRecDepth 100000 in
set_option maxHeartbeats 1000000 in
theorem takes_56 (a x y s p : Int) (c : Bool) (w : World) (h0 : 0 < w.heap.size) (hg : w.cell? ⟨0, 2, none⟩ = some (.int .u8 1)) (hc : (bits .and .u8 p 1 != 0) = c) :
    Calls Tryd.prog 9 #[uv a x y s p, .int .u8 56] w fun e w' => e = .returned (.bool (!c)) ∧ Ext w w' := by
  have F2 := kind_any
  have hw : IntKind.u8.wrap 4 = 4 := rfl
  cases c
  all_goals
    unfold uv
    go_enter Tryd.func9, Tryd.ntmps9
    go_upto_region 4 with (go_at_call 14; refine (F2 _ _).mono ?_; rintro e w' ⟨rfl, rfl⟩; unfold kindU)
    go_quiet (fail)
    go_wp2
    go_ret
    refine ⟨rfl, ?_⟩
    repeat (first | exact Ext.refl _ | refine Ext.alloc ?_ _ | refine Ext.ext ?_ _ _ | refine Ext.drew ?_ | refine Ext.drewN ?_ _)

set_option maxRecDepth 100000 in
set_option maxHeartbeats 1000000 in
theorem takes_57 (a x y s p : Int) (c : Bool) (w : World) (h0 : 0 < w.heap.size) (hg : w.cell? ⟨0, 2, none⟩ = some (.int .u8 1)) (hc : (bits .and .u8 p 1 != 0) = c) :
    Calls Tryd.prog 9 #[uv a x y s p, .int .u8 57] w fun e w' => e = .returned (.bool (c)) ∧ Ext w w' := by
  have F2 := kind_any
  have hw : IntKind.u8.wrap 5 = 5 := rfl
  cases c
  all_goals
    unfold uv
    go_enter Tryd.func9, Tryd.ntmps9
    go_upto_region 4 with (go_at_call 14; refine (F2 _ _).mono ?_; rintro e w' ⟨rfl, rfl⟩; unfold kindU)
    go_quiet (fail)
    go_wp2
    go_ret
    refine ⟨rfl, ?_⟩
    repeat (first | exact Ext.refl _ | refine Ext.alloc ?_ _ | refine Ext.ext ?_ _ _ | refine Ext.drew ?_ | refine Ext.drewN ?_ _)

set_option maxRecDepth 100000 in
set_option maxHeartbeats 1000000 in
theorem takes_58 (a x y s p : Int) (c : Bool) (w : World) (h0 : 0 < w.heap.size) (hg : w.cell? ⟨0, 3, none⟩ = some (.int .u8 2)) (hc : (bits .and .u8 p 2 != 0) = c) :
    Calls Tryd.prog 9 #[uv a x y s p, .int .u8 58] w fun e w' => e = .returned (.bool (!c)) ∧ Ext w w' := by
  have F2 := kind_any
  have hw : IntKind.u8.wrap 6 = 6 := rfl
  cases c
  all_goals
    unfold uv
    go_enter Tryd.func9, Tryd.ntmps9
    go_upto_region 4 with (go_at_call 14; refine (F2 _ _).mono ?_; rintro e w' ⟨rfl, rfl⟩; unfold kindU)
    go_quiet (fail)
    go_wp2
    go_ret
    refine ⟨rfl, ?_⟩
    repeat (first | exact Ext.refl _ | refine Ext.alloc ?_ _ | refine Ext.ext ?_ _ _ | refine Ext.drew ?_ | refine Ext.drewN ?_ _)

set_option maxRecDepth 100000 in
set_option maxHeartbeats 1000000 in
theorem takes_59 (a x y s p : Int) (c : Bool) (w : World) (h0 : 0 < w.heap.size) (hg : w.cell? ⟨0, 3, none⟩ = some (.int .u8 2)) (hc : (bits .and .u8 p 2 != 0) = c) :
    Calls Tryd.prog 9 #[uv a x y s p, .int .u8 59] w fun e w' => e = .returned (.bool (c)) ∧ Ext w w' := by
  have F2 := kind_any
  have hw : IntKind.u8.wrap 7 = 7 := rfl
  cases c
  all_goals
    unfold uv
    go_enter Tryd.func9, Tryd.ntmps9
    go_upto_region 4 with (go_at_call 14; refine (F2 _ _).mono ?_; rintro e w' ⟨rfl, rfl⟩; unfold kindU)
    go_quiet (fail)
    go_wp2
    go_ret
    refine ⟨rfl, ?_⟩
    repeat (first | exact Ext.refl _ | refine Ext.alloc ?_ _ | refine Ext.ext ?_ _ _ | refine Ext.drew ?_ | refine Ext.drewN ?_ _)

end Go.Proofs.YtigpmmjbdpnkjaaDoor
