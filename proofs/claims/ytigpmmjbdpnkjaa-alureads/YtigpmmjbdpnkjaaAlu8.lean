/- Contracts of package alu: Change. No law is claimed here. -/
import Derived.Test.YtigpmmjbdpnkjaaAlu5
import Derived.Test.YtigpmmjbdpnkjaaAlu6
namespace Go.Proofs.Ytigpmmjbdpnkjaa
open Go.RowKit

set_option maxRecDepth 100000 in
set_option maxHeartbeats 1000000 in
theorem Change_asl (a x y s p m : Int) (w : World) :
    Calls Try.prog 20 #[uv a x y s p, .int .u8 19, .int .u8 m] w fun e w' => e = .returned (.tuple #[uu (leftU ⟨a, x, y, s, p⟩ m 0).1, .int .u8 (leftU ⟨a, x, y, s, p⟩ m 0).2]) ∧ Ext w w' := by
  have hx : ∀ w, (Instr.index 61 changesV (.int .u8 0)).run Try.prog w = .ok (.func (.func 62) #[] #[]) w := fun _ => by kernel_rfl
  have hw : IntKind.u8.wrap 0 = 0 := rfl
  have F0 := changes_any
  have F1 := asl_any
  unfold uu uv at F1
  have F2 := kind_any
  have r1 := ext_cell
  have r2 := ext_frozen
  have r3 := ext_setCell
  have r4 := ext_lt
  have r5 := ext_drew
  have r6 := ext_ext
  unfold uu uv
  go_enter Try.func20, Try.ntmps20
  go_upto_region 3 with (go_at_call 26; refine (F2 _ _).mono ?_; rintro e w' ⟨rfl, rfl⟩; unfold kindU)
  go_region_held3 (fun v => w.heap.size < v.heap.size ∧ v.cell? ⟨w.heap.size, 0, none⟩ = some (.int .u8 a) ∧ v.cell? ⟨w.heap.size, 1, none⟩ = some (.int .u8 x) ∧ v.cell? ⟨w.heap.size, 2, none⟩ = some (.int .u8 y) ∧ v.cell? ⟨w.heap.size, 3, none⟩ = some (.int .u8 s) ∧ v.cell? ⟨w.heap.size, 4, none⟩ = some (.int .u8 p)) (first | assumption | exact bx_ext (by assumption) _ _ | (simp [go_sem]; done) | (refine bx_ext ?_ _ _; simp [go_sem]; done)) (first | (go_at_call 36; refine (F0 _).mono ?_; rintro e w' ⟨rfl, os, q, rfl⟩) | (go_at_call 62; refine (F1 _ _ _ _ _ _ _).mono ?_; rintro e w' ⟨rfl, os, q, rfl⟩))
  all_goals
    go_wp2
    refine bodyPost_ret (by simp [results, Try.results20, go_sem, *] <;> (repeat' (first | exact rfl | refine And.intro ?_ ?_))) rfl ⟨rfl, ?_⟩
    repeat (first | exact Ext.refl _ | refine Ext.alloc ?_ _ | refine Ext.ext ?_ _ _ | refine Ext.drew ?_ | refine Ext.drewN ?_ _)

set_option maxRecDepth 100000 in
set_option maxHeartbeats 1000000 in
theorem Change_lsr (a x y s p m : Int) (w : World) :
    Calls Try.prog 20 #[uv a x y s p, .int .u8 20, .int .u8 m] w fun e w' => e = .returned (.tuple #[uu (rightU ⟨a, x, y, s, p⟩ m 0).1, .int .u8 (rightU ⟨a, x, y, s, p⟩ m 0).2]) ∧ Ext w w' := by
  have hx : ∀ w, (Instr.index 61 changesV (.int .u8 1)).run Try.prog w = .ok (.func (.func 63) #[] #[]) w := fun _ => by kernel_rfl
  have hw : IntKind.u8.wrap 1 = 1 := rfl
  have F0 := changes_any
  have F1 := lsr_any
  unfold uu uv at F1
  have F2 := kind_any
  have r1 := ext_cell
  have r2 := ext_frozen
  have r3 := ext_setCell
  have r4 := ext_lt
  have r5 := ext_drew
  have r6 := ext_ext
  unfold uu uv
  go_enter Try.func20, Try.ntmps20
  go_upto_region 3 with (go_at_call 26; refine (F2 _ _).mono ?_; rintro e w' ⟨rfl, rfl⟩; unfold kindU)
  go_region_held3 (fun v => w.heap.size < v.heap.size ∧ v.cell? ⟨w.heap.size, 0, none⟩ = some (.int .u8 a) ∧ v.cell? ⟨w.heap.size, 1, none⟩ = some (.int .u8 x) ∧ v.cell? ⟨w.heap.size, 2, none⟩ = some (.int .u8 y) ∧ v.cell? ⟨w.heap.size, 3, none⟩ = some (.int .u8 s) ∧ v.cell? ⟨w.heap.size, 4, none⟩ = some (.int .u8 p)) (first | assumption | exact bx_ext (by assumption) _ _ | (simp [go_sem]; done) | (refine bx_ext ?_ _ _; simp [go_sem]; done)) (first | (go_at_call 36; refine (F0 _).mono ?_; rintro e w' ⟨rfl, os, q, rfl⟩) | (go_at_call 63; refine (F1 _ _ _ _ _ _ _).mono ?_; rintro e w' ⟨rfl, os, q, rfl⟩))
  all_goals
    go_wp2
    refine bodyPost_ret (by simp [results, Try.results20, go_sem, *] <;> (repeat' (first | exact rfl | refine And.intro ?_ ?_))) rfl ⟨rfl, ?_⟩
    repeat (first | exact Ext.refl _ | refine Ext.alloc ?_ _ | refine Ext.ext ?_ _ _ | refine Ext.drew ?_ | refine Ext.drewN ?_ _)

set_option maxRecDepth 100000 in
set_option maxHeartbeats 1000000 in
theorem Change_rol (a x y s p m : Int) (w : World) :
    Calls Try.prog 20 #[uv a x y s p, .int .u8 21, .int .u8 m] w fun e w' => e = .returned (.tuple #[uu (leftU ⟨a, x, y, s, p⟩ m (bits .and .u8 p 1)).1, .int .u8 (leftU ⟨a, x, y, s, p⟩ m (bits .and .u8 p 1)).2]) ∧ Ext w w' := by
  have hx : ∀ w, (Instr.index 61 changesV (.int .u8 2)).run Try.prog w = .ok (.func (.func 64) #[] #[]) w := fun _ => by kernel_rfl
  have hw : IntKind.u8.wrap 2 = 2 := rfl
  have F0 := changes_any
  have F1 := rol_any
  unfold uu uv at F1
  have F2 := kind_any
  have r1 := ext_cell
  have r2 := ext_frozen
  have r3 := ext_setCell
  have r4 := ext_lt
  have r5 := ext_drew
  have r6 := ext_ext
  unfold uu uv
  go_enter Try.func20, Try.ntmps20
  go_upto_region 3 with (go_at_call 26; refine (F2 _ _).mono ?_; rintro e w' ⟨rfl, rfl⟩; unfold kindU)
  go_region_held3 (fun v => w.heap.size < v.heap.size ∧ v.cell? ⟨w.heap.size, 0, none⟩ = some (.int .u8 a) ∧ v.cell? ⟨w.heap.size, 1, none⟩ = some (.int .u8 x) ∧ v.cell? ⟨w.heap.size, 2, none⟩ = some (.int .u8 y) ∧ v.cell? ⟨w.heap.size, 3, none⟩ = some (.int .u8 s) ∧ v.cell? ⟨w.heap.size, 4, none⟩ = some (.int .u8 p)) (first | assumption | exact bx_ext (by assumption) _ _ | (simp [go_sem]; done) | (refine bx_ext ?_ _ _; simp [go_sem]; done)) (first | (go_at_call 36; refine (F0 _).mono ?_; rintro e w' ⟨rfl, os, q, rfl⟩) | (go_at_call 64; refine (F1 _ _ _ _ _ _ _).mono ?_; rintro e w' ⟨rfl, os, q, rfl⟩))
  all_goals
    go_wp2
    refine bodyPost_ret (by simp [results, Try.results20, go_sem, *] <;> (repeat' (first | exact rfl | refine And.intro ?_ ?_))) rfl ⟨rfl, ?_⟩
    repeat (first | exact Ext.refl _ | refine Ext.alloc ?_ _ | refine Ext.ext ?_ _ _ | refine Ext.drew ?_ | refine Ext.drewN ?_ _)

set_option maxRecDepth 100000 in
set_option maxHeartbeats 1000000 in
theorem Change_ror (a x y s p m : Int) (w : World) :
    Calls Try.prog 20 #[uv a x y s p, .int .u8 22, .int .u8 m] w fun e w' => e = .returned (.tuple #[uu (rightU ⟨a, x, y, s, p⟩ m (bits .and .u8 p 1)).1, .int .u8 (rightU ⟨a, x, y, s, p⟩ m (bits .and .u8 p 1)).2]) ∧ Ext w w' := by
  have hx : ∀ w, (Instr.index 61 changesV (.int .u8 3)).run Try.prog w = .ok (.func (.func 65) #[] #[]) w := fun _ => by kernel_rfl
  have hw : IntKind.u8.wrap 3 = 3 := rfl
  have F0 := changes_any
  have F1 := ror_any
  unfold uu uv at F1
  have F2 := kind_any
  have r1 := ext_cell
  have r2 := ext_frozen
  have r3 := ext_setCell
  have r4 := ext_lt
  have r5 := ext_drew
  have r6 := ext_ext
  unfold uu uv
  go_enter Try.func20, Try.ntmps20
  go_upto_region 3 with (go_at_call 26; refine (F2 _ _).mono ?_; rintro e w' ⟨rfl, rfl⟩; unfold kindU)
  go_region_held3 (fun v => w.heap.size < v.heap.size ∧ v.cell? ⟨w.heap.size, 0, none⟩ = some (.int .u8 a) ∧ v.cell? ⟨w.heap.size, 1, none⟩ = some (.int .u8 x) ∧ v.cell? ⟨w.heap.size, 2, none⟩ = some (.int .u8 y) ∧ v.cell? ⟨w.heap.size, 3, none⟩ = some (.int .u8 s) ∧ v.cell? ⟨w.heap.size, 4, none⟩ = some (.int .u8 p)) (first | assumption | exact bx_ext (by assumption) _ _ | (simp [go_sem]; done) | (refine bx_ext ?_ _ _; simp [go_sem]; done)) (first | (go_at_call 36; refine (F0 _).mono ?_; rintro e w' ⟨rfl, os, q, rfl⟩) | (go_at_call 65; refine (F1 _ _ _ _ _ _ _).mono ?_; rintro e w' ⟨rfl, os, q, rfl⟩))
  all_goals
    go_wp2
    refine bodyPost_ret (by simp [results, Try.results20, go_sem, *] <;> (repeat' (first | exact rfl | refine And.intro ?_ ?_))) rfl ⟨rfl, ?_⟩
    repeat (first | exact Ext.refl _ | refine Ext.alloc ?_ _ | refine Ext.ext ?_ _ _ | refine Ext.drew ?_ | refine Ext.drewN ?_ _)

set_option maxRecDepth 100000 in
set_option maxHeartbeats 1000000 in
theorem Change_inc (a x y s p m : Int) (w : World) :
    Calls Try.prog 20 #[uv a x y s p, .int .u8 23, .int .u8 m] w fun e w' => e = .returned (.tuple #[uu (becU ⟨a, x, y, s, p⟩ (IntKind.u8.wrap (m + 1))).1, .int .u8 (becU ⟨a, x, y, s, p⟩ (IntKind.u8.wrap (m + 1))).2]) ∧ Ext w w' := by
  have hx : ∀ w, (Instr.index 61 changesV (.int .u8 4)).run Try.prog w = .ok (.func (.func 66) #[] #[]) w := fun _ => by kernel_rfl
  have hw : IntKind.u8.wrap 4 = 4 := rfl
  have F0 := changes_any
  have F1 := inc_any
  unfold uu uv at F1
  have F2 := kind_any
  have r1 := ext_cell
  have r2 := ext_frozen
  have r3 := ext_setCell
  have r4 := ext_lt
  have r5 := ext_drew
  have r6 := ext_ext
  unfold uu uv
  go_enter Try.func20, Try.ntmps20
  go_upto_region 3 with (go_at_call 26; refine (F2 _ _).mono ?_; rintro e w' ⟨rfl, rfl⟩; unfold kindU)
  go_region_held3 (fun v => w.heap.size < v.heap.size ∧ v.cell? ⟨w.heap.size, 0, none⟩ = some (.int .u8 a) ∧ v.cell? ⟨w.heap.size, 1, none⟩ = some (.int .u8 x) ∧ v.cell? ⟨w.heap.size, 2, none⟩ = some (.int .u8 y) ∧ v.cell? ⟨w.heap.size, 3, none⟩ = some (.int .u8 s) ∧ v.cell? ⟨w.heap.size, 4, none⟩ = some (.int .u8 p)) (first | assumption | exact bx_ext (by assumption) _ _ | (simp [go_sem]; done) | (refine bx_ext ?_ _ _; simp [go_sem]; done)) (first | (go_at_call 36; refine (F0 _).mono ?_; rintro e w' ⟨rfl, os, q, rfl⟩) | (go_at_call 66; refine (F1 _ _ _ _ _ _ _).mono ?_; rintro e w' ⟨rfl, os, q, rfl⟩))
  all_goals
    go_wp2
    refine bodyPost_ret (by simp [results, Try.results20, go_sem, *] <;> (repeat' (first | exact rfl | refine And.intro ?_ ?_))) rfl ⟨rfl, ?_⟩
    repeat (first | exact Ext.refl _ | refine Ext.alloc ?_ _ | refine Ext.ext ?_ _ _ | refine Ext.drew ?_ | refine Ext.drewN ?_ _)

set_option maxRecDepth 100000 in
set_option maxHeartbeats 1000000 in
theorem Change_dec (a x y s p m : Int) (w : World) :
    Calls Try.prog 20 #[uv a x y s p, .int .u8 24, .int .u8 m] w fun e w' => e = .returned (.tuple #[uu (becU ⟨a, x, y, s, p⟩ (IntKind.u8.wrap (m - 1))).1, .int .u8 (becU ⟨a, x, y, s, p⟩ (IntKind.u8.wrap (m - 1))).2]) ∧ Ext w w' := by
  have hx : ∀ w, (Instr.index 61 changesV (.int .u8 5)).run Try.prog w = .ok (.func (.func 67) #[] #[]) w := fun _ => by kernel_rfl
  have hw : IntKind.u8.wrap 5 = 5 := rfl
  have F0 := changes_any
  have F1 := dec_any
  unfold uu uv at F1
  have F2 := kind_any
  have r1 := ext_cell
  have r2 := ext_frozen
  have r3 := ext_setCell
  have r4 := ext_lt
  have r5 := ext_drew
  have r6 := ext_ext
  unfold uu uv
  go_enter Try.func20, Try.ntmps20
  go_upto_region 3 with (go_at_call 26; refine (F2 _ _).mono ?_; rintro e w' ⟨rfl, rfl⟩; unfold kindU)
  go_region_held3 (fun v => w.heap.size < v.heap.size ∧ v.cell? ⟨w.heap.size, 0, none⟩ = some (.int .u8 a) ∧ v.cell? ⟨w.heap.size, 1, none⟩ = some (.int .u8 x) ∧ v.cell? ⟨w.heap.size, 2, none⟩ = some (.int .u8 y) ∧ v.cell? ⟨w.heap.size, 3, none⟩ = some (.int .u8 s) ∧ v.cell? ⟨w.heap.size, 4, none⟩ = some (.int .u8 p)) (first | assumption | exact bx_ext (by assumption) _ _ | (simp [go_sem]; done) | (refine bx_ext ?_ _ _; simp [go_sem]; done)) (first | (go_at_call 36; refine (F0 _).mono ?_; rintro e w' ⟨rfl, os, q, rfl⟩) | (go_at_call 67; refine (F1 _ _ _ _ _ _ _).mono ?_; rintro e w' ⟨rfl, os, q, rfl⟩))
  all_goals
    go_wp2
    refine bodyPost_ret (by simp [results, Try.results20, go_sem, *] <;> (repeat' (first | exact rfl | refine And.intro ?_ ?_))) rfl ⟨rfl, ?_⟩
    repeat (first | exact Ext.refl _ | refine Ext.alloc ?_ _ | refine Ext.ext ?_ _ _ | refine Ext.drew ?_ | refine Ext.drewN ?_ _)

set_option maxRecDepth 100000 in
set_option maxHeartbeats 1000000 in
theorem Change_slo (a x y s p m : Int) (w : World) :
    Calls Try.prog 20 #[uv a x y s p, .int .u8 25, .int .u8 m] w fun e w' => e = .returned (.tuple #[uu (twoU (leftU ⟨a, x, y, s, p⟩ m 0) oraU).1, .int .u8 (twoU (leftU ⟨a, x, y, s, p⟩ m 0) oraU).2]) ∧ Ext w w' := by
  have hx : ∀ w, (Instr.index 61 changesV (.int .u8 6)).run Try.prog w = .ok (.func (.func 68) #[] #[]) w := fun _ => by kernel_rfl
  have hw : IntKind.u8.wrap 6 = 6 := rfl
  have F0 := changes_any
  have F1 := slo_any
  unfold uu uv at F1
  have F2 := kind_any
  have r1 := ext_cell
  have r2 := ext_frozen
  have r3 := ext_setCell
  have r4 := ext_lt
  have r5 := ext_drew
  have r6 := ext_ext
  unfold uu uv
  go_enter Try.func20, Try.ntmps20
  go_upto_region 3 with (go_at_call 26; refine (F2 _ _).mono ?_; rintro e w' ⟨rfl, rfl⟩; unfold kindU)
  go_region_held3 (fun v => w.heap.size < v.heap.size ∧ v.cell? ⟨w.heap.size, 0, none⟩ = some (.int .u8 a) ∧ v.cell? ⟨w.heap.size, 1, none⟩ = some (.int .u8 x) ∧ v.cell? ⟨w.heap.size, 2, none⟩ = some (.int .u8 y) ∧ v.cell? ⟨w.heap.size, 3, none⟩ = some (.int .u8 s) ∧ v.cell? ⟨w.heap.size, 4, none⟩ = some (.int .u8 p)) (first | assumption | exact bx_ext (by assumption) _ _ | (simp [go_sem]; done) | (refine bx_ext ?_ _ _; simp [go_sem]; done)) (first | (go_at_call 36; refine (F0 _).mono ?_; rintro e w' ⟨rfl, os, q, rfl⟩) | (go_at_call 68; refine (F1 _ _ _ _ _ _ _).mono ?_; rintro e w' ⟨rfl, os, q, rfl⟩))
  all_goals
    go_wp2
    refine bodyPost_ret (by simp [results, Try.results20, go_sem, *] <;> (repeat' (first | exact rfl | refine And.intro ?_ ?_))) rfl ⟨rfl, ?_⟩
    repeat (first | exact Ext.refl _ | refine Ext.alloc ?_ _ | refine Ext.ext ?_ _ _ | refine Ext.drew ?_ | refine Ext.drewN ?_ _)

set_option maxRecDepth 100000 in
set_option maxHeartbeats 1000000 in
theorem Change_rla (a x y s p m : Int) (w : World) :
    Calls Try.prog 20 #[uv a x y s p, .int .u8 26, .int .u8 m] w fun e w' => e = .returned (.tuple #[uu (twoU (leftU ⟨a, x, y, s, p⟩ m (bits .and .u8 p 1)) andU).1, .int .u8 (twoU (leftU ⟨a, x, y, s, p⟩ m (bits .and .u8 p 1)) andU).2]) ∧ Ext w w' := by
  have hx : ∀ w, (Instr.index 61 changesV (.int .u8 7)).run Try.prog w = .ok (.func (.func 69) #[] #[]) w := fun _ => by kernel_rfl
  have hw : IntKind.u8.wrap 7 = 7 := rfl
  have F0 := changes_any
  have F1 := rla_any
  unfold uu uv at F1
  have F2 := kind_any
  have r1 := ext_cell
  have r2 := ext_frozen
  have r3 := ext_setCell
  have r4 := ext_lt
  have r5 := ext_drew
  have r6 := ext_ext
  unfold uu uv
  go_enter Try.func20, Try.ntmps20
  go_upto_region 3 with (go_at_call 26; refine (F2 _ _).mono ?_; rintro e w' ⟨rfl, rfl⟩; unfold kindU)
  go_region_held3 (fun v => w.heap.size < v.heap.size ∧ v.cell? ⟨w.heap.size, 0, none⟩ = some (.int .u8 a) ∧ v.cell? ⟨w.heap.size, 1, none⟩ = some (.int .u8 x) ∧ v.cell? ⟨w.heap.size, 2, none⟩ = some (.int .u8 y) ∧ v.cell? ⟨w.heap.size, 3, none⟩ = some (.int .u8 s) ∧ v.cell? ⟨w.heap.size, 4, none⟩ = some (.int .u8 p)) (first | assumption | exact bx_ext (by assumption) _ _ | (simp [go_sem]; done) | (refine bx_ext ?_ _ _; simp [go_sem]; done)) (first | (go_at_call 36; refine (F0 _).mono ?_; rintro e w' ⟨rfl, os, q, rfl⟩) | (go_at_call 69; refine (F1 _ _ _ _ _ _ _).mono ?_; rintro e w' ⟨rfl, os, q, rfl⟩))
  all_goals
    go_wp2
    refine bodyPost_ret (by simp [results, Try.results20, go_sem, *] <;> (repeat' (first | exact rfl | refine And.intro ?_ ?_))) rfl ⟨rfl, ?_⟩
    repeat (first | exact Ext.refl _ | refine Ext.alloc ?_ _ | refine Ext.ext ?_ _ _ | refine Ext.drew ?_ | refine Ext.drewN ?_ _)

set_option maxRecDepth 100000 in
set_option maxHeartbeats 1000000 in
theorem Change_sre (a x y s p m : Int) (w : World) :
    Calls Try.prog 20 #[uv a x y s p, .int .u8 27, .int .u8 m] w fun e w' => e = .returned (.tuple #[uu (twoU (rightU ⟨a, x, y, s, p⟩ m 0) eorU).1, .int .u8 (twoU (rightU ⟨a, x, y, s, p⟩ m 0) eorU).2]) ∧ Ext w w' := by
  have hx : ∀ w, (Instr.index 61 changesV (.int .u8 8)).run Try.prog w = .ok (.func (.func 70) #[] #[]) w := fun _ => by kernel_rfl
  have hw : IntKind.u8.wrap 8 = 8 := rfl
  have F0 := changes_any
  have F1 := sre_any
  unfold uu uv at F1
  have F2 := kind_any
  have r1 := ext_cell
  have r2 := ext_frozen
  have r3 := ext_setCell
  have r4 := ext_lt
  have r5 := ext_drew
  have r6 := ext_ext
  unfold uu uv
  go_enter Try.func20, Try.ntmps20
  go_upto_region 3 with (go_at_call 26; refine (F2 _ _).mono ?_; rintro e w' ⟨rfl, rfl⟩; unfold kindU)
  go_region_held3 (fun v => w.heap.size < v.heap.size ∧ v.cell? ⟨w.heap.size, 0, none⟩ = some (.int .u8 a) ∧ v.cell? ⟨w.heap.size, 1, none⟩ = some (.int .u8 x) ∧ v.cell? ⟨w.heap.size, 2, none⟩ = some (.int .u8 y) ∧ v.cell? ⟨w.heap.size, 3, none⟩ = some (.int .u8 s) ∧ v.cell? ⟨w.heap.size, 4, none⟩ = some (.int .u8 p)) (first | assumption | exact bx_ext (by assumption) _ _ | (simp [go_sem]; done) | (refine bx_ext ?_ _ _; simp [go_sem]; done)) (first | (go_at_call 36; refine (F0 _).mono ?_; rintro e w' ⟨rfl, os, q, rfl⟩) | (go_at_call 70; refine (F1 _ _ _ _ _ _ _).mono ?_; rintro e w' ⟨rfl, os, q, rfl⟩))
  all_goals
    go_wp2
    refine bodyPost_ret (by simp [results, Try.results20, go_sem, *] <;> (repeat' (first | exact rfl | refine And.intro ?_ ?_))) rfl ⟨rfl, ?_⟩
    repeat (first | exact Ext.refl _ | refine Ext.alloc ?_ _ | refine Ext.ext ?_ _ _ | refine Ext.drew ?_ | refine Ext.drewN ?_ _)

set_option maxRecDepth 100000 in
set_option maxHeartbeats 1000000 in
theorem Change_rra (a x y s p m : Int) (ha : 0 ≤ a) (ha2 : a < 256) (w : World) :
    Calls Try.prog 20 #[uv a x y s p, .int .u8 28, .int .u8 m] w fun e w' => e = .returned (.tuple #[uu (twoU (rightU ⟨a, x, y, s, p⟩ m (bits .and .u8 p 1)) adcU).1, .int .u8 (twoU (rightU ⟨a, x, y, s, p⟩ m (bits .and .u8 p 1)) adcU).2]) ∧ Ext w w' := by
  have hx : ∀ w, (Instr.index 61 changesV (.int .u8 9)).run Try.prog w = .ok (.func (.func 71) #[] #[]) w := fun _ => by kernel_rfl
  have hw : IntKind.u8.wrap 9 = 9 := rfl
  have F0 := changes_any
  have F1 := rra_any
  unfold uu uv at F1
  have F2 := kind_any
  have r1 := ext_cell
  have r2 := ext_frozen
  have r3 := ext_setCell
  have r4 := ext_lt
  have r5 := ext_drew
  have r6 := ext_ext
  unfold uu uv
  go_enter Try.func20, Try.ntmps20
  go_upto_region 3 with (go_at_call 26; refine (F2 _ _).mono ?_; rintro e w' ⟨rfl, rfl⟩; unfold kindU)
  go_region_held3 (fun v => w.heap.size < v.heap.size ∧ v.cell? ⟨w.heap.size, 0, none⟩ = some (.int .u8 a) ∧ v.cell? ⟨w.heap.size, 1, none⟩ = some (.int .u8 x) ∧ v.cell? ⟨w.heap.size, 2, none⟩ = some (.int .u8 y) ∧ v.cell? ⟨w.heap.size, 3, none⟩ = some (.int .u8 s) ∧ v.cell? ⟨w.heap.size, 4, none⟩ = some (.int .u8 p)) (first | assumption | exact bx_ext (by assumption) _ _ | (simp [go_sem]; done) | (refine bx_ext ?_ _ _; simp [go_sem]; done)) (first | (go_at_call 36; refine (F0 _).mono ?_; rintro e w' ⟨rfl, os, q, rfl⟩) | (go_at_call 71; refine (F1 _ _ _ _ _ _ (by assumption) (by assumption) _).mono ?_; rintro e w' ⟨rfl, os, q, rfl⟩))
  all_goals
    go_wp2
    refine bodyPost_ret (by simp [results, Try.results20, go_sem, *] <;> (repeat' (first | exact rfl | refine And.intro ?_ ?_))) rfl ⟨rfl, ?_⟩
    repeat (first | exact Ext.refl _ | refine Ext.alloc ?_ _ | refine Ext.ext ?_ _ _ | refine Ext.drew ?_ | refine Ext.drewN ?_ _)

set_option maxRecDepth 100000 in
set_option maxHeartbeats 1000000 in
theorem Change_dcp (a x y s p m : Int) (w : World) :
    Calls Try.prog 20 #[uv a x y s p, .int .u8 29, .int .u8 m] w fun e w' => e = .returned (.tuple #[uu (twoU (becU ⟨a, x, y, s, p⟩ (IntKind.u8.wrap (m - 1))) (fun u m => cmpU u u.a m)).1, .int .u8 (twoU (becU ⟨a, x, y, s, p⟩ (IntKind.u8.wrap (m - 1))) (fun u m => cmpU u u.a m)).2]) ∧ Ext w w' := by
  have hx : ∀ w, (Instr.index 61 changesV (.int .u8 10)).run Try.prog w = .ok (.func (.func 72) #[] #[]) w := fun _ => by kernel_rfl
  have hw : IntKind.u8.wrap 10 = 10 := rfl
  have F0 := changes_any
  have F1 := dcp_any
  unfold uu uv at F1
  have F2 := kind_any
  have r1 := ext_cell
  have r2 := ext_frozen
  have r3 := ext_setCell
  have r4 := ext_lt
  have r5 := ext_drew
  have r6 := ext_ext
  unfold uu uv
  go_enter Try.func20, Try.ntmps20
  go_upto_region 3 with (go_at_call 26; refine (F2 _ _).mono ?_; rintro e w' ⟨rfl, rfl⟩; unfold kindU)
  go_region_held3 (fun v => w.heap.size < v.heap.size ∧ v.cell? ⟨w.heap.size, 0, none⟩ = some (.int .u8 a) ∧ v.cell? ⟨w.heap.size, 1, none⟩ = some (.int .u8 x) ∧ v.cell? ⟨w.heap.size, 2, none⟩ = some (.int .u8 y) ∧ v.cell? ⟨w.heap.size, 3, none⟩ = some (.int .u8 s) ∧ v.cell? ⟨w.heap.size, 4, none⟩ = some (.int .u8 p)) (first | assumption | exact bx_ext (by assumption) _ _ | (simp [go_sem]; done) | (refine bx_ext ?_ _ _; simp [go_sem]; done)) (first | (go_at_call 36; refine (F0 _).mono ?_; rintro e w' ⟨rfl, os, q, rfl⟩) | (go_at_call 72; refine (F1 _ _ _ _ _ _ _).mono ?_; rintro e w' ⟨rfl, os, q, rfl⟩))
  all_goals
    go_wp2
    refine bodyPost_ret (by simp [results, Try.results20, go_sem, *] <;> (repeat' (first | exact rfl | refine And.intro ?_ ?_))) rfl ⟨rfl, ?_⟩
    repeat (first | exact Ext.refl _ | refine Ext.alloc ?_ _ | refine Ext.ext ?_ _ _ | refine Ext.drew ?_ | refine Ext.drewN ?_ _)

set_option maxRecDepth 100000 in
set_option maxHeartbeats 1000000 in
theorem Change_isc (a x y s p m : Int) (ha : 0 ≤ a) (ha2 : a < 256) (w : World) :
    Calls Try.prog 20 #[uv a x y s p, .int .u8 30, .int .u8 m] w fun e w' => e = .returned (.tuple #[uu (twoU (becU ⟨a, x, y, s, p⟩ (IntKind.u8.wrap (m + 1))) (fun u m => adcU u (notB m))).1, .int .u8 (twoU (becU ⟨a, x, y, s, p⟩ (IntKind.u8.wrap (m + 1))) (fun u m => adcU u (notB m))).2]) ∧ Ext w w' := by
  have hx : ∀ w, (Instr.index 61 changesV (.int .u8 11)).run Try.prog w = .ok (.func (.func 73) #[] #[]) w := fun _ => by kernel_rfl
  have hw : IntKind.u8.wrap 11 = 11 := rfl
  have F0 := changes_any
  have F1 := isc_any
  unfold uu uv at F1
  have F2 := kind_any
  have r1 := ext_cell
  have r2 := ext_frozen
  have r3 := ext_setCell
  have r4 := ext_lt
  have r5 := ext_drew
  have r6 := ext_ext
  unfold uu uv
  go_enter Try.func20, Try.ntmps20
  go_upto_region 3 with (go_at_call 26; refine (F2 _ _).mono ?_; rintro e w' ⟨rfl, rfl⟩; unfold kindU)
  go_region_held3 (fun v => w.heap.size < v.heap.size ∧ v.cell? ⟨w.heap.size, 0, none⟩ = some (.int .u8 a) ∧ v.cell? ⟨w.heap.size, 1, none⟩ = some (.int .u8 x) ∧ v.cell? ⟨w.heap.size, 2, none⟩ = some (.int .u8 y) ∧ v.cell? ⟨w.heap.size, 3, none⟩ = some (.int .u8 s) ∧ v.cell? ⟨w.heap.size, 4, none⟩ = some (.int .u8 p)) (first | assumption | exact bx_ext (by assumption) _ _ | (simp [go_sem]; done) | (refine bx_ext ?_ _ _; simp [go_sem]; done)) (first | (go_at_call 36; refine (F0 _).mono ?_; rintro e w' ⟨rfl, os, q, rfl⟩) | (go_at_call 73; refine (F1 _ _ _ _ _ _ (by assumption) (by assumption) _).mono ?_; rintro e w' ⟨rfl, os, q, rfl⟩))
  all_goals
    go_wp2
    refine bodyPost_ret (by simp [results, Try.results20, go_sem, *] <;> (repeat' (first | exact rfl | refine And.intro ?_ ?_))) rfl ⟨rfl, ?_⟩
    repeat (first | exact Ext.refl _ | refine Ext.alloc ?_ _ | refine Ext.ext ?_ _ _ | refine Ext.drew ?_ | refine Ext.drewN ?_ _)

end Go.Proofs.Ytigpmmjbdpnkjaa
