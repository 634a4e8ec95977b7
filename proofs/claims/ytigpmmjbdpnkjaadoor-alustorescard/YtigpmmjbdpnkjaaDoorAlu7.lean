/- Contracts of package alu: Read. No law is claimed here. -/
import Derived.Test.YtigpmmjbdpnkjaaDoorAlu5
import Derived.Test.YtigpmmjbdpnkjaaDoorAlu6
namespace Go.Proofs.YtigpmmjbdpnkjaaDoor
open Go.RowKit

set_option maxRecDepth 100000 in
set_option maxHeartbeats 1000000 in
theorem Read_nop (a x y s p m : Int) (w : World) :
    Calls Tryd.prog 11 #[uv a x y s p, .int .u8 0, .int .u8 m] w fun e w' => e = .returned (uu (⟨a, x, y, s, p⟩)) ∧ Ext w w' := by
  have hx : ∀ w, (Instr.index 41 readsV (.int .u8 0)).run Tryd.prog w = .ok (.func (.func 17) #[] #[]) w := fun _ => by kernel_rfl
  have hw : IntKind.u8.wrap 0 = 0 := rfl
  have F0 := reads_any
  have F1 := nop_any
  unfold uu uv at F1
  have F2 := kind_any
  have r1 := ext_cell
  have r2 := ext_frozen
  have r3 := ext_setCell
  have r4 := ext_lt
  have r5 := ext_drew
  have r6 := ext_ext
  unfold uu uv
  go_enter Tryd.func11, Tryd.ntmps11
  go_upto_region 3 with (go_at_call 14; refine (F2 _ _).mono ?_; rintro e w' ⟨rfl, rfl⟩; unfold kindU)
  go_region_held3 (fun v => w.heap.size < v.heap.size ∧ v.cell? ⟨w.heap.size, 0, none⟩ = some (.int .u8 a) ∧ v.cell? ⟨w.heap.size, 1, none⟩ = some (.int .u8 x) ∧ v.cell? ⟨w.heap.size, 2, none⟩ = some (.int .u8 y) ∧ v.cell? ⟨w.heap.size, 3, none⟩ = some (.int .u8 s) ∧ v.cell? ⟨w.heap.size, 4, none⟩ = some (.int .u8 p)) (first | assumption | exact bx_ext (by assumption) _ _ | (simp [go_sem]; done) | (refine bx_ext ?_ _ _; simp [go_sem]; done)) (first | (go_at_call 16; refine (F0 _).mono ?_; rintro e w' ⟨rfl, os, q, rfl⟩) | (go_at_call 17; refine (F1 _ _ _ _ _ _ _).mono ?_; rintro e w' ⟨rfl, os, q, rfl⟩))
  all_goals
    go_wp2
    refine bodyPost_ret (by simp [results, Tryd.results11, go_sem, *] <;> (repeat' (first | exact rfl | refine And.intro ?_ ?_))) rfl ⟨rfl, ?_⟩
    repeat (first | exact Ext.refl _ | refine Ext.alloc ?_ _ | refine Ext.ext ?_ _ _ | refine Ext.drew ?_ | refine Ext.drewN ?_ _)

set_option maxRecDepth 100000 in
set_option maxHeartbeats 1000000 in
theorem Read_ora (a x y s p m : Int) (w : World) :
    Calls Tryd.prog 11 #[uv a x y s p, .int .u8 1, .int .u8 m] w fun e w' => e = .returned (uu (oraU ⟨a, x, y, s, p⟩ m)) ∧ Ext w w' := by
  have hx : ∀ w, (Instr.index 41 readsV (.int .u8 1)).run Tryd.prog w = .ok (.func (.func 18) #[] #[]) w := fun _ => by kernel_rfl
  have hw : IntKind.u8.wrap 1 = 1 := rfl
  have F0 := reads_any
  have F1 := ora_any
  unfold uu uv at F1
  have F2 := kind_any
  have r1 := ext_cell
  have r2 := ext_frozen
  have r3 := ext_setCell
  have r4 := ext_lt
  have r5 := ext_drew
  have r6 := ext_ext
  unfold uu uv
  go_enter Tryd.func11, Tryd.ntmps11
  go_upto_region 3 with (go_at_call 14; refine (F2 _ _).mono ?_; rintro e w' ⟨rfl, rfl⟩; unfold kindU)
  go_region_held3 (fun v => w.heap.size < v.heap.size ∧ v.cell? ⟨w.heap.size, 0, none⟩ = some (.int .u8 a) ∧ v.cell? ⟨w.heap.size, 1, none⟩ = some (.int .u8 x) ∧ v.cell? ⟨w.heap.size, 2, none⟩ = some (.int .u8 y) ∧ v.cell? ⟨w.heap.size, 3, none⟩ = some (.int .u8 s) ∧ v.cell? ⟨w.heap.size, 4, none⟩ = some (.int .u8 p)) (first | assumption | exact bx_ext (by assumption) _ _ | (simp [go_sem]; done) | (refine bx_ext ?_ _ _; simp [go_sem]; done)) (first | (go_at_call 16; refine (F0 _).mono ?_; rintro e w' ⟨rfl, os, q, rfl⟩) | (go_at_call 18; refine (F1 _ _ _ _ _ _ _).mono ?_; rintro e w' ⟨rfl, os, q, rfl⟩))
  all_goals
    go_wp2
    refine bodyPost_ret (by simp [results, Tryd.results11, go_sem, *] <;> (repeat' (first | exact rfl | refine And.intro ?_ ?_))) rfl ⟨rfl, ?_⟩
    repeat (first | exact Ext.refl _ | refine Ext.alloc ?_ _ | refine Ext.ext ?_ _ _ | refine Ext.drew ?_ | refine Ext.drewN ?_ _)

set_option maxRecDepth 100000 in
set_option maxHeartbeats 1000000 in
theorem Read_and (a x y s p m : Int) (w : World) :
    Calls Tryd.prog 11 #[uv a x y s p, .int .u8 2, .int .u8 m] w fun e w' => e = .returned (uu (andU ⟨a, x, y, s, p⟩ m)) ∧ Ext w w' := by
  have hx : ∀ w, (Instr.index 41 readsV (.int .u8 2)).run Tryd.prog w = .ok (.func (.func 19) #[] #[]) w := fun _ => by kernel_rfl
  have hw : IntKind.u8.wrap 2 = 2 := rfl
  have F0 := reads_any
  have F1 := and_any
  unfold uu uv at F1
  have F2 := kind_any
  have r1 := ext_cell
  have r2 := ext_frozen
  have r3 := ext_setCell
  have r4 := ext_lt
  have r5 := ext_drew
  have r6 := ext_ext
  unfold uu uv
  go_enter Tryd.func11, Tryd.ntmps11
  go_upto_region 3 with (go_at_call 14; refine (F2 _ _).mono ?_; rintro e w' ⟨rfl, rfl⟩; unfold kindU)
  go_region_held3 (fun v => w.heap.size < v.heap.size ∧ v.cell? ⟨w.heap.size, 0, none⟩ = some (.int .u8 a) ∧ v.cell? ⟨w.heap.size, 1, none⟩ = some (.int .u8 x) ∧ v.cell? ⟨w.heap.size, 2, none⟩ = some (.int .u8 y) ∧ v.cell? ⟨w.heap.size, 3, none⟩ = some (.int .u8 s) ∧ v.cell? ⟨w.heap.size, 4, none⟩ = some (.int .u8 p)) (first | assumption | exact bx_ext (by assumption) _ _ | (simp [go_sem]; done) | (refine bx_ext ?_ _ _; simp [go_sem]; done)) (first | (go_at_call 16; refine (F0 _).mono ?_; rintro e w' ⟨rfl, os, q, rfl⟩) | (go_at_call 19; refine (F1 _ _ _ _ _ _ _).mono ?_; rintro e w' ⟨rfl, os, q, rfl⟩))
  all_goals
    go_wp2
    refine bodyPost_ret (by simp [results, Tryd.results11, go_sem, *] <;> (repeat' (first | exact rfl | refine And.intro ?_ ?_))) rfl ⟨rfl, ?_⟩
    repeat (first | exact Ext.refl _ | refine Ext.alloc ?_ _ | refine Ext.ext ?_ _ _ | refine Ext.drew ?_ | refine Ext.drewN ?_ _)

set_option maxRecDepth 100000 in
set_option maxHeartbeats 1000000 in
theorem Read_eor (a x y s p m : Int) (w : World) :
    Calls Tryd.prog 11 #[uv a x y s p, .int .u8 3, .int .u8 m] w fun e w' => e = .returned (uu (eorU ⟨a, x, y, s, p⟩ m)) ∧ Ext w w' := by
  have hx : ∀ w, (Instr.index 41 readsV (.int .u8 3)).run Tryd.prog w = .ok (.func (.func 20) #[] #[]) w := fun _ => by kernel_rfl
  have hw : IntKind.u8.wrap 3 = 3 := rfl
  have F0 := reads_any
  have F1 := eor_any
  unfold uu uv at F1
  have F2 := kind_any
  have r1 := ext_cell
  have r2 := ext_frozen
  have r3 := ext_setCell
  have r4 := ext_lt
  have r5 := ext_drew
  have r6 := ext_ext
  unfold uu uv
  go_enter Tryd.func11, Tryd.ntmps11
  go_upto_region 3 with (go_at_call 14; refine (F2 _ _).mono ?_; rintro e w' ⟨rfl, rfl⟩; unfold kindU)
  go_region_held3 (fun v => w.heap.size < v.heap.size ∧ v.cell? ⟨w.heap.size, 0, none⟩ = some (.int .u8 a) ∧ v.cell? ⟨w.heap.size, 1, none⟩ = some (.int .u8 x) ∧ v.cell? ⟨w.heap.size, 2, none⟩ = some (.int .u8 y) ∧ v.cell? ⟨w.heap.size, 3, none⟩ = some (.int .u8 s) ∧ v.cell? ⟨w.heap.size, 4, none⟩ = some (.int .u8 p)) (first | assumption | exact bx_ext (by assumption) _ _ | (simp [go_sem]; done) | (refine bx_ext ?_ _ _; simp [go_sem]; done)) (first | (go_at_call 16; refine (F0 _).mono ?_; rintro e w' ⟨rfl, os, q, rfl⟩) | (go_at_call 20; refine (F1 _ _ _ _ _ _ _).mono ?_; rintro e w' ⟨rfl, os, q, rfl⟩))
  all_goals
    go_wp2
    refine bodyPost_ret (by simp [results, Tryd.results11, go_sem, *] <;> (repeat' (first | exact rfl | refine And.intro ?_ ?_))) rfl ⟨rfl, ?_⟩
    repeat (first | exact Ext.refl _ | refine Ext.alloc ?_ _ | refine Ext.ext ?_ _ _ | refine Ext.drew ?_ | refine Ext.drewN ?_ _)

set_option maxRecDepth 100000 in
set_option maxHeartbeats 1000000 in
theorem Read_adc (a x y s p m : Int) (ha : 0 ≤ a) (ha2 : a < 256) (hm : 0 ≤ m) (hm2 : m < 256) (w : World) :
    Calls Tryd.prog 11 #[uv a x y s p, .int .u8 4, .int .u8 m] w fun e w' => e = .returned (uu (adcU ⟨a, x, y, s, p⟩ m)) ∧ Ext w w' := by
  have hx : ∀ w, (Instr.index 41 readsV (.int .u8 4)).run Tryd.prog w = .ok (.func (.func 21) #[] #[]) w := fun _ => by kernel_rfl
  have hw : IntKind.u8.wrap 4 = 4 := rfl
  have F0 := reads_any
  have F1 := adc_any
  unfold uu uv at F1
  have F2 := kind_any
  have r1 := ext_cell
  have r2 := ext_frozen
  have r3 := ext_setCell
  have r4 := ext_lt
  have r5 := ext_drew
  have r6 := ext_ext
  unfold uu uv
  go_enter Tryd.func11, Tryd.ntmps11
  go_upto_region 3 with (go_at_call 14; refine (F2 _ _).mono ?_; rintro e w' ⟨rfl, rfl⟩; unfold kindU)
  go_region_held3 (fun v => w.heap.size < v.heap.size ∧ v.cell? ⟨w.heap.size, 0, none⟩ = some (.int .u8 a) ∧ v.cell? ⟨w.heap.size, 1, none⟩ = some (.int .u8 x) ∧ v.cell? ⟨w.heap.size, 2, none⟩ = some (.int .u8 y) ∧ v.cell? ⟨w.heap.size, 3, none⟩ = some (.int .u8 s) ∧ v.cell? ⟨w.heap.size, 4, none⟩ = some (.int .u8 p)) (first | assumption | exact bx_ext (by assumption) _ _ | (simp [go_sem]; done) | (refine bx_ext ?_ _ _; simp [go_sem]; done)) (first | (go_at_call 16; refine (F0 _).mono ?_; rintro e w' ⟨rfl, os, q, rfl⟩) | (go_at_call 21; refine (F1 _ _ _ _ _ _ (by assumption) (by assumption) (by assumption) (by assumption) _).mono ?_; rintro e w' ⟨rfl, os, q, rfl⟩))
  all_goals
    go_wp2
    refine bodyPost_ret (by simp [results, Tryd.results11, go_sem, *] <;> (repeat' (first | exact rfl | refine And.intro ?_ ?_))) rfl ⟨rfl, ?_⟩
    repeat (first | exact Ext.refl _ | refine Ext.alloc ?_ _ | refine Ext.ext ?_ _ _ | refine Ext.drew ?_ | refine Ext.drewN ?_ _)

set_option maxRecDepth 100000 in
set_option maxHeartbeats 1000000 in
theorem Read_sbc (a x y s p m : Int) (ha : 0 ≤ a) (ha2 : a < 256) (w : World) :
    Calls Tryd.prog 11 #[uv a x y s p, .int .u8 5, .int .u8 m] w fun e w' => e = .returned (uu (adcU ⟨a, x, y, s, p⟩ (notB m))) ∧ Ext w w' := by
  have hx : ∀ w, (Instr.index 41 readsV (.int .u8 5)).run Tryd.prog w = .ok (.func (.func 22) #[] #[]) w := fun _ => by kernel_rfl
  have hw : IntKind.u8.wrap 5 = 5 := rfl
  have F0 := reads_any
  have F1 := sbc_any
  unfold uu uv at F1
  have F2 := kind_any
  have r1 := ext_cell
  have r2 := ext_frozen
  have r3 := ext_setCell
  have r4 := ext_lt
  have r5 := ext_drew
  have r6 := ext_ext
  unfold uu uv
  go_enter Tryd.func11, Tryd.ntmps11
  go_upto_region 3 with (go_at_call 14; refine (F2 _ _).mono ?_; rintro e w' ⟨rfl, rfl⟩; unfold kindU)
  go_region_held3 (fun v => w.heap.size < v.heap.size ∧ v.cell? ⟨w.heap.size, 0, none⟩ = some (.int .u8 a) ∧ v.cell? ⟨w.heap.size, 1, none⟩ = some (.int .u8 x) ∧ v.cell? ⟨w.heap.size, 2, none⟩ = some (.int .u8 y) ∧ v.cell? ⟨w.heap.size, 3, none⟩ = some (.int .u8 s) ∧ v.cell? ⟨w.heap.size, 4, none⟩ = some (.int .u8 p)) (first | assumption | exact bx_ext (by assumption) _ _ | (simp [go_sem]; done) | (refine bx_ext ?_ _ _; simp [go_sem]; done)) (first | (go_at_call 16; refine (F0 _).mono ?_; rintro e w' ⟨rfl, os, q, rfl⟩) | (go_at_call 22; refine (F1 _ _ _ _ _ _ (by assumption) (by assumption) _).mono ?_; rintro e w' ⟨rfl, os, q, rfl⟩))
  all_goals
    go_wp2
    refine bodyPost_ret (by simp [results, Tryd.results11, go_sem, *] <;> (repeat' (first | exact rfl | refine And.intro ?_ ?_))) rfl ⟨rfl, ?_⟩
    repeat (first | exact Ext.refl _ | refine Ext.alloc ?_ _ | refine Ext.ext ?_ _ _ | refine Ext.drew ?_ | refine Ext.drewN ?_ _)

set_option maxRecDepth 100000 in
set_option maxHeartbeats 1000000 in
theorem Read_cmp (a x y s p m : Int) (w : World) :
    Calls Tryd.prog 11 #[uv a x y s p, .int .u8 6, .int .u8 m] w fun e w' => e = .returned (uu (cmpU ⟨a, x, y, s, p⟩ a m)) ∧ Ext w w' := by
  have hx : ∀ w, (Instr.index 41 readsV (.int .u8 6)).run Tryd.prog w = .ok (.func (.func 23) #[] #[]) w := fun _ => by kernel_rfl
  have hw : IntKind.u8.wrap 6 = 6 := rfl
  have F0 := reads_any
  have F1 := cmp_any
  unfold uu uv at F1
  have F2 := kind_any
  have r1 := ext_cell
  have r2 := ext_frozen
  have r3 := ext_setCell
  have r4 := ext_lt
  have r5 := ext_drew
  have r6 := ext_ext
  unfold uu uv
  go_enter Tryd.func11, Tryd.ntmps11
  go_upto_region 3 with (go_at_call 14; refine (F2 _ _).mono ?_; rintro e w' ⟨rfl, rfl⟩; unfold kindU)
  go_region_held3 (fun v => w.heap.size < v.heap.size ∧ v.cell? ⟨w.heap.size, 0, none⟩ = some (.int .u8 a) ∧ v.cell? ⟨w.heap.size, 1, none⟩ = some (.int .u8 x) ∧ v.cell? ⟨w.heap.size, 2, none⟩ = some (.int .u8 y) ∧ v.cell? ⟨w.heap.size, 3, none⟩ = some (.int .u8 s) ∧ v.cell? ⟨w.heap.size, 4, none⟩ = some (.int .u8 p)) (first | assumption | exact bx_ext (by assumption) _ _ | (simp [go_sem]; done) | (refine bx_ext ?_ _ _; simp [go_sem]; done)) (first | (go_at_call 16; refine (F0 _).mono ?_; rintro e w' ⟨rfl, os, q, rfl⟩) | (go_at_call 23; refine (F1 _ _ _ _ _ _ _).mono ?_; rintro e w' ⟨rfl, os, q, rfl⟩))
  all_goals
    go_wp2
    refine bodyPost_ret (by simp [results, Tryd.results11, go_sem, *] <;> (repeat' (first | exact rfl | refine And.intro ?_ ?_))) rfl ⟨rfl, ?_⟩
    repeat (first | exact Ext.refl _ | refine Ext.alloc ?_ _ | refine Ext.ext ?_ _ _ | refine Ext.drew ?_ | refine Ext.drewN ?_ _)

set_option maxRecDepth 100000 in
set_option maxHeartbeats 1000000 in
theorem Read_cpx (a x y s p m : Int) (w : World) :
    Calls Tryd.prog 11 #[uv a x y s p, .int .u8 7, .int .u8 m] w fun e w' => e = .returned (uu (cmpU ⟨a, x, y, s, p⟩ x m)) ∧ Ext w w' := by
  have hx : ∀ w, (Instr.index 41 readsV (.int .u8 7)).run Tryd.prog w = .ok (.func (.func 24) #[] #[]) w := fun _ => by kernel_rfl
  have hw : IntKind.u8.wrap 7 = 7 := rfl
  have F0 := reads_any
  have F1 := cpx_any
  unfold uu uv at F1
  have F2 := kind_any
  have r1 := ext_cell
  have r2 := ext_frozen
  have r3 := ext_setCell
  have r4 := ext_lt
  have r5 := ext_drew
  have r6 := ext_ext
  unfold uu uv
  go_enter Tryd.func11, Tryd.ntmps11
  go_upto_region 3 with (go_at_call 14; refine (F2 _ _).mono ?_; rintro e w' ⟨rfl, rfl⟩; unfold kindU)
  go_region_held3 (fun v => w.heap.size < v.heap.size ∧ v.cell? ⟨w.heap.size, 0, none⟩ = some (.int .u8 a) ∧ v.cell? ⟨w.heap.size, 1, none⟩ = some (.int .u8 x) ∧ v.cell? ⟨w.heap.size, 2, none⟩ = some (.int .u8 y) ∧ v.cell? ⟨w.heap.size, 3, none⟩ = some (.int .u8 s) ∧ v.cell? ⟨w.heap.size, 4, none⟩ = some (.int .u8 p)) (first | assumption | exact bx_ext (by assumption) _ _ | (simp [go_sem]; done) | (refine bx_ext ?_ _ _; simp [go_sem]; done)) (first | (go_at_call 16; refine (F0 _).mono ?_; rintro e w' ⟨rfl, os, q, rfl⟩) | (go_at_call 24; refine (F1 _ _ _ _ _ _ _).mono ?_; rintro e w' ⟨rfl, os, q, rfl⟩))
  all_goals
    go_wp2
    refine bodyPost_ret (by simp [results, Tryd.results11, go_sem, *] <;> (repeat' (first | exact rfl | refine And.intro ?_ ?_))) rfl ⟨rfl, ?_⟩
    repeat (first | exact Ext.refl _ | refine Ext.alloc ?_ _ | refine Ext.ext ?_ _ _ | refine Ext.drew ?_ | refine Ext.drewN ?_ _)

set_option maxRecDepth 100000 in
set_option maxHeartbeats 1000000 in
theorem Read_cpy (a x y s p m : Int) (w : World) :
    Calls Tryd.prog 11 #[uv a x y s p, .int .u8 8, .int .u8 m] w fun e w' => e = .returned (uu (cmpU ⟨a, x, y, s, p⟩ y m)) ∧ Ext w w' := by
  have hx : ∀ w, (Instr.index 41 readsV (.int .u8 8)).run Tryd.prog w = .ok (.func (.func 25) #[] #[]) w := fun _ => by kernel_rfl
  have hw : IntKind.u8.wrap 8 = 8 := rfl
  have F0 := reads_any
  have F1 := cpy_any
  unfold uu uv at F1
  have F2 := kind_any
  have r1 := ext_cell
  have r2 := ext_frozen
  have r3 := ext_setCell
  have r4 := ext_lt
  have r5 := ext_drew
  have r6 := ext_ext
  unfold uu uv
  go_enter Tryd.func11, Tryd.ntmps11
  go_upto_region 3 with (go_at_call 14; refine (F2 _ _).mono ?_; rintro e w' ⟨rfl, rfl⟩; unfold kindU)
  go_region_held3 (fun v => w.heap.size < v.heap.size ∧ v.cell? ⟨w.heap.size, 0, none⟩ = some (.int .u8 a) ∧ v.cell? ⟨w.heap.size, 1, none⟩ = some (.int .u8 x) ∧ v.cell? ⟨w.heap.size, 2, none⟩ = some (.int .u8 y) ∧ v.cell? ⟨w.heap.size, 3, none⟩ = some (.int .u8 s) ∧ v.cell? ⟨w.heap.size, 4, none⟩ = some (.int .u8 p)) (first | assumption | exact bx_ext (by assumption) _ _ | (simp [go_sem]; done) | (refine bx_ext ?_ _ _; simp [go_sem]; done)) (first | (go_at_call 16; refine (F0 _).mono ?_; rintro e w' ⟨rfl, os, q, rfl⟩) | (go_at_call 25; refine (F1 _ _ _ _ _ _ _).mono ?_; rintro e w' ⟨rfl, os, q, rfl⟩))
  all_goals
    go_wp2
    refine bodyPost_ret (by simp [results, Tryd.results11, go_sem, *] <;> (repeat' (first | exact rfl | refine And.intro ?_ ?_))) rfl ⟨rfl, ?_⟩
    repeat (first | exact Ext.refl _ | refine Ext.alloc ?_ _ | refine Ext.ext ?_ _ _ | refine Ext.drew ?_ | refine Ext.drewN ?_ _)

set_option maxRecDepth 100000 in
set_option maxHeartbeats 1000000 in
theorem Read_lda (a x y s p m : Int) (w : World) :
    Calls Tryd.prog 11 #[uv a x y s p, .int .u8 9, .int .u8 m] w fun e w' => e = .returned (uu (ldaU ⟨a, x, y, s, p⟩ m)) ∧ Ext w w' := by
  have hx : ∀ w, (Instr.index 41 readsV (.int .u8 9)).run Tryd.prog w = .ok (.func (.func 26) #[] #[]) w := fun _ => by kernel_rfl
  have hw : IntKind.u8.wrap 9 = 9 := rfl
  have F0 := reads_any
  have F1 := lda_any
  unfold uu uv at F1
  have F2 := kind_any
  have r1 := ext_cell
  have r2 := ext_frozen
  have r3 := ext_setCell
  have r4 := ext_lt
  have r5 := ext_drew
  have r6 := ext_ext
  unfold uu uv
  go_enter Tryd.func11, Tryd.ntmps11
  go_upto_region 3 with (go_at_call 14; refine (F2 _ _).mono ?_; rintro e w' ⟨rfl, rfl⟩; unfold kindU)
  go_region_held3 (fun v => w.heap.size < v.heap.size ∧ v.cell? ⟨w.heap.size, 0, none⟩ = some (.int .u8 a) ∧ v.cell? ⟨w.heap.size, 1, none⟩ = some (.int .u8 x) ∧ v.cell? ⟨w.heap.size, 2, none⟩ = some (.int .u8 y) ∧ v.cell? ⟨w.heap.size, 3, none⟩ = some (.int .u8 s) ∧ v.cell? ⟨w.heap.size, 4, none⟩ = some (.int .u8 p)) (first | assumption | exact bx_ext (by assumption) _ _ | (simp [go_sem]; done) | (refine bx_ext ?_ _ _; simp [go_sem]; done)) (first | (go_at_call 16; refine (F0 _).mono ?_; rintro e w' ⟨rfl, os, q, rfl⟩) | (go_at_call 26; refine (F1 _ _ _ _ _ _ _).mono ?_; rintro e w' ⟨rfl, os, q, rfl⟩))
  all_goals
    go_wp2
    refine bodyPost_ret (by simp [results, Tryd.results11, go_sem, *] <;> (repeat' (first | exact rfl | refine And.intro ?_ ?_))) rfl ⟨rfl, ?_⟩
    repeat (first | exact Ext.refl _ | refine Ext.alloc ?_ _ | refine Ext.ext ?_ _ _ | refine Ext.drew ?_ | refine Ext.drewN ?_ _)

set_option maxRecDepth 100000 in
set_option maxHeartbeats 1000000 in
theorem Read_ldx (a x y s p m : Int) (w : World) :
    Calls Tryd.prog 11 #[uv a x y s p, .int .u8 10, .int .u8 m] w fun e w' => e = .returned (uu (ldxU ⟨a, x, y, s, p⟩ m)) ∧ Ext w w' := by
  have hx : ∀ w, (Instr.index 41 readsV (.int .u8 10)).run Tryd.prog w = .ok (.func (.func 27) #[] #[]) w := fun _ => by kernel_rfl
  have hw : IntKind.u8.wrap 10 = 10 := rfl
  have F0 := reads_any
  have F1 := ldx_any
  unfold uu uv at F1
  have F2 := kind_any
  have r1 := ext_cell
  have r2 := ext_frozen
  have r3 := ext_setCell
  have r4 := ext_lt
  have r5 := ext_drew
  have r6 := ext_ext
  unfold uu uv
  go_enter Tryd.func11, Tryd.ntmps11
  go_upto_region 3 with (go_at_call 14; refine (F2 _ _).mono ?_; rintro e w' ⟨rfl, rfl⟩; unfold kindU)
  go_region_held3 (fun v => w.heap.size < v.heap.size ∧ v.cell? ⟨w.heap.size, 0, none⟩ = some (.int .u8 a) ∧ v.cell? ⟨w.heap.size, 1, none⟩ = some (.int .u8 x) ∧ v.cell? ⟨w.heap.size, 2, none⟩ = some (.int .u8 y) ∧ v.cell? ⟨w.heap.size, 3, none⟩ = some (.int .u8 s) ∧ v.cell? ⟨w.heap.size, 4, none⟩ = some (.int .u8 p)) (first | assumption | exact bx_ext (by assumption) _ _ | (simp [go_sem]; done) | (refine bx_ext ?_ _ _; simp [go_sem]; done)) (first | (go_at_call 16; refine (F0 _).mono ?_; rintro e w' ⟨rfl, os, q, rfl⟩) | (go_at_call 27; refine (F1 _ _ _ _ _ _ _).mono ?_; rintro e w' ⟨rfl, os, q, rfl⟩))
  all_goals
    go_wp2
    refine bodyPost_ret (by simp [results, Tryd.results11, go_sem, *] <;> (repeat' (first | exact rfl | refine And.intro ?_ ?_))) rfl ⟨rfl, ?_⟩
    repeat (first | exact Ext.refl _ | refine Ext.alloc ?_ _ | refine Ext.ext ?_ _ _ | refine Ext.drew ?_ | refine Ext.drewN ?_ _)

set_option maxRecDepth 100000 in
set_option maxHeartbeats 1000000 in
theorem Read_ldy (a x y s p m : Int) (w : World) :
    Calls Tryd.prog 11 #[uv a x y s p, .int .u8 11, .int .u8 m] w fun e w' => e = .returned (uu (ldyU ⟨a, x, y, s, p⟩ m)) ∧ Ext w w' := by
  have hx : ∀ w, (Instr.index 41 readsV (.int .u8 11)).run Tryd.prog w = .ok (.func (.func 28) #[] #[]) w := fun _ => by kernel_rfl
  have hw : IntKind.u8.wrap 11 = 11 := rfl
  have F0 := reads_any
  have F1 := ldy_any
  unfold uu uv at F1
  have F2 := kind_any
  have r1 := ext_cell
  have r2 := ext_frozen
  have r3 := ext_setCell
  have r4 := ext_lt
  have r5 := ext_drew
  have r6 := ext_ext
  unfold uu uv
  go_enter Tryd.func11, Tryd.ntmps11
  go_upto_region 3 with (go_at_call 14; refine (F2 _ _).mono ?_; rintro e w' ⟨rfl, rfl⟩; unfold kindU)
  go_region_held3 (fun v => w.heap.size < v.heap.size ∧ v.cell? ⟨w.heap.size, 0, none⟩ = some (.int .u8 a) ∧ v.cell? ⟨w.heap.size, 1, none⟩ = some (.int .u8 x) ∧ v.cell? ⟨w.heap.size, 2, none⟩ = some (.int .u8 y) ∧ v.cell? ⟨w.heap.size, 3, none⟩ = some (.int .u8 s) ∧ v.cell? ⟨w.heap.size, 4, none⟩ = some (.int .u8 p)) (first | assumption | exact bx_ext (by assumption) _ _ | (simp [go_sem]; done) | (refine bx_ext ?_ _ _; simp [go_sem]; done)) (first | (go_at_call 16; refine (F0 _).mono ?_; rintro e w' ⟨rfl, os, q, rfl⟩) | (go_at_call 28; refine (F1 _ _ _ _ _ _ _).mono ?_; rintro e w' ⟨rfl, os, q, rfl⟩))
  all_goals
    go_wp2
    refine bodyPost_ret (by simp [results, Tryd.results11, go_sem, *] <;> (repeat' (first | exact rfl | refine And.intro ?_ ?_))) rfl ⟨rfl, ?_⟩
    repeat (first | exact Ext.refl _ | refine Ext.alloc ?_ _ | refine Ext.ext ?_ _ _ | refine Ext.drew ?_ | refine Ext.drewN ?_ _)

set_option maxRecDepth 100000 in
set_option maxHeartbeats 1000000 in
theorem Read_bit (a x y s p m : Int) (w : World) :
    Calls Tryd.prog 11 #[uv a x y s p, .int .u8 12, .int .u8 m] w fun e w' => e = .returned (uu (bitU ⟨a, x, y, s, p⟩ m)) ∧ Ext w w' := by
  have hx : ∀ w, (Instr.index 41 readsV (.int .u8 12)).run Tryd.prog w = .ok (.func (.func 29) #[] #[]) w := fun _ => by kernel_rfl
  have hw : IntKind.u8.wrap 12 = 12 := rfl
  have F0 := reads_any
  have F1 := bit_any
  unfold uu uv at F1
  have F2 := kind_any
  have r1 := ext_cell
  have r2 := ext_frozen
  have r3 := ext_setCell
  have r4 := ext_lt
  have r5 := ext_drew
  have r6 := ext_ext
  unfold uu uv
  go_enter Tryd.func11, Tryd.ntmps11
  go_upto_region 3 with (go_at_call 14; refine (F2 _ _).mono ?_; rintro e w' ⟨rfl, rfl⟩; unfold kindU)
  go_region_held3 (fun v => w.heap.size < v.heap.size ∧ v.cell? ⟨w.heap.size, 0, none⟩ = some (.int .u8 a) ∧ v.cell? ⟨w.heap.size, 1, none⟩ = some (.int .u8 x) ∧ v.cell? ⟨w.heap.size, 2, none⟩ = some (.int .u8 y) ∧ v.cell? ⟨w.heap.size, 3, none⟩ = some (.int .u8 s) ∧ v.cell? ⟨w.heap.size, 4, none⟩ = some (.int .u8 p)) (first | assumption | exact bx_ext (by assumption) _ _ | (simp [go_sem]; done) | (refine bx_ext ?_ _ _; simp [go_sem]; done)) (first | (go_at_call 16; refine (F0 _).mono ?_; rintro e w' ⟨rfl, os, q, rfl⟩) | (go_at_call 29; refine (F1 _ _ _ _ _ _ _).mono ?_; rintro e w' ⟨rfl, os, q, rfl⟩))
  all_goals
    go_wp2
    refine bodyPost_ret (by simp [results, Tryd.results11, go_sem, *] <;> (repeat' (first | exact rfl | refine And.intro ?_ ?_))) rfl ⟨rfl, ?_⟩
    repeat (first | exact Ext.refl _ | refine Ext.alloc ?_ _ | refine Ext.ext ?_ _ _ | refine Ext.drew ?_ | refine Ext.drewN ?_ _)

set_option maxRecDepth 100000 in
set_option maxHeartbeats 1000000 in
theorem Read_lax (a x y s p m : Int) (w : World) :
    Calls Tryd.prog 11 #[uv a x y s p, .int .u8 13, .int .u8 m] w fun e w' => e = .returned (uu (laxU ⟨a, x, y, s, p⟩ m)) ∧ Ext w w' := by
  have hx : ∀ w, (Instr.index 41 readsV (.int .u8 13)).run Tryd.prog w = .ok (.func (.func 30) #[] #[]) w := fun _ => by kernel_rfl
  have hw : IntKind.u8.wrap 13 = 13 := rfl
  have F0 := reads_any
  have F1 := lax_any
  unfold uu uv at F1
  have F2 := kind_any
  have r1 := ext_cell
  have r2 := ext_frozen
  have r3 := ext_setCell
  have r4 := ext_lt
  have r5 := ext_drew
  have r6 := ext_ext
  unfold uu uv
  go_enter Tryd.func11, Tryd.ntmps11
  go_upto_region 3 with (go_at_call 14; refine (F2 _ _).mono ?_; rintro e w' ⟨rfl, rfl⟩; unfold kindU)
  go_region_held3 (fun v => w.heap.size < v.heap.size ∧ v.cell? ⟨w.heap.size, 0, none⟩ = some (.int .u8 a) ∧ v.cell? ⟨w.heap.size, 1, none⟩ = some (.int .u8 x) ∧ v.cell? ⟨w.heap.size, 2, none⟩ = some (.int .u8 y) ∧ v.cell? ⟨w.heap.size, 3, none⟩ = some (.int .u8 s) ∧ v.cell? ⟨w.heap.size, 4, none⟩ = some (.int .u8 p)) (first | assumption | exact bx_ext (by assumption) _ _ | (simp [go_sem]; done) | (refine bx_ext ?_ _ _; simp [go_sem]; done)) (first | (go_at_call 16; refine (F0 _).mono ?_; rintro e w' ⟨rfl, os, q, rfl⟩) | (go_at_call 30; refine (F1 _ _ _ _ _ _ _).mono ?_; rintro e w' ⟨rfl, os, q, rfl⟩))
  all_goals
    go_wp2
    refine bodyPost_ret (by simp [results, Tryd.results11, go_sem, *] <;> (repeat' (first | exact rfl | refine And.intro ?_ ?_))) rfl ⟨rfl, ?_⟩
    repeat (first | exact Ext.refl _ | refine Ext.alloc ?_ _ | refine Ext.ext ?_ _ _ | refine Ext.drew ?_ | refine Ext.drewN ?_ _)

set_option maxRecDepth 100000 in
set_option maxHeartbeats 1000000 in
theorem Read_anc (a x y s p m : Int) (w : World) :
    Calls Tryd.prog 11 #[uv a x y s p, .int .u8 14, .int .u8 m] w fun e w' => e = .returned (uu (ancU ⟨a, x, y, s, p⟩ m)) ∧ Ext w w' := by
  have hx : ∀ w, (Instr.index 41 readsV (.int .u8 14)).run Tryd.prog w = .ok (.func (.func 31) #[] #[]) w := fun _ => by kernel_rfl
  have hw : IntKind.u8.wrap 14 = 14 := rfl
  have F0 := reads_any
  have F1 := anc_any
  unfold uu uv at F1
  have F2 := kind_any
  have r1 := ext_cell
  have r2 := ext_frozen
  have r3 := ext_setCell
  have r4 := ext_lt
  have r5 := ext_drew
  have r6 := ext_ext
  unfold uu uv
  go_enter Tryd.func11, Tryd.ntmps11
  go_upto_region 3 with (go_at_call 14; refine (F2 _ _).mono ?_; rintro e w' ⟨rfl, rfl⟩; unfold kindU)
  go_region_held3 (fun v => w.heap.size < v.heap.size ∧ v.cell? ⟨w.heap.size, 0, none⟩ = some (.int .u8 a) ∧ v.cell? ⟨w.heap.size, 1, none⟩ = some (.int .u8 x) ∧ v.cell? ⟨w.heap.size, 2, none⟩ = some (.int .u8 y) ∧ v.cell? ⟨w.heap.size, 3, none⟩ = some (.int .u8 s) ∧ v.cell? ⟨w.heap.size, 4, none⟩ = some (.int .u8 p)) (first | assumption | exact bx_ext (by assumption) _ _ | (simp [go_sem]; done) | (refine bx_ext ?_ _ _; simp [go_sem]; done)) (first | (go_at_call 16; refine (F0 _).mono ?_; rintro e w' ⟨rfl, os, q, rfl⟩) | (go_at_call 31; refine (F1 _ _ _ _ _ _ _).mono ?_; rintro e w' ⟨rfl, os, q, rfl⟩))
  all_goals
    go_wp2
    refine bodyPost_ret (by simp [results, Tryd.results11, go_sem, *] <;> (repeat' (first | exact rfl | refine And.intro ?_ ?_))) rfl ⟨rfl, ?_⟩
    repeat (first | exact Ext.refl _ | refine Ext.alloc ?_ _ | refine Ext.ext ?_ _ _ | refine Ext.drew ?_ | refine Ext.drewN ?_ _)

set_option maxRecDepth 100000 in
set_option maxHeartbeats 1000000 in
theorem Read_alr (a x y s p m : Int) (w : World) :
    Calls Tryd.prog 11 #[uv a x y s p, .int .u8 15, .int .u8 m] w fun e w' => e = .returned (uu (alrU ⟨a, x, y, s, p⟩ m)) ∧ Ext w w' := by
  have hx : ∀ w, (Instr.index 41 readsV (.int .u8 15)).run Tryd.prog w = .ok (.func (.func 32) #[] #[]) w := fun _ => by kernel_rfl
  have hw : IntKind.u8.wrap 15 = 15 := rfl
  have F0 := reads_any
  have F1 := alr_any
  unfold uu uv at F1
  have F2 := kind_any
  have r1 := ext_cell
  have r2 := ext_frozen
  have r3 := ext_setCell
  have r4 := ext_lt
  have r5 := ext_drew
  have r6 := ext_ext
  unfold uu uv
  go_enter Tryd.func11, Tryd.ntmps11
  go_upto_region 3 with (go_at_call 14; refine (F2 _ _).mono ?_; rintro e w' ⟨rfl, rfl⟩; unfold kindU)
  go_region_held3 (fun v => w.heap.size < v.heap.size ∧ v.cell? ⟨w.heap.size, 0, none⟩ = some (.int .u8 a) ∧ v.cell? ⟨w.heap.size, 1, none⟩ = some (.int .u8 x) ∧ v.cell? ⟨w.heap.size, 2, none⟩ = some (.int .u8 y) ∧ v.cell? ⟨w.heap.size, 3, none⟩ = some (.int .u8 s) ∧ v.cell? ⟨w.heap.size, 4, none⟩ = some (.int .u8 p)) (first | assumption | exact bx_ext (by assumption) _ _ | (simp [go_sem]; done) | (refine bx_ext ?_ _ _; simp [go_sem]; done)) (first | (go_at_call 16; refine (F0 _).mono ?_; rintro e w' ⟨rfl, os, q, rfl⟩) | (go_at_call 32; refine (F1 _ _ _ _ _ _ _).mono ?_; rintro e w' ⟨rfl, os, q, rfl⟩))
  all_goals
    go_wp2
    refine bodyPost_ret (by simp [results, Tryd.results11, go_sem, *] <;> (repeat' (first | exact rfl | refine And.intro ?_ ?_))) rfl ⟨rfl, ?_⟩
    repeat (first | exact Ext.refl _ | refine Ext.alloc ?_ _ | refine Ext.ext ?_ _ _ | refine Ext.drew ?_ | refine Ext.drewN ?_ _)

set_option maxRecDepth 100000 in
set_option maxHeartbeats 1000000 in
theorem Read_arr (a x y s p m : Int) (w : World) :
    Calls Tryd.prog 11 #[uv a x y s p, .int .u8 16, .int .u8 m] w fun e w' => e = .returned (uu (arrU ⟨a, x, y, s, p⟩ m)) ∧ Ext w w' := by
  have hx : ∀ w, (Instr.index 41 readsV (.int .u8 16)).run Tryd.prog w = .ok (.func (.func 33) #[] #[]) w := fun _ => by kernel_rfl
  have hw : IntKind.u8.wrap 16 = 16 := rfl
  have F0 := reads_any
  have F1 := arr_any
  unfold uu uv at F1
  have F2 := kind_any
  have r1 := ext_cell
  have r2 := ext_frozen
  have r3 := ext_setCell
  have r4 := ext_lt
  have r5 := ext_drew
  have r6 := ext_ext
  unfold uu uv
  go_enter Tryd.func11, Tryd.ntmps11
  go_upto_region 3 with (go_at_call 14; refine (F2 _ _).mono ?_; rintro e w' ⟨rfl, rfl⟩; unfold kindU)
  go_region_held3 (fun v => w.heap.size < v.heap.size ∧ v.cell? ⟨w.heap.size, 0, none⟩ = some (.int .u8 a) ∧ v.cell? ⟨w.heap.size, 1, none⟩ = some (.int .u8 x) ∧ v.cell? ⟨w.heap.size, 2, none⟩ = some (.int .u8 y) ∧ v.cell? ⟨w.heap.size, 3, none⟩ = some (.int .u8 s) ∧ v.cell? ⟨w.heap.size, 4, none⟩ = some (.int .u8 p)) (first | assumption | exact bx_ext (by assumption) _ _ | (simp [go_sem]; done) | (refine bx_ext ?_ _ _; simp [go_sem]; done)) (first | (go_at_call 16; refine (F0 _).mono ?_; rintro e w' ⟨rfl, os, q, rfl⟩) | (go_at_call 33; refine (F1 _ _ _ _ _ _ _).mono ?_; rintro e w' ⟨rfl, os, q, rfl⟩))
  all_goals
    go_wp2
    refine bodyPost_ret (by simp [results, Tryd.results11, go_sem, *] <;> (repeat' (first | exact rfl | refine And.intro ?_ ?_))) rfl ⟨rfl, ?_⟩
    repeat (first | exact Ext.refl _ | refine Ext.alloc ?_ _ | refine Ext.ext ?_ _ _ | refine Ext.drew ?_ | refine Ext.drewN ?_ _)

set_option maxRecDepth 100000 in
set_option maxHeartbeats 1000000 in
theorem Read_axs (a x y s p m : Int) (w : World) :
    Calls Tryd.prog 11 #[uv a x y s p, .int .u8 17, .int .u8 m] w fun e w' => e = .returned (uu (axsU ⟨a, x, y, s, p⟩ m)) ∧ Ext w w' := by
  have hx : ∀ w, (Instr.index 41 readsV (.int .u8 17)).run Tryd.prog w = .ok (.func (.func 34) #[] #[]) w := fun _ => by kernel_rfl
  have hw : IntKind.u8.wrap 17 = 17 := rfl
  have F0 := reads_any
  have F1 := axs_any
  unfold uu uv at F1
  have F2 := kind_any
  have r1 := ext_cell
  have r2 := ext_frozen
  have r3 := ext_setCell
  have r4 := ext_lt
  have r5 := ext_drew
  have r6 := ext_ext
  unfold uu uv
  go_enter Tryd.func11, Tryd.ntmps11
  go_upto_region 3 with (go_at_call 14; refine (F2 _ _).mono ?_; rintro e w' ⟨rfl, rfl⟩; unfold kindU)
  go_region_held3 (fun v => w.heap.size < v.heap.size ∧ v.cell? ⟨w.heap.size, 0, none⟩ = some (.int .u8 a) ∧ v.cell? ⟨w.heap.size, 1, none⟩ = some (.int .u8 x) ∧ v.cell? ⟨w.heap.size, 2, none⟩ = some (.int .u8 y) ∧ v.cell? ⟨w.heap.size, 3, none⟩ = some (.int .u8 s) ∧ v.cell? ⟨w.heap.size, 4, none⟩ = some (.int .u8 p)) (first | assumption | exact bx_ext (by assumption) _ _ | (simp [go_sem]; done) | (refine bx_ext ?_ _ _; simp [go_sem]; done)) (first | (go_at_call 16; refine (F0 _).mono ?_; rintro e w' ⟨rfl, os, q, rfl⟩) | (go_at_call 34; refine (F1 _ _ _ _ _ _ _).mono ?_; rintro e w' ⟨rfl, os, q, rfl⟩))
  all_goals
    go_wp2
    refine bodyPost_ret (by simp [results, Tryd.results11, go_sem, *] <;> (repeat' (first | exact rfl | refine And.intro ?_ ?_))) rfl ⟨rfl, ?_⟩
    repeat (first | exact Ext.refl _ | refine Ext.alloc ?_ _ | refine Ext.ext ?_ _ _ | refine Ext.drew ?_ | refine Ext.drewN ?_ _)

set_option maxRecDepth 100000 in
set_option maxHeartbeats 1000000 in
theorem Read_las (a x y s p m : Int) (w : World) :
    Calls Tryd.prog 11 #[uv a x y s p, .int .u8 18, .int .u8 m] w fun e w' => e = .returned (uu (lasU ⟨a, x, y, s, p⟩ m)) ∧ Ext w w' := by
  have hx : ∀ w, (Instr.index 41 readsV (.int .u8 18)).run Tryd.prog w = .ok (.func (.func 35) #[] #[]) w := fun _ => by kernel_rfl
  have hw : IntKind.u8.wrap 18 = 18 := rfl
  have F0 := reads_any
  have F1 := las_any
  unfold uu uv at F1
  have F2 := kind_any
  have r1 := ext_cell
  have r2 := ext_frozen
  have r3 := ext_setCell
  have r4 := ext_lt
  have r5 := ext_drew
  have r6 := ext_ext
  unfold uu uv
  go_enter Tryd.func11, Tryd.ntmps11
  go_upto_region 3 with (go_at_call 14; refine (F2 _ _).mono ?_; rintro e w' ⟨rfl, rfl⟩; unfold kindU)
  go_region_held3 (fun v => w.heap.size < v.heap.size ∧ v.cell? ⟨w.heap.size, 0, none⟩ = some (.int .u8 a) ∧ v.cell? ⟨w.heap.size, 1, none⟩ = some (.int .u8 x) ∧ v.cell? ⟨w.heap.size, 2, none⟩ = some (.int .u8 y) ∧ v.cell? ⟨w.heap.size, 3, none⟩ = some (.int .u8 s) ∧ v.cell? ⟨w.heap.size, 4, none⟩ = some (.int .u8 p)) (first | assumption | exact bx_ext (by assumption) _ _ | (simp [go_sem]; done) | (refine bx_ext ?_ _ _; simp [go_sem]; done)) (first | (go_at_call 16; refine (F0 _).mono ?_; rintro e w' ⟨rfl, os, q, rfl⟩) | (go_at_call 35; refine (F1 _ _ _ _ _ _ _).mono ?_; rintro e w' ⟨rfl, os, q, rfl⟩))
  all_goals
    go_wp2
    refine bodyPost_ret (by simp [results, Tryd.results11, go_sem, *] <;> (repeat' (first | exact rfl | refine And.intro ?_ ?_))) rfl ⟨rfl, ?_⟩
    repeat (first | exact Ext.refl _ | refine Ext.alloc ?_ _ | refine Ext.ext ?_ _ _ | refine Ext.drew ?_ | refine Ext.drewN ?_ _)

end Go.Proofs.YtigpmmjbdpnkjaaDoor
