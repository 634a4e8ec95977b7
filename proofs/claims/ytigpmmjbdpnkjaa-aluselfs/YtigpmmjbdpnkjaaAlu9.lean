/- Contracts of package alu: Self. No law is claimed here. -/
import Derived.Test.YtigpmmjbdpnkjaaAlu5
import Derived.Test.YtigpmmjbdpnkjaaAlu6
import Derived.Test.YtigpmmjbdpnkjaaAlu4
namespace Go.Proofs.Ytigpmmjbdpnkjaa
open Go.RowKit

set_option maxRecDepth 100000 in
set_option maxHeartbeats 1000000 in
theorem Self_tax (a x y s p : Int) (w : World) :
    Calls Try.prog 21 #[uv a x y s p, .int .u8 35] w fun e w' => e = .returned (uu (ldxU ⟨a, x, y, s, p⟩ a)) ∧ Ext w w' := by
  have hx : ∀ w, (Instr.index 64 selfsV (.int .u8 0)).run Try.prog w = .ok (.func (.func 74) #[] #[]) w := fun _ => by kernel_rfl
  have hw : IntKind.u8.wrap 0 = 0 := rfl
  have F0 := selfs_any
  have F1 := tax_any
  unfold uu uv at F1
  have F2 := kind_any
  have r1 := ext_cell
  have r2 := ext_frozen
  have r3 := ext_setCell
  have r4 := ext_lt
  have r5 := ext_drew
  have r6 := ext_ext
  unfold uu uv
  go_enter Try.func21, Try.ntmps21
  go_upto_region 2 with (go_at_call 26; refine (F2 _ _).mono ?_; rintro e w' ⟨rfl, rfl⟩; unfold kindU)
  go_region_held3 (fun v => w.heap.size < v.heap.size ∧ v.cell? ⟨w.heap.size, 0, none⟩ = some (.int .u8 a) ∧ v.cell? ⟨w.heap.size, 1, none⟩ = some (.int .u8 x) ∧ v.cell? ⟨w.heap.size, 2, none⟩ = some (.int .u8 y) ∧ v.cell? ⟨w.heap.size, 3, none⟩ = some (.int .u8 s) ∧ v.cell? ⟨w.heap.size, 4, none⟩ = some (.int .u8 p)) (first | assumption | exact bx_ext (by assumption) _ _ | (simp [go_sem]; done) | (refine bx_ext ?_ _ _; simp [go_sem]; done)) (first | (go_at_call 37; refine (F0 _).mono ?_; rintro e w' ⟨rfl, os, q, rfl⟩) | (go_at_call 74; refine (F1 _ _ _ _ _  _).mono ?_; rintro e w' ⟨rfl, os, q, rfl⟩))
  all_goals
    go_wp2
    refine bodyPost_ret (by simp [results, Try.results21, go_sem, *] <;> (repeat' (first | exact rfl | refine And.intro ?_ ?_))) rfl ⟨rfl, ?_⟩
    repeat (first | exact Ext.refl _ | refine Ext.alloc ?_ _ | refine Ext.ext ?_ _ _ | refine Ext.drew ?_ | refine Ext.drewN ?_ _)

set_option maxRecDepth 100000 in
set_option maxHeartbeats 1000000 in
theorem Self_tay (a x y s p : Int) (w : World) :
    Calls Try.prog 21 #[uv a x y s p, .int .u8 36] w fun e w' => e = .returned (uu (ldyU ⟨a, x, y, s, p⟩ a)) ∧ Ext w w' := by
  have hx : ∀ w, (Instr.index 64 selfsV (.int .u8 1)).run Try.prog w = .ok (.func (.func 75) #[] #[]) w := fun _ => by kernel_rfl
  have hw : IntKind.u8.wrap 1 = 1 := rfl
  have F0 := selfs_any
  have F1 := tay_any
  unfold uu uv at F1
  have F2 := kind_any
  have r1 := ext_cell
  have r2 := ext_frozen
  have r3 := ext_setCell
  have r4 := ext_lt
  have r5 := ext_drew
  have r6 := ext_ext
  unfold uu uv
  go_enter Try.func21, Try.ntmps21
  go_upto_region 2 with (go_at_call 26; refine (F2 _ _).mono ?_; rintro e w' ⟨rfl, rfl⟩; unfold kindU)
  go_region_held3 (fun v => w.heap.size < v.heap.size ∧ v.cell? ⟨w.heap.size, 0, none⟩ = some (.int .u8 a) ∧ v.cell? ⟨w.heap.size, 1, none⟩ = some (.int .u8 x) ∧ v.cell? ⟨w.heap.size, 2, none⟩ = some (.int .u8 y) ∧ v.cell? ⟨w.heap.size, 3, none⟩ = some (.int .u8 s) ∧ v.cell? ⟨w.heap.size, 4, none⟩ = some (.int .u8 p)) (first | assumption | exact bx_ext (by assumption) _ _ | (simp [go_sem]; done) | (refine bx_ext ?_ _ _; simp [go_sem]; done)) (first | (go_at_call 37; refine (F0 _).mono ?_; rintro e w' ⟨rfl, os, q, rfl⟩) | (go_at_call 75; refine (F1 _ _ _ _ _  _).mono ?_; rintro e w' ⟨rfl, os, q, rfl⟩))
  all_goals
    go_wp2
    refine bodyPost_ret (by simp [results, Try.results21, go_sem, *] <;> (repeat' (first | exact rfl | refine And.intro ?_ ?_))) rfl ⟨rfl, ?_⟩
    repeat (first | exact Ext.refl _ | refine Ext.alloc ?_ _ | refine Ext.ext ?_ _ _ | refine Ext.drew ?_ | refine Ext.drewN ?_ _)

set_option maxRecDepth 100000 in
set_option maxHeartbeats 1000000 in
theorem Self_txa (a x y s p : Int) (w : World) :
    Calls Try.prog 21 #[uv a x y s p, .int .u8 37] w fun e w' => e = .returned (uu (ldaU ⟨a, x, y, s, p⟩ x)) ∧ Ext w w' := by
  have hx : ∀ w, (Instr.index 64 selfsV (.int .u8 2)).run Try.prog w = .ok (.func (.func 76) #[] #[]) w := fun _ => by kernel_rfl
  have hw : IntKind.u8.wrap 2 = 2 := rfl
  have F0 := selfs_any
  have F1 := txa_any
  unfold uu uv at F1
  have F2 := kind_any
  have r1 := ext_cell
  have r2 := ext_frozen
  have r3 := ext_setCell
  have r4 := ext_lt
  have r5 := ext_drew
  have r6 := ext_ext
  unfold uu uv
  go_enter Try.func21, Try.ntmps21
  go_upto_region 2 with (go_at_call 26; refine (F2 _ _).mono ?_; rintro e w' ⟨rfl, rfl⟩; unfold kindU)
  go_region_held3 (fun v => w.heap.size < v.heap.size ∧ v.cell? ⟨w.heap.size, 0, none⟩ = some (.int .u8 a) ∧ v.cell? ⟨w.heap.size, 1, none⟩ = some (.int .u8 x) ∧ v.cell? ⟨w.heap.size, 2, none⟩ = some (.int .u8 y) ∧ v.cell? ⟨w.heap.size, 3, none⟩ = some (.int .u8 s) ∧ v.cell? ⟨w.heap.size, 4, none⟩ = some (.int .u8 p)) (first | assumption | exact bx_ext (by assumption) _ _ | (simp [go_sem]; done) | (refine bx_ext ?_ _ _; simp [go_sem]; done)) (first | (go_at_call 37; refine (F0 _).mono ?_; rintro e w' ⟨rfl, os, q, rfl⟩) | (go_at_call 76; refine (F1 _ _ _ _ _  _).mono ?_; rintro e w' ⟨rfl, os, q, rfl⟩))
  all_goals
    go_wp2
    refine bodyPost_ret (by simp [results, Try.results21, go_sem, *] <;> (repeat' (first | exact rfl | refine And.intro ?_ ?_))) rfl ⟨rfl, ?_⟩
    repeat (first | exact Ext.refl _ | refine Ext.alloc ?_ _ | refine Ext.ext ?_ _ _ | refine Ext.drew ?_ | refine Ext.drewN ?_ _)

set_option maxRecDepth 100000 in
set_option maxHeartbeats 1000000 in
theorem Self_tya (a x y s p : Int) (w : World) :
    Calls Try.prog 21 #[uv a x y s p, .int .u8 38] w fun e w' => e = .returned (uu (ldaU ⟨a, x, y, s, p⟩ y)) ∧ Ext w w' := by
  have hx : ∀ w, (Instr.index 64 selfsV (.int .u8 3)).run Try.prog w = .ok (.func (.func 77) #[] #[]) w := fun _ => by kernel_rfl
  have hw : IntKind.u8.wrap 3 = 3 := rfl
  have F0 := selfs_any
  have F1 := tya_any
  unfold uu uv at F1
  have F2 := kind_any
  have r1 := ext_cell
  have r2 := ext_frozen
  have r3 := ext_setCell
  have r4 := ext_lt
  have r5 := ext_drew
  have r6 := ext_ext
  unfold uu uv
  go_enter Try.func21, Try.ntmps21
  go_upto_region 2 with (go_at_call 26; refine (F2 _ _).mono ?_; rintro e w' ⟨rfl, rfl⟩; unfold kindU)
  go_region_held3 (fun v => w.heap.size < v.heap.size ∧ v.cell? ⟨w.heap.size, 0, none⟩ = some (.int .u8 a) ∧ v.cell? ⟨w.heap.size, 1, none⟩ = some (.int .u8 x) ∧ v.cell? ⟨w.heap.size, 2, none⟩ = some (.int .u8 y) ∧ v.cell? ⟨w.heap.size, 3, none⟩ = some (.int .u8 s) ∧ v.cell? ⟨w.heap.size, 4, none⟩ = some (.int .u8 p)) (first | assumption | exact bx_ext (by assumption) _ _ | (simp [go_sem]; done) | (refine bx_ext ?_ _ _; simp [go_sem]; done)) (first | (go_at_call 37; refine (F0 _).mono ?_; rintro e w' ⟨rfl, os, q, rfl⟩) | (go_at_call 77; refine (F1 _ _ _ _ _  _).mono ?_; rintro e w' ⟨rfl, os, q, rfl⟩))
  all_goals
    go_wp2
    refine bodyPost_ret (by simp [results, Try.results21, go_sem, *] <;> (repeat' (first | exact rfl | refine And.intro ?_ ?_))) rfl ⟨rfl, ?_⟩
    repeat (first | exact Ext.refl _ | refine Ext.alloc ?_ _ | refine Ext.ext ?_ _ _ | refine Ext.drew ?_ | refine Ext.drewN ?_ _)

set_option maxRecDepth 100000 in
set_option maxHeartbeats 1000000 in
theorem Self_tsx (a x y s p : Int) (w : World) :
    Calls Try.prog 21 #[uv a x y s p, .int .u8 39] w fun e w' => e = .returned (uu (ldxU ⟨a, x, y, s, p⟩ s)) ∧ Ext w w' := by
  have hx : ∀ w, (Instr.index 64 selfsV (.int .u8 4)).run Try.prog w = .ok (.func (.func 78) #[] #[]) w := fun _ => by kernel_rfl
  have hw : IntKind.u8.wrap 4 = 4 := rfl
  have F0 := selfs_any
  have F1 := tsx_any
  unfold uu uv at F1
  have F2 := kind_any
  have r1 := ext_cell
  have r2 := ext_frozen
  have r3 := ext_setCell
  have r4 := ext_lt
  have r5 := ext_drew
  have r6 := ext_ext
  unfold uu uv
  go_enter Try.func21, Try.ntmps21
  go_upto_region 2 with (go_at_call 26; refine (F2 _ _).mono ?_; rintro e w' ⟨rfl, rfl⟩; unfold kindU)
  go_region_held3 (fun v => w.heap.size < v.heap.size ∧ v.cell? ⟨w.heap.size, 0, none⟩ = some (.int .u8 a) ∧ v.cell? ⟨w.heap.size, 1, none⟩ = some (.int .u8 x) ∧ v.cell? ⟨w.heap.size, 2, none⟩ = some (.int .u8 y) ∧ v.cell? ⟨w.heap.size, 3, none⟩ = some (.int .u8 s) ∧ v.cell? ⟨w.heap.size, 4, none⟩ = some (.int .u8 p)) (first | assumption | exact bx_ext (by assumption) _ _ | (simp [go_sem]; done) | (refine bx_ext ?_ _ _; simp [go_sem]; done)) (first | (go_at_call 37; refine (F0 _).mono ?_; rintro e w' ⟨rfl, os, q, rfl⟩) | (go_at_call 78; refine (F1 _ _ _ _ _  _).mono ?_; rintro e w' ⟨rfl, os, q, rfl⟩))
  all_goals
    go_wp2
    refine bodyPost_ret (by simp [results, Try.results21, go_sem, *] <;> (repeat' (first | exact rfl | refine And.intro ?_ ?_))) rfl ⟨rfl, ?_⟩
    repeat (first | exact Ext.refl _ | refine Ext.alloc ?_ _ | refine Ext.ext ?_ _ _ | refine Ext.drew ?_ | refine Ext.drewN ?_ _)

set_option maxRecDepth 100000 in
set_option maxHeartbeats 1000000 in
theorem Self_txs (a x y s p : Int) (w : World) :
    Calls Try.prog 21 #[uv a x y s p, .int .u8 40] w fun e w' => e = .returned (uu (⟨a, x, y, x, p⟩)) ∧ Ext w w' := by
  have hx : ∀ w, (Instr.index 64 selfsV (.int .u8 5)).run Try.prog w = .ok (.func (.func 79) #[] #[]) w := fun _ => by kernel_rfl
  have hw : IntKind.u8.wrap 5 = 5 := rfl
  have F0 := selfs_any
  have F1 := txs_any
  unfold uu uv at F1
  have F2 := kind_any
  have r1 := ext_cell
  have r2 := ext_frozen
  have r3 := ext_setCell
  have r4 := ext_lt
  have r5 := ext_drew
  have r6 := ext_ext
  unfold uu uv
  go_enter Try.func21, Try.ntmps21
  go_upto_region 2 with (go_at_call 26; refine (F2 _ _).mono ?_; rintro e w' ⟨rfl, rfl⟩; unfold kindU)
  go_region_held3 (fun v => w.heap.size < v.heap.size ∧ v.cell? ⟨w.heap.size, 0, none⟩ = some (.int .u8 a) ∧ v.cell? ⟨w.heap.size, 1, none⟩ = some (.int .u8 x) ∧ v.cell? ⟨w.heap.size, 2, none⟩ = some (.int .u8 y) ∧ v.cell? ⟨w.heap.size, 3, none⟩ = some (.int .u8 s) ∧ v.cell? ⟨w.heap.size, 4, none⟩ = some (.int .u8 p)) (first | assumption | exact bx_ext (by assumption) _ _ | (simp [go_sem]; done) | (refine bx_ext ?_ _ _; simp [go_sem]; done)) (first | (go_at_call 37; refine (F0 _).mono ?_; rintro e w' ⟨rfl, os, q, rfl⟩) | (go_at_call 79; refine (F1 _ _ _ _ _  _).mono ?_; rintro e w' ⟨rfl, os, q, rfl⟩))
  all_goals
    go_wp2
    refine bodyPost_ret (by simp [results, Try.results21, go_sem, *] <;> (repeat' (first | exact rfl | refine And.intro ?_ ?_))) rfl ⟨rfl, ?_⟩
    repeat (first | exact Ext.refl _ | refine Ext.alloc ?_ _ | refine Ext.ext ?_ _ _ | refine Ext.drew ?_ | refine Ext.drewN ?_ _)

set_option maxRecDepth 100000 in
set_option maxHeartbeats 1000000 in
theorem Self_inx (a x y s p : Int) (w : World) :
    Calls Try.prog 21 #[uv a x y s p, .int .u8 41] w fun e w' => e = .returned (uu (ldxU ⟨a, x, y, s, p⟩ (IntKind.u8.wrap (x + 1)))) ∧ Ext w w' := by
  have hx : ∀ w, (Instr.index 64 selfsV (.int .u8 6)).run Try.prog w = .ok (.func (.func 80) #[] #[]) w := fun _ => by kernel_rfl
  have hw : IntKind.u8.wrap 6 = 6 := rfl
  have F0 := selfs_any
  have F1 := inx_any
  unfold uu uv at F1
  have F2 := kind_any
  have r1 := ext_cell
  have r2 := ext_frozen
  have r3 := ext_setCell
  have r4 := ext_lt
  have r5 := ext_drew
  have r6 := ext_ext
  unfold uu uv
  go_enter Try.func21, Try.ntmps21
  go_upto_region 2 with (go_at_call 26; refine (F2 _ _).mono ?_; rintro e w' ⟨rfl, rfl⟩; unfold kindU)
  go_region_held3 (fun v => w.heap.size < v.heap.size ∧ v.cell? ⟨w.heap.size, 0, none⟩ = some (.int .u8 a) ∧ v.cell? ⟨w.heap.size, 1, none⟩ = some (.int .u8 x) ∧ v.cell? ⟨w.heap.size, 2, none⟩ = some (.int .u8 y) ∧ v.cell? ⟨w.heap.size, 3, none⟩ = some (.int .u8 s) ∧ v.cell? ⟨w.heap.size, 4, none⟩ = some (.int .u8 p)) (first | assumption | exact bx_ext (by assumption) _ _ | (simp [go_sem]; done) | (refine bx_ext ?_ _ _; simp [go_sem]; done)) (first | (go_at_call 37; refine (F0 _).mono ?_; rintro e w' ⟨rfl, os, q, rfl⟩) | (go_at_call 80; refine (F1 _ _ _ _ _  _).mono ?_; rintro e w' ⟨rfl, os, q, rfl⟩))
  all_goals
    go_wp2
    refine bodyPost_ret (by simp [results, Try.results21, go_sem, *] <;> (repeat' (first | exact rfl | refine And.intro ?_ ?_))) rfl ⟨rfl, ?_⟩
    repeat (first | exact Ext.refl _ | refine Ext.alloc ?_ _ | refine Ext.ext ?_ _ _ | refine Ext.drew ?_ | refine Ext.drewN ?_ _)

set_option maxRecDepth 100000 in
set_option maxHeartbeats 1000000 in
theorem Self_iny (a x y s p : Int) (w : World) :
    Calls Try.prog 21 #[uv a x y s p, .int .u8 42] w fun e w' => e = .returned (uu (ldyU ⟨a, x, y, s, p⟩ (IntKind.u8.wrap (y + 1)))) ∧ Ext w w' := by
  have hx : ∀ w, (Instr.index 64 selfsV (.int .u8 7)).run Try.prog w = .ok (.func (.func 81) #[] #[]) w := fun _ => by kernel_rfl
  have hw : IntKind.u8.wrap 7 = 7 := rfl
  have F0 := selfs_any
  have F1 := iny_any
  unfold uu uv at F1
  have F2 := kind_any
  have r1 := ext_cell
  have r2 := ext_frozen
  have r3 := ext_setCell
  have r4 := ext_lt
  have r5 := ext_drew
  have r6 := ext_ext
  unfold uu uv
  go_enter Try.func21, Try.ntmps21
  go_upto_region 2 with (go_at_call 26; refine (F2 _ _).mono ?_; rintro e w' ⟨rfl, rfl⟩; unfold kindU)
  go_region_held3 (fun v => w.heap.size < v.heap.size ∧ v.cell? ⟨w.heap.size, 0, none⟩ = some (.int .u8 a) ∧ v.cell? ⟨w.heap.size, 1, none⟩ = some (.int .u8 x) ∧ v.cell? ⟨w.heap.size, 2, none⟩ = some (.int .u8 y) ∧ v.cell? ⟨w.heap.size, 3, none⟩ = some (.int .u8 s) ∧ v.cell? ⟨w.heap.size, 4, none⟩ = some (.int .u8 p)) (first | assumption | exact bx_ext (by assumption) _ _ | (simp [go_sem]; done) | (refine bx_ext ?_ _ _; simp [go_sem]; done)) (first | (go_at_call 37; refine (F0 _).mono ?_; rintro e w' ⟨rfl, os, q, rfl⟩) | (go_at_call 81; refine (F1 _ _ _ _ _  _).mono ?_; rintro e w' ⟨rfl, os, q, rfl⟩))
  all_goals
    go_wp2
    refine bodyPost_ret (by simp [results, Try.results21, go_sem, *] <;> (repeat' (first | exact rfl | refine And.intro ?_ ?_))) rfl ⟨rfl, ?_⟩
    repeat (first | exact Ext.refl _ | refine Ext.alloc ?_ _ | refine Ext.ext ?_ _ _ | refine Ext.drew ?_ | refine Ext.drewN ?_ _)

set_option maxRecDepth 100000 in
set_option maxHeartbeats 1000000 in
theorem Self_dex (a x y s p : Int) (w : World) :
    Calls Try.prog 21 #[uv a x y s p, .int .u8 43] w fun e w' => e = .returned (uu (ldxU ⟨a, x, y, s, p⟩ (IntKind.u8.wrap (x - 1)))) ∧ Ext w w' := by
  have hx : ∀ w, (Instr.index 64 selfsV (.int .u8 8)).run Try.prog w = .ok (.func (.func 82) #[] #[]) w := fun _ => by kernel_rfl
  have hw : IntKind.u8.wrap 8 = 8 := rfl
  have F0 := selfs_any
  have F1 := dex_any
  unfold uu uv at F1
  have F2 := kind_any
  have r1 := ext_cell
  have r2 := ext_frozen
  have r3 := ext_setCell
  have r4 := ext_lt
  have r5 := ext_drew
  have r6 := ext_ext
  unfold uu uv
  go_enter Try.func21, Try.ntmps21
  go_upto_region 2 with (go_at_call 26; refine (F2 _ _).mono ?_; rintro e w' ⟨rfl, rfl⟩; unfold kindU)
  go_region_held3 (fun v => w.heap.size < v.heap.size ∧ v.cell? ⟨w.heap.size, 0, none⟩ = some (.int .u8 a) ∧ v.cell? ⟨w.heap.size, 1, none⟩ = some (.int .u8 x) ∧ v.cell? ⟨w.heap.size, 2, none⟩ = some (.int .u8 y) ∧ v.cell? ⟨w.heap.size, 3, none⟩ = some (.int .u8 s) ∧ v.cell? ⟨w.heap.size, 4, none⟩ = some (.int .u8 p)) (first | assumption | exact bx_ext (by assumption) _ _ | (simp [go_sem]; done) | (refine bx_ext ?_ _ _; simp [go_sem]; done)) (first | (go_at_call 37; refine (F0 _).mono ?_; rintro e w' ⟨rfl, os, q, rfl⟩) | (go_at_call 82; refine (F1 _ _ _ _ _  _).mono ?_; rintro e w' ⟨rfl, os, q, rfl⟩))
  all_goals
    go_wp2
    refine bodyPost_ret (by simp [results, Try.results21, go_sem, *] <;> (repeat' (first | exact rfl | refine And.intro ?_ ?_))) rfl ⟨rfl, ?_⟩
    repeat (first | exact Ext.refl _ | refine Ext.alloc ?_ _ | refine Ext.ext ?_ _ _ | refine Ext.drew ?_ | refine Ext.drewN ?_ _)

set_option maxRecDepth 100000 in
set_option maxHeartbeats 1000000 in
theorem Self_dey (a x y s p : Int) (w : World) :
    Calls Try.prog 21 #[uv a x y s p, .int .u8 44] w fun e w' => e = .returned (uu (ldyU ⟨a, x, y, s, p⟩ (IntKind.u8.wrap (y - 1)))) ∧ Ext w w' := by
  have hx : ∀ w, (Instr.index 64 selfsV (.int .u8 9)).run Try.prog w = .ok (.func (.func 83) #[] #[]) w := fun _ => by kernel_rfl
  have hw : IntKind.u8.wrap 9 = 9 := rfl
  have F0 := selfs_any
  have F1 := dey_any
  unfold uu uv at F1
  have F2 := kind_any
  have r1 := ext_cell
  have r2 := ext_frozen
  have r3 := ext_setCell
  have r4 := ext_lt
  have r5 := ext_drew
  have r6 := ext_ext
  unfold uu uv
  go_enter Try.func21, Try.ntmps21
  go_upto_region 2 with (go_at_call 26; refine (F2 _ _).mono ?_; rintro e w' ⟨rfl, rfl⟩; unfold kindU)
  go_region_held3 (fun v => w.heap.size < v.heap.size ∧ v.cell? ⟨w.heap.size, 0, none⟩ = some (.int .u8 a) ∧ v.cell? ⟨w.heap.size, 1, none⟩ = some (.int .u8 x) ∧ v.cell? ⟨w.heap.size, 2, none⟩ = some (.int .u8 y) ∧ v.cell? ⟨w.heap.size, 3, none⟩ = some (.int .u8 s) ∧ v.cell? ⟨w.heap.size, 4, none⟩ = some (.int .u8 p)) (first | assumption | exact bx_ext (by assumption) _ _ | (simp [go_sem]; done) | (refine bx_ext ?_ _ _; simp [go_sem]; done)) (first | (go_at_call 37; refine (F0 _).mono ?_; rintro e w' ⟨rfl, os, q, rfl⟩) | (go_at_call 83; refine (F1 _ _ _ _ _  _).mono ?_; rintro e w' ⟨rfl, os, q, rfl⟩))
  all_goals
    go_wp2
    refine bodyPost_ret (by simp [results, Try.results21, go_sem, *] <;> (repeat' (first | exact rfl | refine And.intro ?_ ?_))) rfl ⟨rfl, ?_⟩
    repeat (first | exact Ext.refl _ | refine Ext.alloc ?_ _ | refine Ext.ext ?_ _ _ | refine Ext.drew ?_ | refine Ext.drewN ?_ _)

set_option maxRecDepth 100000 in
set_option maxHeartbeats 1000000 in
theorem Self_clc (a x y s p : Int) (w : World) :
    Calls Try.prog 21 #[uv a x y s p, .int .u8 45] w fun e w' => e = .returned (uu (flU ⟨a, x, y, s, p⟩ 1 false)) ∧ Ext w w' := by
  have hx : ∀ w, (Instr.index 64 selfsV (.int .u8 10)).run Try.prog w = .ok (.func (.func 84) #[] #[]) w := fun _ => by kernel_rfl
  have hw : IntKind.u8.wrap 10 = 10 := rfl
  have F0 := selfs_any
  have F1 := clc_any
  unfold uu uv at F1
  have F2 := kind_any
  have r1 := ext_cell
  have r2 := ext_frozen
  have r3 := ext_setCell
  have r4 := ext_lt
  have r5 := ext_drew
  have r6 := ext_ext
  unfold uu uv
  go_enter Try.func21, Try.ntmps21
  go_upto_region 2 with (go_at_call 26; refine (F2 _ _).mono ?_; rintro e w' ⟨rfl, rfl⟩; unfold kindU)
  go_region_held3 (fun v => w.heap.size < v.heap.size ∧ v.cell? ⟨w.heap.size, 0, none⟩ = some (.int .u8 a) ∧ v.cell? ⟨w.heap.size, 1, none⟩ = some (.int .u8 x) ∧ v.cell? ⟨w.heap.size, 2, none⟩ = some (.int .u8 y) ∧ v.cell? ⟨w.heap.size, 3, none⟩ = some (.int .u8 s) ∧ v.cell? ⟨w.heap.size, 4, none⟩ = some (.int .u8 p)) (first | assumption | exact bx_ext (by assumption) _ _ | (simp [go_sem]; done) | (refine bx_ext ?_ _ _; simp [go_sem]; done)) (first | (go_at_call 37; refine (F0 _).mono ?_; rintro e w' ⟨rfl, os, q, rfl⟩) | (go_at_call 84; refine (F1 _ _ _ _ _  _).mono ?_; rintro e w' ⟨rfl, os, q, rfl⟩))
  all_goals
    go_wp2
    refine bodyPost_ret (by simp [results, Try.results21, go_sem, *] <;> (repeat' (first | exact rfl | refine And.intro ?_ ?_))) rfl ⟨rfl, ?_⟩
    repeat (first | exact Ext.refl _ | refine Ext.alloc ?_ _ | refine Ext.ext ?_ _ _ | refine Ext.drew ?_ | refine Ext.drewN ?_ _)

set_option maxRecDepth 100000 in
set_option maxHeartbeats 1000000 in
theorem Self_sec (a x y s p : Int) (w : World) :
    Calls Try.prog 21 #[uv a x y s p, .int .u8 46] w fun e w' => e = .returned (uu (flU ⟨a, x, y, s, p⟩ 1 true)) ∧ Ext w w' := by
  have hx : ∀ w, (Instr.index 64 selfsV (.int .u8 11)).run Try.prog w = .ok (.func (.func 85) #[] #[]) w := fun _ => by kernel_rfl
  have hw : IntKind.u8.wrap 11 = 11 := rfl
  have F0 := selfs_any
  have F1 := sec_any
  unfold uu uv at F1
  have F2 := kind_any
  have r1 := ext_cell
  have r2 := ext_frozen
  have r3 := ext_setCell
  have r4 := ext_lt
  have r5 := ext_drew
  have r6 := ext_ext
  unfold uu uv
  go_enter Try.func21, Try.ntmps21
  go_upto_region 2 with (go_at_call 26; refine (F2 _ _).mono ?_; rintro e w' ⟨rfl, rfl⟩; unfold kindU)
  go_region_held3 (fun v => w.heap.size < v.heap.size ∧ v.cell? ⟨w.heap.size, 0, none⟩ = some (.int .u8 a) ∧ v.cell? ⟨w.heap.size, 1, none⟩ = some (.int .u8 x) ∧ v.cell? ⟨w.heap.size, 2, none⟩ = some (.int .u8 y) ∧ v.cell? ⟨w.heap.size, 3, none⟩ = some (.int .u8 s) ∧ v.cell? ⟨w.heap.size, 4, none⟩ = some (.int .u8 p)) (first | assumption | exact bx_ext (by assumption) _ _ | (simp [go_sem]; done) | (refine bx_ext ?_ _ _; simp [go_sem]; done)) (first | (go_at_call 37; refine (F0 _).mono ?_; rintro e w' ⟨rfl, os, q, rfl⟩) | (go_at_call 85; refine (F1 _ _ _ _ _  _).mono ?_; rintro e w' ⟨rfl, os, q, rfl⟩))
  all_goals
    go_wp2
    refine bodyPost_ret (by simp [results, Try.results21, go_sem, *] <;> (repeat' (first | exact rfl | refine And.intro ?_ ?_))) rfl ⟨rfl, ?_⟩
    repeat (first | exact Ext.refl _ | refine Ext.alloc ?_ _ | refine Ext.ext ?_ _ _ | refine Ext.drew ?_ | refine Ext.drewN ?_ _)

set_option maxRecDepth 100000 in
set_option maxHeartbeats 1000000 in
theorem Self_cli (a x y s p : Int) (w : World) :
    Calls Try.prog 21 #[uv a x y s p, .int .u8 47] w fun e w' => e = .returned (uu (flU ⟨a, x, y, s, p⟩ 4 false)) ∧ Ext w w' := by
  have hx : ∀ w, (Instr.index 64 selfsV (.int .u8 12)).run Try.prog w = .ok (.func (.func 86) #[] #[]) w := fun _ => by kernel_rfl
  have hw : IntKind.u8.wrap 12 = 12 := rfl
  have F0 := selfs_any
  have F1 := cli_any
  unfold uu uv at F1
  have F2 := kind_any
  have r1 := ext_cell
  have r2 := ext_frozen
  have r3 := ext_setCell
  have r4 := ext_lt
  have r5 := ext_drew
  have r6 := ext_ext
  unfold uu uv
  go_enter Try.func21, Try.ntmps21
  go_upto_region 2 with (go_at_call 26; refine (F2 _ _).mono ?_; rintro e w' ⟨rfl, rfl⟩; unfold kindU)
  go_region_held3 (fun v => w.heap.size < v.heap.size ∧ v.cell? ⟨w.heap.size, 0, none⟩ = some (.int .u8 a) ∧ v.cell? ⟨w.heap.size, 1, none⟩ = some (.int .u8 x) ∧ v.cell? ⟨w.heap.size, 2, none⟩ = some (.int .u8 y) ∧ v.cell? ⟨w.heap.size, 3, none⟩ = some (.int .u8 s) ∧ v.cell? ⟨w.heap.size, 4, none⟩ = some (.int .u8 p)) (first | assumption | exact bx_ext (by assumption) _ _ | (simp [go_sem]; done) | (refine bx_ext ?_ _ _; simp [go_sem]; done)) (first | (go_at_call 37; refine (F0 _).mono ?_; rintro e w' ⟨rfl, os, q, rfl⟩) | (go_at_call 86; refine (F1 _ _ _ _ _  _).mono ?_; rintro e w' ⟨rfl, os, q, rfl⟩))
  all_goals
    go_wp2
    refine bodyPost_ret (by simp [results, Try.results21, go_sem, *] <;> (repeat' (first | exact rfl | refine And.intro ?_ ?_))) rfl ⟨rfl, ?_⟩
    repeat (first | exact Ext.refl _ | refine Ext.alloc ?_ _ | refine Ext.ext ?_ _ _ | refine Ext.drew ?_ | refine Ext.drewN ?_ _)

set_option maxRecDepth 100000 in
set_option maxHeartbeats 1000000 in
theorem Self_sei (a x y s p : Int) (w : World) :
    Calls Try.prog 21 #[uv a x y s p, .int .u8 48] w fun e w' => e = .returned (uu (flU ⟨a, x, y, s, p⟩ 4 true)) ∧ Ext w w' := by
  have hx : ∀ w, (Instr.index 64 selfsV (.int .u8 13)).run Try.prog w = .ok (.func (.func 87) #[] #[]) w := fun _ => by kernel_rfl
  have hw : IntKind.u8.wrap 13 = 13 := rfl
  have F0 := selfs_any
  have F1 := sei_any
  unfold uu uv at F1
  have F2 := kind_any
  have r1 := ext_cell
  have r2 := ext_frozen
  have r3 := ext_setCell
  have r4 := ext_lt
  have r5 := ext_drew
  have r6 := ext_ext
  unfold uu uv
  go_enter Try.func21, Try.ntmps21
  go_upto_region 2 with (go_at_call 26; refine (F2 _ _).mono ?_; rintro e w' ⟨rfl, rfl⟩; unfold kindU)
  go_region_held3 (fun v => w.heap.size < v.heap.size ∧ v.cell? ⟨w.heap.size, 0, none⟩ = some (.int .u8 a) ∧ v.cell? ⟨w.heap.size, 1, none⟩ = some (.int .u8 x) ∧ v.cell? ⟨w.heap.size, 2, none⟩ = some (.int .u8 y) ∧ v.cell? ⟨w.heap.size, 3, none⟩ = some (.int .u8 s) ∧ v.cell? ⟨w.heap.size, 4, none⟩ = some (.int .u8 p)) (first | assumption | exact bx_ext (by assumption) _ _ | (simp [go_sem]; done) | (refine bx_ext ?_ _ _; simp [go_sem]; done)) (first | (go_at_call 37; refine (F0 _).mono ?_; rintro e w' ⟨rfl, os, q, rfl⟩) | (go_at_call 87; refine (F1 _ _ _ _ _  _).mono ?_; rintro e w' ⟨rfl, os, q, rfl⟩))
  all_goals
    go_wp2
    refine bodyPost_ret (by simp [results, Try.results21, go_sem, *] <;> (repeat' (first | exact rfl | refine And.intro ?_ ?_))) rfl ⟨rfl, ?_⟩
    repeat (first | exact Ext.refl _ | refine Ext.alloc ?_ _ | refine Ext.ext ?_ _ _ | refine Ext.drew ?_ | refine Ext.drewN ?_ _)

set_option maxRecDepth 100000 in
set_option maxHeartbeats 1000000 in
theorem Self_clv (a x y s p : Int) (w : World) :
    Calls Try.prog 21 #[uv a x y s p, .int .u8 49] w fun e w' => e = .returned (uu (flU ⟨a, x, y, s, p⟩ 64 false)) ∧ Ext w w' := by
  have hx : ∀ w, (Instr.index 64 selfsV (.int .u8 14)).run Try.prog w = .ok (.func (.func 88) #[] #[]) w := fun _ => by kernel_rfl
  have hw : IntKind.u8.wrap 14 = 14 := rfl
  have F0 := selfs_any
  have F1 := clv_any
  unfold uu uv at F1
  have F2 := kind_any
  have r1 := ext_cell
  have r2 := ext_frozen
  have r3 := ext_setCell
  have r4 := ext_lt
  have r5 := ext_drew
  have r6 := ext_ext
  unfold uu uv
  go_enter Try.func21, Try.ntmps21
  go_upto_region 2 with (go_at_call 26; refine (F2 _ _).mono ?_; rintro e w' ⟨rfl, rfl⟩; unfold kindU)
  go_region_held3 (fun v => w.heap.size < v.heap.size ∧ v.cell? ⟨w.heap.size, 0, none⟩ = some (.int .u8 a) ∧ v.cell? ⟨w.heap.size, 1, none⟩ = some (.int .u8 x) ∧ v.cell? ⟨w.heap.size, 2, none⟩ = some (.int .u8 y) ∧ v.cell? ⟨w.heap.size, 3, none⟩ = some (.int .u8 s) ∧ v.cell? ⟨w.heap.size, 4, none⟩ = some (.int .u8 p)) (first | assumption | exact bx_ext (by assumption) _ _ | (simp [go_sem]; done) | (refine bx_ext ?_ _ _; simp [go_sem]; done)) (first | (go_at_call 37; refine (F0 _).mono ?_; rintro e w' ⟨rfl, os, q, rfl⟩) | (go_at_call 88; refine (F1 _ _ _ _ _  _).mono ?_; rintro e w' ⟨rfl, os, q, rfl⟩))
  all_goals
    go_wp2
    refine bodyPost_ret (by simp [results, Try.results21, go_sem, *] <;> (repeat' (first | exact rfl | refine And.intro ?_ ?_))) rfl ⟨rfl, ?_⟩
    repeat (first | exact Ext.refl _ | refine Ext.alloc ?_ _ | refine Ext.ext ?_ _ _ | refine Ext.drew ?_ | refine Ext.drewN ?_ _)

set_option maxRecDepth 100000 in
set_option maxHeartbeats 1000000 in
theorem Self_cld (a x y s p : Int) (w : World) :
    Calls Try.prog 21 #[uv a x y s p, .int .u8 50] w fun e w' => e = .returned (uu (flU ⟨a, x, y, s, p⟩ 8 false)) ∧ Ext w w' := by
  have hx : ∀ w, (Instr.index 64 selfsV (.int .u8 15)).run Try.prog w = .ok (.func (.func 89) #[] #[]) w := fun _ => by kernel_rfl
  have hw : IntKind.u8.wrap 15 = 15 := rfl
  have F0 := selfs_any
  have F1 := cld_any
  unfold uu uv at F1
  have F2 := kind_any
  have r1 := ext_cell
  have r2 := ext_frozen
  have r3 := ext_setCell
  have r4 := ext_lt
  have r5 := ext_drew
  have r6 := ext_ext
  unfold uu uv
  go_enter Try.func21, Try.ntmps21
  go_upto_region 2 with (go_at_call 26; refine (F2 _ _).mono ?_; rintro e w' ⟨rfl, rfl⟩; unfold kindU)
  go_region_held3 (fun v => w.heap.size < v.heap.size ∧ v.cell? ⟨w.heap.size, 0, none⟩ = some (.int .u8 a) ∧ v.cell? ⟨w.heap.size, 1, none⟩ = some (.int .u8 x) ∧ v.cell? ⟨w.heap.size, 2, none⟩ = some (.int .u8 y) ∧ v.cell? ⟨w.heap.size, 3, none⟩ = some (.int .u8 s) ∧ v.cell? ⟨w.heap.size, 4, none⟩ = some (.int .u8 p)) (first | assumption | exact bx_ext (by assumption) _ _ | (simp [go_sem]; done) | (refine bx_ext ?_ _ _; simp [go_sem]; done)) (first | (go_at_call 37; refine (F0 _).mono ?_; rintro e w' ⟨rfl, os, q, rfl⟩) | (go_at_call 89; refine (F1 _ _ _ _ _  _).mono ?_; rintro e w' ⟨rfl, os, q, rfl⟩))
  all_goals
    go_wp2
    refine bodyPost_ret (by simp [results, Try.results21, go_sem, *] <;> (repeat' (first | exact rfl | refine And.intro ?_ ?_))) rfl ⟨rfl, ?_⟩
    repeat (first | exact Ext.refl _ | refine Ext.alloc ?_ _ | refine Ext.ext ?_ _ _ | refine Ext.drew ?_ | refine Ext.drewN ?_ _)

set_option maxRecDepth 100000 in
set_option maxHeartbeats 1000000 in
theorem Self_sed (a x y s p : Int) (w : World) :
    Calls Try.prog 21 #[uv a x y s p, .int .u8 51] w fun e w' => e = .returned (uu (flU ⟨a, x, y, s, p⟩ 8 true)) ∧ Ext w w' := by
  have hx : ∀ w, (Instr.index 64 selfsV (.int .u8 16)).run Try.prog w = .ok (.func (.func 90) #[] #[]) w := fun _ => by kernel_rfl
  have hw : IntKind.u8.wrap 16 = 16 := rfl
  have F0 := selfs_any
  have F1 := sed_any
  unfold uu uv at F1
  have F2 := kind_any
  have r1 := ext_cell
  have r2 := ext_frozen
  have r3 := ext_setCell
  have r4 := ext_lt
  have r5 := ext_drew
  have r6 := ext_ext
  unfold uu uv
  go_enter Try.func21, Try.ntmps21
  go_upto_region 2 with (go_at_call 26; refine (F2 _ _).mono ?_; rintro e w' ⟨rfl, rfl⟩; unfold kindU)
  go_region_held3 (fun v => w.heap.size < v.heap.size ∧ v.cell? ⟨w.heap.size, 0, none⟩ = some (.int .u8 a) ∧ v.cell? ⟨w.heap.size, 1, none⟩ = some (.int .u8 x) ∧ v.cell? ⟨w.heap.size, 2, none⟩ = some (.int .u8 y) ∧ v.cell? ⟨w.heap.size, 3, none⟩ = some (.int .u8 s) ∧ v.cell? ⟨w.heap.size, 4, none⟩ = some (.int .u8 p)) (first | assumption | exact bx_ext (by assumption) _ _ | (simp [go_sem]; done) | (refine bx_ext ?_ _ _; simp [go_sem]; done)) (first | (go_at_call 37; refine (F0 _).mono ?_; rintro e w' ⟨rfl, os, q, rfl⟩) | (go_at_call 90; refine (F1 _ _ _ _ _  _).mono ?_; rintro e w' ⟨rfl, os, q, rfl⟩))
  all_goals
    go_wp2
    refine bodyPost_ret (by simp [results, Try.results21, go_sem, *] <;> (repeat' (first | exact rfl | refine And.intro ?_ ?_))) rfl ⟨rfl, ?_⟩
    repeat (first | exact Ext.refl _ | refine Ext.alloc ?_ _ | refine Ext.ext ?_ _ _ | refine Ext.drew ?_ | refine Ext.drewN ?_ _)

end Go.Proofs.Ytigpmmjbdpnkjaa
