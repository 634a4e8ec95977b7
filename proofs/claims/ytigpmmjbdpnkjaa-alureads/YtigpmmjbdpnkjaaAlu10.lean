/- Contracts of package alu: operations of other kinds; a turn of A. No law is claimed here. -/
import Derived.Test.YtigpmmjbdpnkjaaAlu5
import Derived.Test.YtigpmmjbdpnkjaaAlu6
namespace Go.Proofs.Ytigpmmjbdpnkjaa
open Go.RowKit

set_option maxRecDepth 100000 in
set_option maxHeartbeats 1000000 in
theorem Read_other (a x y s p op m : Int) (w : World) (hk : kindU op ≠ 1) :
    Calls Try.prog 18 #[uv a x y s p, .int .u8 op, .int .u8 m] w fun e w' => e = .returned (uu ⟨a, x, y, s, p⟩) ∧ Ext w w' := by
  have F2 := kind_any
  have r1 := ext_cell
  have r2 := ext_frozen
  have r3 := ext_setCell
  have r4 := ext_lt
  have r5 := ext_drew
  have r6 := ext_ext
  unfold uu uv
  go_enter Try.func18, Try.ntmps18
  go_wp2_with (go_at_call 26; refine (F2 _ _).mono ?_; rintro e w' ⟨rfl, rfl⟩)
  all_goals
    refine bodyPost_ret (by simp [results, Try.results18, go_sem]) rfl ⟨rfl, ?_⟩
    repeat (first | exact Ext.refl _ | refine Ext.alloc ?_ _ | refine Ext.ext ?_ _ _ | refine Ext.drew ?_ | refine Ext.drewN ?_ _)

set_option maxRecDepth 100000 in
set_option maxHeartbeats 1000000 in
theorem Change_other (a x y s p op m : Int) (w : World) (hk : kindU op ≠ 2) :
    Calls Try.prog 20 #[uv a x y s p, .int .u8 op, .int .u8 m] w fun e w' => e = .returned (.tuple #[uu ⟨a, x, y, s, p⟩, .int .u8 m]) ∧ Ext w w' := by
  have F2 := kind_any
  have r1 := ext_cell
  have r2 := ext_frozen
  have r3 := ext_setCell
  have r4 := ext_lt
  have r5 := ext_drew
  have r6 := ext_ext
  unfold uu uv
  go_enter Try.func20, Try.ntmps20
  go_wp2_with (go_at_call 26; refine (F2 _ _).mono ?_; rintro e w' ⟨rfl, rfl⟩)
  all_goals
    refine bodyPost_ret (by simp [results, Try.results20, go_sem]) rfl ⟨rfl, ?_⟩
    repeat (first | exact Ext.refl _ | refine Ext.alloc ?_ _ | refine Ext.ext ?_ _ _ | refine Ext.drew ?_ | refine Ext.drewN ?_ _)

set_option maxRecDepth 100000 in
set_option maxHeartbeats 1000000 in
theorem Self_other (a x y s p op : Int) (w : World) (hk : kindU op ≠ 4) (hl : ¬ 19 ≤ op ∨ ¬ op ≤ 22) :
    Calls Try.prog 21 #[uv a x y s p, .int .u8 op] w fun e w' => e = .returned (uu ⟨a, x, y, s, p⟩) ∧ Ext w w' := by
  have F2 := kind_any
  have r1 := ext_cell
  have r2 := ext_frozen
  have r3 := ext_setCell
  have r4 := ext_lt
  have r5 := ext_drew
  have r6 := ext_ext
  unfold uu uv
  go_enter Try.func21, Try.ntmps21
  go_wp2_with (go_at_call 26; refine (F2 _ _).mono ?_; rintro e w' ⟨rfl, rfl⟩)
  all_goals
    refine bodyPost_ret (by simp [results, Try.results21, go_sem]) rfl ⟨rfl, ?_⟩
    repeat (first | exact Ext.refl _ | refine Ext.alloc ?_ _ | refine Ext.ext ?_ _ _ | refine Ext.drew ?_ | refine Ext.drewN ?_ _)

set_option maxRecDepth 100000 in
set_option maxHeartbeats 1000000 in
theorem Self_asl (a x y s p : Int) (w : World) :
    Calls Try.prog 21 #[uv a x y s p, .int .u8 19] w fun e w' => e = .returned (uu { (leftU ⟨a, x, y, s, p⟩ a 0).1 with a := (leftU ⟨a, x, y, s, p⟩ a 0).2 }) ∧ Ext w w' := by
  have hx : ∀ w, (Instr.index 61 changesV (.int .u8 0)).run Try.prog w = .ok (.func (.func 62) #[] #[]) w := fun _ => by kernel_rfl
  have hw : IntKind.u8.wrap 0 = 0 := rfl
  have F0 := changes_any
  have F1 := onA_asl
  unfold uu uv at F1
  have F2 := kind_any
  have r1 := ext_cell
  have r2 := ext_frozen
  have r3 := ext_setCell
  have r4 := ext_lt
  have r5 := ext_drew
  have r6 := ext_ext
  unfold uu uv
  go_enter Try.func21, Try.ntmps21
  go_upto_region 4 with (go_at_call 26; refine (F2 _ _).mono ?_; rintro e w' ⟨rfl, rfl⟩; unfold kindU)
  go_region_held3 (fun v => w.heap.size < v.heap.size ∧ v.cell? ⟨w.heap.size, 0, none⟩ = some (.int .u8 a) ∧ v.cell? ⟨w.heap.size, 1, none⟩ = some (.int .u8 x) ∧ v.cell? ⟨w.heap.size, 2, none⟩ = some (.int .u8 y) ∧ v.cell? ⟨w.heap.size, 3, none⟩ = some (.int .u8 s) ∧ v.cell? ⟨w.heap.size, 4, none⟩ = some (.int .u8 p)) (first | assumption | exact bx_ext (by assumption) _ _ | (simp [go_sem]; done) | (refine bx_ext ?_ _ _; simp [go_sem]; done)) (first | (go_at_call 36; refine (F0 _).mono ?_; rintro e w' ⟨rfl, os, q, rfl⟩) | (go_at_call 38; refine (F1 _ _ _ _ _ _).mono ?_; rintro e w' ⟨rfl, os, q, rfl⟩))
  all_goals
    go_wp2
    refine bodyPost_ret (by simp [results, Try.results21, go_sem, *] <;> (repeat' (first | exact rfl | refine And.intro ?_ ?_))) rfl ⟨rfl, ?_⟩
    repeat (first | exact Ext.refl _ | refine Ext.alloc ?_ _ | refine Ext.ext ?_ _ _ | refine Ext.drew ?_ | refine Ext.drewN ?_ _)

set_option maxRecDepth 100000 in
set_option maxHeartbeats 1000000 in
theorem Self_lsr (a x y s p : Int) (w : World) :
    Calls Try.prog 21 #[uv a x y s p, .int .u8 20] w fun e w' => e = .returned (uu { (rightU ⟨a, x, y, s, p⟩ a 0).1 with a := (rightU ⟨a, x, y, s, p⟩ a 0).2 }) ∧ Ext w w' := by
  have hx : ∀ w, (Instr.index 61 changesV (.int .u8 1)).run Try.prog w = .ok (.func (.func 63) #[] #[]) w := fun _ => by kernel_rfl
  have hw : IntKind.u8.wrap 1 = 1 := rfl
  have F0 := changes_any
  have F1 := onA_lsr
  unfold uu uv at F1
  have F2 := kind_any
  have r1 := ext_cell
  have r2 := ext_frozen
  have r3 := ext_setCell
  have r4 := ext_lt
  have r5 := ext_drew
  have r6 := ext_ext
  unfold uu uv
  go_enter Try.func21, Try.ntmps21
  go_upto_region 4 with (go_at_call 26; refine (F2 _ _).mono ?_; rintro e w' ⟨rfl, rfl⟩; unfold kindU)
  go_region_held3 (fun v => w.heap.size < v.heap.size ∧ v.cell? ⟨w.heap.size, 0, none⟩ = some (.int .u8 a) ∧ v.cell? ⟨w.heap.size, 1, none⟩ = some (.int .u8 x) ∧ v.cell? ⟨w.heap.size, 2, none⟩ = some (.int .u8 y) ∧ v.cell? ⟨w.heap.size, 3, none⟩ = some (.int .u8 s) ∧ v.cell? ⟨w.heap.size, 4, none⟩ = some (.int .u8 p)) (first | assumption | exact bx_ext (by assumption) _ _ | (simp [go_sem]; done) | (refine bx_ext ?_ _ _; simp [go_sem]; done)) (first | (go_at_call 36; refine (F0 _).mono ?_; rintro e w' ⟨rfl, os, q, rfl⟩) | (go_at_call 38; refine (F1 _ _ _ _ _ _).mono ?_; rintro e w' ⟨rfl, os, q, rfl⟩))
  all_goals
    go_wp2
    refine bodyPost_ret (by simp [results, Try.results21, go_sem, *] <;> (repeat' (first | exact rfl | refine And.intro ?_ ?_))) rfl ⟨rfl, ?_⟩
    repeat (first | exact Ext.refl _ | refine Ext.alloc ?_ _ | refine Ext.ext ?_ _ _ | refine Ext.drew ?_ | refine Ext.drewN ?_ _)

set_option maxRecDepth 100000 in
set_option maxHeartbeats 1000000 in
theorem Self_rol (a x y s p : Int) (w : World) :
    Calls Try.prog 21 #[uv a x y s p, .int .u8 21] w fun e w' => e = .returned (uu { (leftU ⟨a, x, y, s, p⟩ a (bits .and .u8 p 1)).1 with a := (leftU ⟨a, x, y, s, p⟩ a (bits .and .u8 p 1)).2 }) ∧ Ext w w' := by
  have hx : ∀ w, (Instr.index 61 changesV (.int .u8 2)).run Try.prog w = .ok (.func (.func 64) #[] #[]) w := fun _ => by kernel_rfl
  have hw : IntKind.u8.wrap 2 = 2 := rfl
  have F0 := changes_any
  have F1 := onA_rol
  unfold uu uv at F1
  have F2 := kind_any
  have r1 := ext_cell
  have r2 := ext_frozen
  have r3 := ext_setCell
  have r4 := ext_lt
  have r5 := ext_drew
  have r6 := ext_ext
  unfold uu uv
  go_enter Try.func21, Try.ntmps21
  go_upto_region 4 with (go_at_call 26; refine (F2 _ _).mono ?_; rintro e w' ⟨rfl, rfl⟩; unfold kindU)
  go_region_held3 (fun v => w.heap.size < v.heap.size ∧ v.cell? ⟨w.heap.size, 0, none⟩ = some (.int .u8 a) ∧ v.cell? ⟨w.heap.size, 1, none⟩ = some (.int .u8 x) ∧ v.cell? ⟨w.heap.size, 2, none⟩ = some (.int .u8 y) ∧ v.cell? ⟨w.heap.size, 3, none⟩ = some (.int .u8 s) ∧ v.cell? ⟨w.heap.size, 4, none⟩ = some (.int .u8 p)) (first | assumption | exact bx_ext (by assumption) _ _ | (simp [go_sem]; done) | (refine bx_ext ?_ _ _; simp [go_sem]; done)) (first | (go_at_call 36; refine (F0 _).mono ?_; rintro e w' ⟨rfl, os, q, rfl⟩) | (go_at_call 38; refine (F1 _ _ _ _ _ _).mono ?_; rintro e w' ⟨rfl, os, q, rfl⟩))
  all_goals
    go_wp2
    refine bodyPost_ret (by simp [results, Try.results21, go_sem, *] <;> (repeat' (first | exact rfl | refine And.intro ?_ ?_))) rfl ⟨rfl, ?_⟩
    repeat (first | exact Ext.refl _ | refine Ext.alloc ?_ _ | refine Ext.ext ?_ _ _ | refine Ext.drew ?_ | refine Ext.drewN ?_ _)

set_option maxRecDepth 100000 in
set_option maxHeartbeats 1000000 in
theorem Self_ror (a x y s p : Int) (w : World) :
    Calls Try.prog 21 #[uv a x y s p, .int .u8 22] w fun e w' => e = .returned (uu { (rightU ⟨a, x, y, s, p⟩ a (bits .and .u8 p 1)).1 with a := (rightU ⟨a, x, y, s, p⟩ a (bits .and .u8 p 1)).2 }) ∧ Ext w w' := by
  have hx : ∀ w, (Instr.index 61 changesV (.int .u8 3)).run Try.prog w = .ok (.func (.func 65) #[] #[]) w := fun _ => by kernel_rfl
  have hw : IntKind.u8.wrap 3 = 3 := rfl
  have F0 := changes_any
  have F1 := onA_ror
  unfold uu uv at F1
  have F2 := kind_any
  have r1 := ext_cell
  have r2 := ext_frozen
  have r3 := ext_setCell
  have r4 := ext_lt
  have r5 := ext_drew
  have r6 := ext_ext
  unfold uu uv
  go_enter Try.func21, Try.ntmps21
  go_upto_region 4 with (go_at_call 26; refine (F2 _ _).mono ?_; rintro e w' ⟨rfl, rfl⟩; unfold kindU)
  go_region_held3 (fun v => w.heap.size < v.heap.size ∧ v.cell? ⟨w.heap.size, 0, none⟩ = some (.int .u8 a) ∧ v.cell? ⟨w.heap.size, 1, none⟩ = some (.int .u8 x) ∧ v.cell? ⟨w.heap.size, 2, none⟩ = some (.int .u8 y) ∧ v.cell? ⟨w.heap.size, 3, none⟩ = some (.int .u8 s) ∧ v.cell? ⟨w.heap.size, 4, none⟩ = some (.int .u8 p)) (first | assumption | exact bx_ext (by assumption) _ _ | (simp [go_sem]; done) | (refine bx_ext ?_ _ _; simp [go_sem]; done)) (first | (go_at_call 36; refine (F0 _).mono ?_; rintro e w' ⟨rfl, os, q, rfl⟩) | (go_at_call 38; refine (F1 _ _ _ _ _ _).mono ?_; rintro e w' ⟨rfl, os, q, rfl⟩))
  all_goals
    go_wp2
    refine bodyPost_ret (by simp [results, Try.results21, go_sem, *] <;> (repeat' (first | exact rfl | refine And.intro ?_ ?_))) rfl ⟨rfl, ?_⟩
    repeat (first | exact Ext.refl _ | refine Ext.alloc ?_ _ | refine Ext.ext ?_ _ _ | refine Ext.drew ?_ | refine Ext.drewN ?_ _)

end Go.Proofs.Ytigpmmjbdpnkjaa
