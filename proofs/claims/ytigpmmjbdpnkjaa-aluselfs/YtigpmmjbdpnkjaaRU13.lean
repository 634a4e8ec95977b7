/- The document's operations of registers alone (kotatsuref08.Self): flags. No law is claimed here. -/
import Derived.Test.YtigpmmjbdpnkjaaRU10
import Derived.Test.YtigpmmjbdpnkjaaRU8
namespace Go.Proofs.Ytigpmmjbdpnkjaa
open Go.RowKit

set_option maxRecDepth 100000 in
set_option maxHeartbeats 2000000 in
theorem rself_clc (a x y s p : Int) (hp : 0 ≤ p ∧ p < 256) (w : World) :
    Calls Try.prog 22 #[rv a x y s p, .string { data := #[67, 76, 67] }] w fun e w' => e = .returned (rr (flU ⟨a, x, y, s, p⟩ 1 false)) ∧ Ext w w' := by
  obtain ⟨V, hV⟩ : ∃ V, V = flU ⟨a, x, y, s, p⟩ 1 false := ⟨_, rfl⟩
  have FF := rflag_C
  have FS : ∀ w, Calls Try.prog 32 #[.agg #[.int .i64 a, .int .i64 x, .int .i64 y, .int .i64 s, .int .i64 p], .int .i64 1, .int .i64 0] w fun e w' => e = .returned (.agg #[.int .i64 V.a, .int .i64 V.x, .int .i64 V.y, .int .i64 V.s, .int .i64 V.p]) ∧ Ext w w' := by
    subst hV; exact fun w => rset_any a x y s p 1 0 hp.1 hp.2 rfl (by decide) (by decide) w
  have HV : Hid (rr (flU ⟨a, x, y, s, p⟩ 1 false) = .agg #[.int .i64 V.a, .int .i64 V.x, .int .i64 V.y, .int .i64 V.s, .int .i64 V.p]) := by subst hV; exact rfl
  rw [HV.out]
  clear HV hV hp
  have x2 : ∀ w, (Instr.index 9 (.string { data := #[67, 76, 67] }) (.int .i64 2)).run Try.prog w = .ok (.int .u8 67) w := fun _ => by kernel_rfl
  have r1 := ext_cell
  have r2 := ext_frozen
  have r3 := ext_setCell
  have r4 := ext_lt
  have r5 := ext_drew
  have r6 := ext_ext
  unfold rv
  go_enter Try.func22, Try.ntmps22
  go_upto_region 30 with (fail)
  go_region_held3 (fun v => w.heap.size < v.heap.size ∧ v.cell? ⟨w.heap.size, 0, none⟩ = some (.int .i64 a) ∧ v.cell? ⟨w.heap.size, 1, none⟩ = some (.int .i64 x) ∧ v.cell? ⟨w.heap.size, 2, none⟩ = some (.int .i64 y) ∧ v.cell? ⟨w.heap.size, 3, none⟩ = some (.int .i64 s) ∧ v.cell? ⟨w.heap.size, 4, none⟩ = some (.int .i64 p)) (first | assumption | exact bx_ext (by assumption) _ _ | (simp [go_sem]; done) | (refine bx_ext ?_ _ _; simp [go_sem]; done)) (first | (go_at_call 41; refine (FF _).mono ?_; rintro e w' ⟨rfl, rfl⟩) | (go_at_call 32; refine (FS _).mono ?_; rintro e w' ⟨rfl, os, q, rfl⟩))
  all_goals
    go_wp2
    refine bodyPost_ret (by simp [results, Try.results22, go_sem, *] <;> (repeat' (first | exact rfl | refine And.intro ?_ ?_))) rfl ⟨rfl, ?_⟩
    repeat (first | exact Ext.refl _ | refine Ext.alloc ?_ _ | refine Ext.ext ?_ _ _ | refine Ext.drew ?_ | refine Ext.drewN ?_ _)

set_option maxRecDepth 100000 in
set_option maxHeartbeats 2000000 in
theorem rself_cli (a x y s p : Int) (hp : 0 ≤ p ∧ p < 256) (w : World) :
    Calls Try.prog 22 #[rv a x y s p, .string { data := #[67, 76, 73] }] w fun e w' => e = .returned (rr (flU ⟨a, x, y, s, p⟩ 4 false)) ∧ Ext w w' := by
  obtain ⟨V, hV⟩ : ∃ V, V = flU ⟨a, x, y, s, p⟩ 4 false := ⟨_, rfl⟩
  have FF := rflag_I
  have FS : ∀ w, Calls Try.prog 32 #[.agg #[.int .i64 a, .int .i64 x, .int .i64 y, .int .i64 s, .int .i64 p], .int .i64 4, .int .i64 0] w fun e w' => e = .returned (.agg #[.int .i64 V.a, .int .i64 V.x, .int .i64 V.y, .int .i64 V.s, .int .i64 V.p]) ∧ Ext w w' := by
    subst hV; exact fun w => rset_any a x y s p 4 0 hp.1 hp.2 rfl (by decide) (by decide) w
  have HV : Hid (rr (flU ⟨a, x, y, s, p⟩ 4 false) = .agg #[.int .i64 V.a, .int .i64 V.x, .int .i64 V.y, .int .i64 V.s, .int .i64 V.p]) := by subst hV; exact rfl
  rw [HV.out]
  clear HV hV hp
  have x2 : ∀ w, (Instr.index 9 (.string { data := #[67, 76, 73] }) (.int .i64 2)).run Try.prog w = .ok (.int .u8 73) w := fun _ => by kernel_rfl
  have r1 := ext_cell
  have r2 := ext_frozen
  have r3 := ext_setCell
  have r4 := ext_lt
  have r5 := ext_drew
  have r6 := ext_ext
  unfold rv
  go_enter Try.func22, Try.ntmps22
  go_upto_region 30 with (fail)
  go_region_held3 (fun v => w.heap.size < v.heap.size ∧ v.cell? ⟨w.heap.size, 0, none⟩ = some (.int .i64 a) ∧ v.cell? ⟨w.heap.size, 1, none⟩ = some (.int .i64 x) ∧ v.cell? ⟨w.heap.size, 2, none⟩ = some (.int .i64 y) ∧ v.cell? ⟨w.heap.size, 3, none⟩ = some (.int .i64 s) ∧ v.cell? ⟨w.heap.size, 4, none⟩ = some (.int .i64 p)) (first | assumption | exact bx_ext (by assumption) _ _ | (simp [go_sem]; done) | (refine bx_ext ?_ _ _; simp [go_sem]; done)) (first | (go_at_call 41; refine (FF _).mono ?_; rintro e w' ⟨rfl, rfl⟩) | (go_at_call 32; refine (FS _).mono ?_; rintro e w' ⟨rfl, os, q, rfl⟩))
  all_goals
    go_wp2
    refine bodyPost_ret (by simp [results, Try.results22, go_sem, *] <;> (repeat' (first | exact rfl | refine And.intro ?_ ?_))) rfl ⟨rfl, ?_⟩
    repeat (first | exact Ext.refl _ | refine Ext.alloc ?_ _ | refine Ext.ext ?_ _ _ | refine Ext.drew ?_ | refine Ext.drewN ?_ _)

set_option maxRecDepth 100000 in
set_option maxHeartbeats 2000000 in
theorem rself_clv (a x y s p : Int) (hp : 0 ≤ p ∧ p < 256) (w : World) :
    Calls Try.prog 22 #[rv a x y s p, .string { data := #[67, 76, 86] }] w fun e w' => e = .returned (rr (flU ⟨a, x, y, s, p⟩ 64 false)) ∧ Ext w w' := by
  obtain ⟨V, hV⟩ : ∃ V, V = flU ⟨a, x, y, s, p⟩ 64 false := ⟨_, rfl⟩
  have FF := rflag_V
  have FS : ∀ w, Calls Try.prog 32 #[.agg #[.int .i64 a, .int .i64 x, .int .i64 y, .int .i64 s, .int .i64 p], .int .i64 64, .int .i64 0] w fun e w' => e = .returned (.agg #[.int .i64 V.a, .int .i64 V.x, .int .i64 V.y, .int .i64 V.s, .int .i64 V.p]) ∧ Ext w w' := by
    subst hV; exact fun w => rset_any a x y s p 64 0 hp.1 hp.2 rfl (by decide) (by decide) w
  have HV : Hid (rr (flU ⟨a, x, y, s, p⟩ 64 false) = .agg #[.int .i64 V.a, .int .i64 V.x, .int .i64 V.y, .int .i64 V.s, .int .i64 V.p]) := by subst hV; exact rfl
  rw [HV.out]
  clear HV hV hp
  have x2 : ∀ w, (Instr.index 9 (.string { data := #[67, 76, 86] }) (.int .i64 2)).run Try.prog w = .ok (.int .u8 86) w := fun _ => by kernel_rfl
  have r1 := ext_cell
  have r2 := ext_frozen
  have r3 := ext_setCell
  have r4 := ext_lt
  have r5 := ext_drew
  have r6 := ext_ext
  unfold rv
  go_enter Try.func22, Try.ntmps22
  go_upto_region 30 with (fail)
  go_region_held3 (fun v => w.heap.size < v.heap.size ∧ v.cell? ⟨w.heap.size, 0, none⟩ = some (.int .i64 a) ∧ v.cell? ⟨w.heap.size, 1, none⟩ = some (.int .i64 x) ∧ v.cell? ⟨w.heap.size, 2, none⟩ = some (.int .i64 y) ∧ v.cell? ⟨w.heap.size, 3, none⟩ = some (.int .i64 s) ∧ v.cell? ⟨w.heap.size, 4, none⟩ = some (.int .i64 p)) (first | assumption | exact bx_ext (by assumption) _ _ | (simp [go_sem]; done) | (refine bx_ext ?_ _ _; simp [go_sem]; done)) (first | (go_at_call 41; refine (FF _).mono ?_; rintro e w' ⟨rfl, rfl⟩) | (go_at_call 32; refine (FS _).mono ?_; rintro e w' ⟨rfl, os, q, rfl⟩))
  all_goals
    go_wp2
    refine bodyPost_ret (by simp [results, Try.results22, go_sem, *] <;> (repeat' (first | exact rfl | refine And.intro ?_ ?_))) rfl ⟨rfl, ?_⟩
    repeat (first | exact Ext.refl _ | refine Ext.alloc ?_ _ | refine Ext.ext ?_ _ _ | refine Ext.drew ?_ | refine Ext.drewN ?_ _)

set_option maxRecDepth 100000 in
set_option maxHeartbeats 2000000 in
theorem rself_cld (a x y s p : Int) (hp : 0 ≤ p ∧ p < 256) (w : World) :
    Calls Try.prog 22 #[rv a x y s p, .string { data := #[67, 76, 68] }] w fun e w' => e = .returned (rr (flU ⟨a, x, y, s, p⟩ 8 false)) ∧ Ext w w' := by
  obtain ⟨V, hV⟩ : ∃ V, V = flU ⟨a, x, y, s, p⟩ 8 false := ⟨_, rfl⟩
  have FF := rflag_D
  have FS : ∀ w, Calls Try.prog 32 #[.agg #[.int .i64 a, .int .i64 x, .int .i64 y, .int .i64 s, .int .i64 p], .int .i64 8, .int .i64 0] w fun e w' => e = .returned (.agg #[.int .i64 V.a, .int .i64 V.x, .int .i64 V.y, .int .i64 V.s, .int .i64 V.p]) ∧ Ext w w' := by
    subst hV; exact fun w => rset_any a x y s p 8 0 hp.1 hp.2 rfl (by decide) (by decide) w
  have HV : Hid (rr (flU ⟨a, x, y, s, p⟩ 8 false) = .agg #[.int .i64 V.a, .int .i64 V.x, .int .i64 V.y, .int .i64 V.s, .int .i64 V.p]) := by subst hV; exact rfl
  rw [HV.out]
  clear HV hV hp
  have x2 : ∀ w, (Instr.index 9 (.string { data := #[67, 76, 68] }) (.int .i64 2)).run Try.prog w = .ok (.int .u8 68) w := fun _ => by kernel_rfl
  have r1 := ext_cell
  have r2 := ext_frozen
  have r3 := ext_setCell
  have r4 := ext_lt
  have r5 := ext_drew
  have r6 := ext_ext
  unfold rv
  go_enter Try.func22, Try.ntmps22
  go_upto_region 30 with (fail)
  go_region_held3 (fun v => w.heap.size < v.heap.size ∧ v.cell? ⟨w.heap.size, 0, none⟩ = some (.int .i64 a) ∧ v.cell? ⟨w.heap.size, 1, none⟩ = some (.int .i64 x) ∧ v.cell? ⟨w.heap.size, 2, none⟩ = some (.int .i64 y) ∧ v.cell? ⟨w.heap.size, 3, none⟩ = some (.int .i64 s) ∧ v.cell? ⟨w.heap.size, 4, none⟩ = some (.int .i64 p)) (first | assumption | exact bx_ext (by assumption) _ _ | (simp [go_sem]; done) | (refine bx_ext ?_ _ _; simp [go_sem]; done)) (first | (go_at_call 41; refine (FF _).mono ?_; rintro e w' ⟨rfl, rfl⟩) | (go_at_call 32; refine (FS _).mono ?_; rintro e w' ⟨rfl, os, q, rfl⟩))
  all_goals
    go_wp2
    refine bodyPost_ret (by simp [results, Try.results22, go_sem, *] <;> (repeat' (first | exact rfl | refine And.intro ?_ ?_))) rfl ⟨rfl, ?_⟩
    repeat (first | exact Ext.refl _ | refine Ext.alloc ?_ _ | refine Ext.ext ?_ _ _ | refine Ext.drew ?_ | refine Ext.drewN ?_ _)

set_option maxRecDepth 100000 in
set_option maxHeartbeats 2000000 in
theorem rself_sec (a x y s p : Int) (hp : 0 ≤ p ∧ p < 256) (w : World) :
    Calls Try.prog 22 #[rv a x y s p, .string { data := #[83, 69, 67] }] w fun e w' => e = .returned (rr (flU ⟨a, x, y, s, p⟩ 1 true)) ∧ Ext w w' := by
  obtain ⟨V, hV⟩ : ∃ V, V = flU ⟨a, x, y, s, p⟩ 1 true := ⟨_, rfl⟩
  have FF := rflag_C
  have FS : ∀ w, Calls Try.prog 32 #[.agg #[.int .i64 a, .int .i64 x, .int .i64 y, .int .i64 s, .int .i64 p], .int .i64 1, .int .i64 1] w fun e w' => e = .returned (.agg #[.int .i64 V.a, .int .i64 V.x, .int .i64 V.y, .int .i64 V.s, .int .i64 V.p]) ∧ Ext w w' := by
    subst hV; exact fun w => rset_any a x y s p 1 1 hp.1 hp.2 rfl (by decide) (by decide) w
  have HV : Hid (rr (flU ⟨a, x, y, s, p⟩ 1 true) = .agg #[.int .i64 V.a, .int .i64 V.x, .int .i64 V.y, .int .i64 V.s, .int .i64 V.p]) := by subst hV; exact rfl
  rw [HV.out]
  clear HV hV hp
  have x2 : ∀ w, (Instr.index 9 (.string { data := #[83, 69, 67] }) (.int .i64 2)).run Try.prog w = .ok (.int .u8 67) w := fun _ => by kernel_rfl
  have r1 := ext_cell
  have r2 := ext_frozen
  have r3 := ext_setCell
  have r4 := ext_lt
  have r5 := ext_drew
  have r6 := ext_ext
  unfold rv
  go_enter Try.func22, Try.ntmps22
  go_upto_region 34 with (fail)
  go_region_held3 (fun v => w.heap.size < v.heap.size ∧ v.cell? ⟨w.heap.size, 0, none⟩ = some (.int .i64 a) ∧ v.cell? ⟨w.heap.size, 1, none⟩ = some (.int .i64 x) ∧ v.cell? ⟨w.heap.size, 2, none⟩ = some (.int .i64 y) ∧ v.cell? ⟨w.heap.size, 3, none⟩ = some (.int .i64 s) ∧ v.cell? ⟨w.heap.size, 4, none⟩ = some (.int .i64 p)) (first | assumption | exact bx_ext (by assumption) _ _ | (simp [go_sem]; done) | (refine bx_ext ?_ _ _; simp [go_sem]; done)) (first | (go_at_call 41; refine (FF _).mono ?_; rintro e w' ⟨rfl, rfl⟩) | (go_at_call 32; refine (FS _).mono ?_; rintro e w' ⟨rfl, os, q, rfl⟩))
  all_goals
    go_wp2
    refine bodyPost_ret (by simp [results, Try.results22, go_sem, *] <;> (repeat' (first | exact rfl | refine And.intro ?_ ?_))) rfl ⟨rfl, ?_⟩
    repeat (first | exact Ext.refl _ | refine Ext.alloc ?_ _ | refine Ext.ext ?_ _ _ | refine Ext.drew ?_ | refine Ext.drewN ?_ _)

set_option maxRecDepth 100000 in
set_option maxHeartbeats 2000000 in
theorem rself_sei (a x y s p : Int) (hp : 0 ≤ p ∧ p < 256) (w : World) :
    Calls Try.prog 22 #[rv a x y s p, .string { data := #[83, 69, 73] }] w fun e w' => e = .returned (rr (flU ⟨a, x, y, s, p⟩ 4 true)) ∧ Ext w w' := by
  obtain ⟨V, hV⟩ : ∃ V, V = flU ⟨a, x, y, s, p⟩ 4 true := ⟨_, rfl⟩
  have FF := rflag_I
  have FS : ∀ w, Calls Try.prog 32 #[.agg #[.int .i64 a, .int .i64 x, .int .i64 y, .int .i64 s, .int .i64 p], .int .i64 4, .int .i64 1] w fun e w' => e = .returned (.agg #[.int .i64 V.a, .int .i64 V.x, .int .i64 V.y, .int .i64 V.s, .int .i64 V.p]) ∧ Ext w w' := by
    subst hV; exact fun w => rset_any a x y s p 4 1 hp.1 hp.2 rfl (by decide) (by decide) w
  have HV : Hid (rr (flU ⟨a, x, y, s, p⟩ 4 true) = .agg #[.int .i64 V.a, .int .i64 V.x, .int .i64 V.y, .int .i64 V.s, .int .i64 V.p]) := by subst hV; exact rfl
  rw [HV.out]
  clear HV hV hp
  have x2 : ∀ w, (Instr.index 9 (.string { data := #[83, 69, 73] }) (.int .i64 2)).run Try.prog w = .ok (.int .u8 73) w := fun _ => by kernel_rfl
  have r1 := ext_cell
  have r2 := ext_frozen
  have r3 := ext_setCell
  have r4 := ext_lt
  have r5 := ext_drew
  have r6 := ext_ext
  unfold rv
  go_enter Try.func22, Try.ntmps22
  go_upto_region 34 with (fail)
  go_region_held3 (fun v => w.heap.size < v.heap.size ∧ v.cell? ⟨w.heap.size, 0, none⟩ = some (.int .i64 a) ∧ v.cell? ⟨w.heap.size, 1, none⟩ = some (.int .i64 x) ∧ v.cell? ⟨w.heap.size, 2, none⟩ = some (.int .i64 y) ∧ v.cell? ⟨w.heap.size, 3, none⟩ = some (.int .i64 s) ∧ v.cell? ⟨w.heap.size, 4, none⟩ = some (.int .i64 p)) (first | assumption | exact bx_ext (by assumption) _ _ | (simp [go_sem]; done) | (refine bx_ext ?_ _ _; simp [go_sem]; done)) (first | (go_at_call 41; refine (FF _).mono ?_; rintro e w' ⟨rfl, rfl⟩) | (go_at_call 32; refine (FS _).mono ?_; rintro e w' ⟨rfl, os, q, rfl⟩))
  all_goals
    go_wp2
    refine bodyPost_ret (by simp [results, Try.results22, go_sem, *] <;> (repeat' (first | exact rfl | refine And.intro ?_ ?_))) rfl ⟨rfl, ?_⟩
    repeat (first | exact Ext.refl _ | refine Ext.alloc ?_ _ | refine Ext.ext ?_ _ _ | refine Ext.drew ?_ | refine Ext.drewN ?_ _)

set_option maxRecDepth 100000 in
set_option maxHeartbeats 2000000 in
theorem rself_sed (a x y s p : Int) (hp : 0 ≤ p ∧ p < 256) (w : World) :
    Calls Try.prog 22 #[rv a x y s p, .string { data := #[83, 69, 68] }] w fun e w' => e = .returned (rr (flU ⟨a, x, y, s, p⟩ 8 true)) ∧ Ext w w' := by
  obtain ⟨V, hV⟩ : ∃ V, V = flU ⟨a, x, y, s, p⟩ 8 true := ⟨_, rfl⟩
  have FF := rflag_D
  have FS : ∀ w, Calls Try.prog 32 #[.agg #[.int .i64 a, .int .i64 x, .int .i64 y, .int .i64 s, .int .i64 p], .int .i64 8, .int .i64 1] w fun e w' => e = .returned (.agg #[.int .i64 V.a, .int .i64 V.x, .int .i64 V.y, .int .i64 V.s, .int .i64 V.p]) ∧ Ext w w' := by
    subst hV; exact fun w => rset_any a x y s p 8 1 hp.1 hp.2 rfl (by decide) (by decide) w
  have HV : Hid (rr (flU ⟨a, x, y, s, p⟩ 8 true) = .agg #[.int .i64 V.a, .int .i64 V.x, .int .i64 V.y, .int .i64 V.s, .int .i64 V.p]) := by subst hV; exact rfl
  rw [HV.out]
  clear HV hV hp
  have x2 : ∀ w, (Instr.index 9 (.string { data := #[83, 69, 68] }) (.int .i64 2)).run Try.prog w = .ok (.int .u8 68) w := fun _ => by kernel_rfl
  have r1 := ext_cell
  have r2 := ext_frozen
  have r3 := ext_setCell
  have r4 := ext_lt
  have r5 := ext_drew
  have r6 := ext_ext
  unfold rv
  go_enter Try.func22, Try.ntmps22
  go_upto_region 34 with (fail)
  go_region_held3 (fun v => w.heap.size < v.heap.size ∧ v.cell? ⟨w.heap.size, 0, none⟩ = some (.int .i64 a) ∧ v.cell? ⟨w.heap.size, 1, none⟩ = some (.int .i64 x) ∧ v.cell? ⟨w.heap.size, 2, none⟩ = some (.int .i64 y) ∧ v.cell? ⟨w.heap.size, 3, none⟩ = some (.int .i64 s) ∧ v.cell? ⟨w.heap.size, 4, none⟩ = some (.int .i64 p)) (first | assumption | exact bx_ext (by assumption) _ _ | (simp [go_sem]; done) | (refine bx_ext ?_ _ _; simp [go_sem]; done)) (first | (go_at_call 41; refine (FF _).mono ?_; rintro e w' ⟨rfl, rfl⟩) | (go_at_call 32; refine (FS _).mono ?_; rintro e w' ⟨rfl, os, q, rfl⟩))
  all_goals
    go_wp2
    refine bodyPost_ret (by simp [results, Try.results22, go_sem, *] <;> (repeat' (first | exact rfl | refine And.intro ?_ ?_))) rfl ⟨rfl, ?_⟩
    repeat (first | exact Ext.refl _ | refine Ext.alloc ?_ _ | refine Ext.ext ?_ _ _ | refine Ext.drew ?_ | refine Ext.drewN ?_ _)

end Go.Proofs.Ytigpmmjbdpnkjaa
