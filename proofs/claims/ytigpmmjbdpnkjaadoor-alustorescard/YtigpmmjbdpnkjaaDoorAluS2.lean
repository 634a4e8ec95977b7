/- Stores and branches: the document's. No law is claimed here. -/
import Derived.Test.YtigpmmjbdpnkjaaDoorRU7
import Derived.Test.YtigpmmjbdpnkjaaDoorRU10
import Derived.Test.YtigpmmjbdpnkjaaDoorAluA
import Derived.BigQuiet
namespace Go.Proofs.YtigpmmjbdpnkjaaDoor
open Go.RowKit

set_option maxRecDepth 100000 in
set_option maxHeartbeats 1000000 in
theorem rstore_sta (a x y s p : Int) (w : World) : Calls Tryd.prog 7 #[rv a x y s p, .string { data := #[83, 84, 65] }] w fun e w' => e = .returned (.int .i64 a) ∧ Ext w w' := by
  have FG : ∀ w, Calls Tryd.prog 13 #[.agg #[.int .i64 a, .int .i64 x, .int .i64 y, .int .i64 s, .int .i64 p], .int .u8 65] w fun e w' => e = .returned (.int .i64 a) ∧ Ext w w' := fun w => rget_A a x y s p w
  have x2 : ∀ w, (Instr.index 9 (.string { data := #[83, 84, 65] }) (.int .i64 2)).run Tryd.prog w = .ok (.int .u8 65) w := fun _ => by kernel_rfl
  have r1 := ext_cell
  have r2 := ext_frozen
  have r3 := ext_setCell
  have r4 := ext_lt
  have r5 := ext_drew
  have r6 := ext_ext
  unfold rv
  go_enter Tryd.func7, Tryd.ntmps7
  go_upto_region 5 with (fail)
  go_region_held3 (fun v => w.heap.size < v.heap.size ∧ v.cell? ⟨w.heap.size, 0, none⟩ = some (.int .i64 a) ∧ v.cell? ⟨w.heap.size, 1, none⟩ = some (.int .i64 x) ∧ v.cell? ⟨w.heap.size, 2, none⟩ = some (.int .i64 y) ∧ v.cell? ⟨w.heap.size, 3, none⟩ = some (.int .i64 s) ∧ v.cell? ⟨w.heap.size, 4, none⟩ = some (.int .i64 p)) (first | assumption | exact bx_ext (by assumption) _ _ | (simp [go_sem]; done) | (refine bx_ext ?_ _ _; simp [go_sem]; done)) (first | (go_at_call 13; refine (FG _).mono ?_; rintro e w' ⟨rfl, os, q, rfl⟩))
  all_goals
    go_wp2
    go_ret
    refine ⟨rfl, ?_⟩
    repeat (first | exact Ext.refl _ | refine Ext.alloc ?_ _ | refine Ext.ext ?_ _ _ | refine Ext.drew ?_ | refine Ext.drewN ?_ _)

set_option maxRecDepth 100000 in
set_option maxHeartbeats 1000000 in
theorem rstore_stx (a x y s p : Int) (w : World) : Calls Tryd.prog 7 #[rv a x y s p, .string { data := #[83, 84, 88] }] w fun e w' => e = .returned (.int .i64 x) ∧ Ext w w' := by
  have FG : ∀ w, Calls Tryd.prog 13 #[.agg #[.int .i64 a, .int .i64 x, .int .i64 y, .int .i64 s, .int .i64 p], .int .u8 88] w fun e w' => e = .returned (.int .i64 x) ∧ Ext w w' := fun w => rget_X a x y s p w
  have x2 : ∀ w, (Instr.index 9 (.string { data := #[83, 84, 88] }) (.int .i64 2)).run Tryd.prog w = .ok (.int .u8 88) w := fun _ => by kernel_rfl
  have r1 := ext_cell
  have r2 := ext_frozen
  have r3 := ext_setCell
  have r4 := ext_lt
  have r5 := ext_drew
  have r6 := ext_ext
  unfold rv
  go_enter Tryd.func7, Tryd.ntmps7
  go_upto_region 5 with (fail)
  go_region_held3 (fun v => w.heap.size < v.heap.size ∧ v.cell? ⟨w.heap.size, 0, none⟩ = some (.int .i64 a) ∧ v.cell? ⟨w.heap.size, 1, none⟩ = some (.int .i64 x) ∧ v.cell? ⟨w.heap.size, 2, none⟩ = some (.int .i64 y) ∧ v.cell? ⟨w.heap.size, 3, none⟩ = some (.int .i64 s) ∧ v.cell? ⟨w.heap.size, 4, none⟩ = some (.int .i64 p)) (first | assumption | exact bx_ext (by assumption) _ _ | (simp [go_sem]; done) | (refine bx_ext ?_ _ _; simp [go_sem]; done)) (first | (go_at_call 13; refine (FG _).mono ?_; rintro e w' ⟨rfl, os, q, rfl⟩))
  all_goals
    go_wp2
    go_ret
    refine ⟨rfl, ?_⟩
    repeat (first | exact Ext.refl _ | refine Ext.alloc ?_ _ | refine Ext.ext ?_ _ _ | refine Ext.drew ?_ | refine Ext.drewN ?_ _)

set_option maxRecDepth 100000 in
set_option maxHeartbeats 1000000 in
theorem rstore_sty (a x y s p : Int) (w : World) : Calls Tryd.prog 7 #[rv a x y s p, .string { data := #[83, 84, 89] }] w fun e w' => e = .returned (.int .i64 y) ∧ Ext w w' := by
  have FG : ∀ w, Calls Tryd.prog 13 #[.agg #[.int .i64 a, .int .i64 x, .int .i64 y, .int .i64 s, .int .i64 p], .int .u8 89] w fun e w' => e = .returned (.int .i64 y) ∧ Ext w w' := fun w => rget_Y a x y s p w
  have x2 : ∀ w, (Instr.index 9 (.string { data := #[83, 84, 89] }) (.int .i64 2)).run Tryd.prog w = .ok (.int .u8 89) w := fun _ => by kernel_rfl
  have r1 := ext_cell
  have r2 := ext_frozen
  have r3 := ext_setCell
  have r4 := ext_lt
  have r5 := ext_drew
  have r6 := ext_ext
  unfold rv
  go_enter Tryd.func7, Tryd.ntmps7
  go_upto_region 5 with (fail)
  go_region_held3 (fun v => w.heap.size < v.heap.size ∧ v.cell? ⟨w.heap.size, 0, none⟩ = some (.int .i64 a) ∧ v.cell? ⟨w.heap.size, 1, none⟩ = some (.int .i64 x) ∧ v.cell? ⟨w.heap.size, 2, none⟩ = some (.int .i64 y) ∧ v.cell? ⟨w.heap.size, 3, none⟩ = some (.int .i64 s) ∧ v.cell? ⟨w.heap.size, 4, none⟩ = some (.int .i64 p)) (first | assumption | exact bx_ext (by assumption) _ _ | (simp [go_sem]; done) | (refine bx_ext ?_ _ _; simp [go_sem]; done)) (first | (go_at_call 13; refine (FG _).mono ?_; rintro e w' ⟨rfl, os, q, rfl⟩))
  all_goals
    go_wp2
    go_ret
    refine ⟨rfl, ?_⟩
    repeat (first | exact Ext.refl _ | refine Ext.alloc ?_ _ | refine Ext.ext ?_ _ _ | refine Ext.drew ?_ | refine Ext.drewN ?_ _)

set_option maxRecDepth 100000 in
set_option maxHeartbeats 1000000 in
theorem rstore_sax (a x y s p b : Int) (hb : bits .and .i64 a x = b) (w : World) : Calls Tryd.prog 7 #[rv a x y s p, .string { data := #[83, 65, 88] }] w fun e w' => e = .returned (.int .i64 b) ∧ Ext w w' := by
  unfold rv
  go_enter Tryd.func7, Tryd.ntmps7
  go_wp2
  go_ret
  refine ⟨rfl, ?_⟩
  repeat (first | exact Ext.refl _ | refine Ext.alloc ?_ _ | refine Ext.ext ?_ _ _ | refine Ext.drew ?_ | refine Ext.drewN ?_ _)

set_option maxRecDepth 100000 in
set_option maxHeartbeats 1000000 in
theorem rtakes_bpl (a x y s p : Int) (c : Bool) (hp : 0 ≤ p ∧ p < 256) (hc : (p / 128 % 2 == 1) = c) (w : World) : Calls Tryd.prog 10 #[rv a x y s p, .string { data := #[66, 80, 76] }] w fun e w' => e = .returned (.bool (!c)) ∧ Ext w w' := by
  have FH := fun w => rhas_any p 128 hp.1 hp.2 (by decide) (by decide) w
  have hv : p / 128 % 2 = if c then 1 else 0 := by
    cases c
    · rw [beq_eq_false_iff_ne] at hc; rw [if_neg (by decide)]; omega
    · rw [beq_iff_eq] at hc; rw [if_pos rfl]; exact hc
  rw [hv] at FH
  clear hv hc hp
  cases c
  all_goals
    simp only [if_true, if_false, Bool.false_eq_true] at FH
    unfold rv
    go_enter Tryd.func10, Tryd.ntmps10
    go_wp2_with (go_at_call 15; refine (FH _).mono ?_; rintro e w' ⟨rfl, rfl⟩)
    go_ret
    refine ⟨rfl, ?_⟩
    repeat (first | exact Ext.refl _ | refine Ext.alloc ?_ _ | refine Ext.ext ?_ _ _ | refine Ext.drew ?_ | refine Ext.drewN ?_ _)

set_option maxRecDepth 100000 in
set_option maxHeartbeats 1000000 in
theorem rtakes_bmi (a x y s p : Int) (c : Bool) (hp : 0 ≤ p ∧ p < 256) (hc : (p / 128 % 2 == 1) = c) (w : World) : Calls Tryd.prog 10 #[rv a x y s p, .string { data := #[66, 77, 73] }] w fun e w' => e = .returned (.bool (c)) ∧ Ext w w' := by
  have FH := fun w => rhas_any p 128 hp.1 hp.2 (by decide) (by decide) w
  have hv : p / 128 % 2 = if c then 1 else 0 := by
    cases c
    · rw [beq_eq_false_iff_ne] at hc; rw [if_neg (by decide)]; omega
    · rw [beq_iff_eq] at hc; rw [if_pos rfl]; exact hc
  rw [hv] at FH
  clear hv hc hp
  cases c
  all_goals
    simp only [if_true, if_false, Bool.false_eq_true] at FH
    unfold rv
    go_enter Tryd.func10, Tryd.ntmps10
    go_wp2_with (go_at_call 15; refine (FH _).mono ?_; rintro e w' ⟨rfl, rfl⟩)
    go_ret
    refine ⟨rfl, ?_⟩
    repeat (first | exact Ext.refl _ | refine Ext.alloc ?_ _ | refine Ext.ext ?_ _ _ | refine Ext.drew ?_ | refine Ext.drewN ?_ _)

set_option maxRecDepth 100000 in
set_option maxHeartbeats 1000000 in
theorem rtakes_bvc (a x y s p : Int) (c : Bool) (hp : 0 ≤ p ∧ p < 256) (hc : (p / 64 % 2 == 1) = c) (w : World) : Calls Tryd.prog 10 #[rv a x y s p, .string { data := #[66, 86, 67] }] w fun e w' => e = .returned (.bool (!c)) ∧ Ext w w' := by
  have FH := fun w => rhas_any p 64 hp.1 hp.2 (by decide) (by decide) w
  have hv : p / 64 % 2 = if c then 1 else 0 := by
    cases c
    · rw [beq_eq_false_iff_ne] at hc; rw [if_neg (by decide)]; omega
    · rw [beq_iff_eq] at hc; rw [if_pos rfl]; exact hc
  rw [hv] at FH
  clear hv hc hp
  cases c
  all_goals
    simp only [if_true, if_false, Bool.false_eq_true] at FH
    unfold rv
    go_enter Tryd.func10, Tryd.ntmps10
    go_wp2_with (go_at_call 15; refine (FH _).mono ?_; rintro e w' ⟨rfl, rfl⟩)
    go_ret
    refine ⟨rfl, ?_⟩
    repeat (first | exact Ext.refl _ | refine Ext.alloc ?_ _ | refine Ext.ext ?_ _ _ | refine Ext.drew ?_ | refine Ext.drewN ?_ _)

set_option maxRecDepth 100000 in
set_option maxHeartbeats 1000000 in
theorem rtakes_bvs (a x y s p : Int) (c : Bool) (hp : 0 ≤ p ∧ p < 256) (hc : (p / 64 % 2 == 1) = c) (w : World) : Calls Tryd.prog 10 #[rv a x y s p, .string { data := #[66, 86, 83] }] w fun e w' => e = .returned (.bool (c)) ∧ Ext w w' := by
  have FH := fun w => rhas_any p 64 hp.1 hp.2 (by decide) (by decide) w
  have hv : p / 64 % 2 = if c then 1 else 0 := by
    cases c
    · rw [beq_eq_false_iff_ne] at hc; rw [if_neg (by decide)]; omega
    · rw [beq_iff_eq] at hc; rw [if_pos rfl]; exact hc
  rw [hv] at FH
  clear hv hc hp
  cases c
  all_goals
    simp only [if_true, if_false, Bool.false_eq_true] at FH
    unfold rv
    go_enter Tryd.func10, Tryd.ntmps10
    go_wp2_with (go_at_call 15; refine (FH _).mono ?_; rintro e w' ⟨rfl, rfl⟩)
    go_ret
    refine ⟨rfl, ?_⟩
    repeat (first | exact Ext.refl _ | refine Ext.alloc ?_ _ | refine Ext.ext ?_ _ _ | refine Ext.drew ?_ | refine Ext.drewN ?_ _)

set_option maxRecDepth 100000 in
set_option maxHeartbeats 1000000 in
theorem rtakes_bcc (a x y s p : Int) (c : Bool) (hp : 0 ≤ p ∧ p < 256) (hc : (p / 1 % 2 == 1) = c) (w : World) : Calls Tryd.prog 10 #[rv a x y s p, .string { data := #[66, 67, 67] }] w fun e w' => e = .returned (.bool (!c)) ∧ Ext w w' := by
  have FH := fun w => rhas_any p 1 hp.1 hp.2 (by decide) (by decide) w
  have hv : p / 1 % 2 = if c then 1 else 0 := by
    cases c
    · rw [beq_eq_false_iff_ne] at hc; rw [if_neg (by decide)]; omega
    · rw [beq_iff_eq] at hc; rw [if_pos rfl]; exact hc
  rw [hv] at FH
  clear hv hc hp
  cases c
  all_goals
    simp only [if_true, if_false, Bool.false_eq_true] at FH
    unfold rv
    go_enter Tryd.func10, Tryd.ntmps10
    go_wp2_with (go_at_call 15; refine (FH _).mono ?_; rintro e w' ⟨rfl, rfl⟩)
    go_ret
    refine ⟨rfl, ?_⟩
    repeat (first | exact Ext.refl _ | refine Ext.alloc ?_ _ | refine Ext.ext ?_ _ _ | refine Ext.drew ?_ | refine Ext.drewN ?_ _)

set_option maxRecDepth 100000 in
set_option maxHeartbeats 1000000 in
theorem rtakes_bcs (a x y s p : Int) (c : Bool) (hp : 0 ≤ p ∧ p < 256) (hc : (p / 1 % 2 == 1) = c) (w : World) : Calls Tryd.prog 10 #[rv a x y s p, .string { data := #[66, 67, 83] }] w fun e w' => e = .returned (.bool (c)) ∧ Ext w w' := by
  have FH := fun w => rhas_any p 1 hp.1 hp.2 (by decide) (by decide) w
  have hv : p / 1 % 2 = if c then 1 else 0 := by
    cases c
    · rw [beq_eq_false_iff_ne] at hc; rw [if_neg (by decide)]; omega
    · rw [beq_iff_eq] at hc; rw [if_pos rfl]; exact hc
  rw [hv] at FH
  clear hv hc hp
  cases c
  all_goals
    simp only [if_true, if_false, Bool.false_eq_true] at FH
    unfold rv
    go_enter Tryd.func10, Tryd.ntmps10
    go_wp2_with (go_at_call 15; refine (FH _).mono ?_; rintro e w' ⟨rfl, rfl⟩)
    go_ret
    refine ⟨rfl, ?_⟩
    repeat (first | exact Ext.refl _ | refine Ext.alloc ?_ _ | refine Ext.ext ?_ _ _ | refine Ext.drew ?_ | refine Ext.drewN ?_ _)

set_option maxRecDepth 100000 in
set_option maxHeartbeats 1000000 in
theorem rtakes_bne (a x y s p : Int) (c : Bool) (hp : 0 ≤ p ∧ p < 256) (hc : (p / 2 % 2 == 1) = c) (w : World) : Calls Tryd.prog 10 #[rv a x y s p, .string { data := #[66, 78, 69] }] w fun e w' => e = .returned (.bool (!c)) ∧ Ext w w' := by
  have FH := fun w => rhas_any p 2 hp.1 hp.2 (by decide) (by decide) w
  have hv : p / 2 % 2 = if c then 1 else 0 := by
    cases c
    · rw [beq_eq_false_iff_ne] at hc; rw [if_neg (by decide)]; omega
    · rw [beq_iff_eq] at hc; rw [if_pos rfl]; exact hc
  rw [hv] at FH
  clear hv hc hp
  cases c
  all_goals
    simp only [if_true, if_false, Bool.false_eq_true] at FH
    unfold rv
    go_enter Tryd.func10, Tryd.ntmps10
    go_wp2_with (go_at_call 15; refine (FH _).mono ?_; rintro e w' ⟨rfl, rfl⟩)
    go_ret
    refine ⟨rfl, ?_⟩
    repeat (first | exact Ext.refl _ | refine Ext.alloc ?_ _ | refine Ext.ext ?_ _ _ | refine Ext.drew ?_ | refine Ext.drewN ?_ _)

set_option maxRecDepth 100000 in
set_option maxHeartbeats 1000000 in
theorem rtakes_beq (a x y s p : Int) (c : Bool) (hp : 0 ≤ p ∧ p < 256) (hc : (p / 2 % 2 == 1) = c) (w : World) : Calls Tryd.prog 10 #[rv a x y s p, .string { data := #[66, 69, 81] }] w fun e w' => e = .returned (.bool (c)) ∧ Ext w w' := by
  have FH := fun w => rhas_any p 2 hp.1 hp.2 (by decide) (by decide) w
  have hv : p / 2 % 2 = if c then 1 else 0 := by
    cases c
    · rw [beq_eq_false_iff_ne] at hc; rw [if_neg (by decide)]; omega
    · rw [beq_iff_eq] at hc; rw [if_pos rfl]; exact hc
  rw [hv] at FH
  clear hv hc hp
  cases c
  all_goals
    simp only [if_true, if_false, Bool.false_eq_true] at FH
    unfold rv
    go_enter Tryd.func10, Tryd.ntmps10
    go_wp2_with (go_at_call 15; refine (FH _).mono ?_; rintro e w' ⟨rfl, rfl⟩)
    go_ret
    refine ⟨rfl, ?_⟩
    repeat (first | exact Ext.refl _ | refine Ext.alloc ?_ _ | refine Ext.ext ?_ _ _ | refine Ext.drew ?_ | refine Ext.drewN ?_ _)

end Go.Proofs.YtigpmmjbdpnkjaaDoor
