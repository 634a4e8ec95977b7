/- The document's operations of registers alone (kotatsuref08.Self): registers. No law is claimed here. -/
import Derived.Test.YtigpmmjbdpnkjaaRU10
namespace Go.Proofs.Ytigpmmjbdpnkjaa
open Go.RowKit

set_option maxRecDepth 100000 in
set_option maxHeartbeats 2000000 in
theorem rself_tax (a x y s p : Int) (hu : Ok ⟨a, x, y, s, p⟩) (w : World) :
    Calls Try.prog 22 #[rv a x y s p, .string { data := #[84, 65, 88] }] w fun e w' => e = .returned (rr (sgU ⟨a, a, y, s, p⟩ a)) ∧ Ext w w' := by
  obtain ⟨⟨ha, ha2⟩, ⟨hx, hx2⟩, ⟨hy, hy2⟩, ⟨hs, hs2⟩, ⟨hp, hp2⟩⟩ := hu
  simp only at ha ha2 hx hx2 hy hy2 hs hs2 hp hp2
  have k0 : 0 ≤ a := by omega
  have k1 : a < 256 := by omega
  have FG : ∀ w, Calls Try.prog 39 #[.agg #[.int .i64 a, .int .i64 x, .int .i64 y, .int .i64 s, .int .i64 p], .int .u8 65] w fun e w' => e = .returned (.int .i64 a) ∧ Ext w w' := fun w => rget_A a x y s p w
  have FP : ∀ w, Calls Try.prog 40 #[.agg #[.int .i64 a, .int .i64 x, .int .i64 y, .int .i64 s, .int .i64 p], .int .u8 88, .int .i64 a] w fun e w' => e = .returned (.agg #[.int .i64 a, .int .i64 a, .int .i64 y, .int .i64 s, .int .i64 p]) ∧ Ext w w' := fun w => rput_X a x y s p a w
  have FS := fun w => rsign_any a a y s p a hp hp2 k0 k1 w
  unfold rr rv at FS
  have x1 : ∀ w, (Instr.index 9 (.string { data := #[84, 65, 88] }) (.int .i64 1)).run Try.prog w = .ok (.int .u8 65) w := fun _ => by kernel_rfl
  have x2 : ∀ w, (Instr.index 9 (.string { data := #[84, 65, 88] }) (.int .i64 2)).run Try.prog w = .ok (.int .u8 88) w := fun _ => by kernel_rfl
  have r1 := ext_cell
  have r2 := ext_frozen
  have r3 := ext_setCell
  have r4 := ext_lt
  have r5 := ext_drew
  have r6 := ext_ext
  unfold rr rv
  go_enter Try.func22, Try.ntmps22
  go_upto_region 16 with (fail)
  go_region_held3 (fun v => w.heap.size < v.heap.size ∧ v.cell? ⟨w.heap.size, 0, none⟩ = some (.int .i64 a) ∧ v.cell? ⟨w.heap.size, 1, none⟩ = some (.int .i64 x) ∧ v.cell? ⟨w.heap.size, 2, none⟩ = some (.int .i64 y) ∧ v.cell? ⟨w.heap.size, 3, none⟩ = some (.int .i64 s) ∧ v.cell? ⟨w.heap.size, 4, none⟩ = some (.int .i64 p)) (first | assumption | exact bx_ext (by assumption) _ _ | (simp [go_sem]; done) | (refine bx_ext ?_ _ _; simp [go_sem]; done)) (first | (go_at_call 39; refine (FG _).mono ?_; rintro e w' ⟨rfl, os, q, rfl⟩))
  all_goals
    go_upto_region 17 with (fail)
    go_region_held3 (fun v => w.heap.size < v.heap.size ∧ v.cell? ⟨w.heap.size, 0, none⟩ = some (.int .i64 a) ∧ v.cell? ⟨w.heap.size, 1, none⟩ = some (.int .i64 x) ∧ v.cell? ⟨w.heap.size, 2, none⟩ = some (.int .i64 y) ∧ v.cell? ⟨w.heap.size, 3, none⟩ = some (.int .i64 s) ∧ v.cell? ⟨w.heap.size, 4, none⟩ = some (.int .i64 p)) (first | assumption | exact bx_ext (by assumption) _ _ | (simp [go_sem]; done) | (refine bx_ext ?_ _ _; simp [go_sem]; done)) (first | (go_at_call 40; refine (FP _).mono ?_; rintro e w' ⟨rfl, os, q, rfl⟩) | (go_at_call 31; refine (FS _).mono ?_; rintro e w' ⟨rfl, os, q, rfl⟩))
    all_goals
      go_wp2
      refine bodyPost_ret (by simp [results, Try.results22, go_sem, *] <;> (repeat' (first | exact rfl | refine And.intro ?_ ?_))) rfl ⟨rfl, ?_⟩
      repeat (first | exact Ext.refl _ | refine Ext.alloc ?_ _ | refine Ext.ext ?_ _ _ | refine Ext.drew ?_ | refine Ext.drewN ?_ _)

set_option maxRecDepth 100000 in
set_option maxHeartbeats 2000000 in
theorem rself_tay (a x y s p : Int) (hu : Ok ⟨a, x, y, s, p⟩) (w : World) :
    Calls Try.prog 22 #[rv a x y s p, .string { data := #[84, 65, 89] }] w fun e w' => e = .returned (rr (sgU ⟨a, x, a, s, p⟩ a)) ∧ Ext w w' := by
  obtain ⟨⟨ha, ha2⟩, ⟨hx, hx2⟩, ⟨hy, hy2⟩, ⟨hs, hs2⟩, ⟨hp, hp2⟩⟩ := hu
  simp only at ha ha2 hx hx2 hy hy2 hs hs2 hp hp2
  have k0 : 0 ≤ a := by omega
  have k1 : a < 256 := by omega
  have FG : ∀ w, Calls Try.prog 39 #[.agg #[.int .i64 a, .int .i64 x, .int .i64 y, .int .i64 s, .int .i64 p], .int .u8 65] w fun e w' => e = .returned (.int .i64 a) ∧ Ext w w' := fun w => rget_A a x y s p w
  have FP : ∀ w, Calls Try.prog 40 #[.agg #[.int .i64 a, .int .i64 x, .int .i64 y, .int .i64 s, .int .i64 p], .int .u8 89, .int .i64 a] w fun e w' => e = .returned (.agg #[.int .i64 a, .int .i64 x, .int .i64 a, .int .i64 s, .int .i64 p]) ∧ Ext w w' := fun w => rput_Y a x y s p a w
  have FS := fun w => rsign_any a x a s p a hp hp2 k0 k1 w
  unfold rr rv at FS
  have x1 : ∀ w, (Instr.index 9 (.string { data := #[84, 65, 89] }) (.int .i64 1)).run Try.prog w = .ok (.int .u8 65) w := fun _ => by kernel_rfl
  have x2 : ∀ w, (Instr.index 9 (.string { data := #[84, 65, 89] }) (.int .i64 2)).run Try.prog w = .ok (.int .u8 89) w := fun _ => by kernel_rfl
  have r1 := ext_cell
  have r2 := ext_frozen
  have r3 := ext_setCell
  have r4 := ext_lt
  have r5 := ext_drew
  have r6 := ext_ext
  unfold rr rv
  go_enter Try.func22, Try.ntmps22
  go_upto_region 16 with (fail)
  go_region_held3 (fun v => w.heap.size < v.heap.size ∧ v.cell? ⟨w.heap.size, 0, none⟩ = some (.int .i64 a) ∧ v.cell? ⟨w.heap.size, 1, none⟩ = some (.int .i64 x) ∧ v.cell? ⟨w.heap.size, 2, none⟩ = some (.int .i64 y) ∧ v.cell? ⟨w.heap.size, 3, none⟩ = some (.int .i64 s) ∧ v.cell? ⟨w.heap.size, 4, none⟩ = some (.int .i64 p)) (first | assumption | exact bx_ext (by assumption) _ _ | (simp [go_sem]; done) | (refine bx_ext ?_ _ _; simp [go_sem]; done)) (first | (go_at_call 39; refine (FG _).mono ?_; rintro e w' ⟨rfl, os, q, rfl⟩))
  all_goals
    go_upto_region 17 with (fail)
    go_region_held3 (fun v => w.heap.size < v.heap.size ∧ v.cell? ⟨w.heap.size, 0, none⟩ = some (.int .i64 a) ∧ v.cell? ⟨w.heap.size, 1, none⟩ = some (.int .i64 x) ∧ v.cell? ⟨w.heap.size, 2, none⟩ = some (.int .i64 y) ∧ v.cell? ⟨w.heap.size, 3, none⟩ = some (.int .i64 s) ∧ v.cell? ⟨w.heap.size, 4, none⟩ = some (.int .i64 p)) (first | assumption | exact bx_ext (by assumption) _ _ | (simp [go_sem]; done) | (refine bx_ext ?_ _ _; simp [go_sem]; done)) (first | (go_at_call 40; refine (FP _).mono ?_; rintro e w' ⟨rfl, os, q, rfl⟩) | (go_at_call 31; refine (FS _).mono ?_; rintro e w' ⟨rfl, os, q, rfl⟩))
    all_goals
      go_wp2
      refine bodyPost_ret (by simp [results, Try.results22, go_sem, *] <;> (repeat' (first | exact rfl | refine And.intro ?_ ?_))) rfl ⟨rfl, ?_⟩
      repeat (first | exact Ext.refl _ | refine Ext.alloc ?_ _ | refine Ext.ext ?_ _ _ | refine Ext.drew ?_ | refine Ext.drewN ?_ _)

set_option maxRecDepth 100000 in
set_option maxHeartbeats 2000000 in
theorem rself_txa (a x y s p : Int) (hu : Ok ⟨a, x, y, s, p⟩) (w : World) :
    Calls Try.prog 22 #[rv a x y s p, .string { data := #[84, 88, 65] }] w fun e w' => e = .returned (rr (sgU ⟨x, x, y, s, p⟩ x)) ∧ Ext w w' := by
  obtain ⟨⟨ha, ha2⟩, ⟨hx, hx2⟩, ⟨hy, hy2⟩, ⟨hs, hs2⟩, ⟨hp, hp2⟩⟩ := hu
  simp only at ha ha2 hx hx2 hy hy2 hs hs2 hp hp2
  have k0 : 0 ≤ x := by omega
  have k1 : x < 256 := by omega
  have FG : ∀ w, Calls Try.prog 39 #[.agg #[.int .i64 a, .int .i64 x, .int .i64 y, .int .i64 s, .int .i64 p], .int .u8 88] w fun e w' => e = .returned (.int .i64 x) ∧ Ext w w' := fun w => rget_X a x y s p w
  have FP : ∀ w, Calls Try.prog 40 #[.agg #[.int .i64 a, .int .i64 x, .int .i64 y, .int .i64 s, .int .i64 p], .int .u8 65, .int .i64 x] w fun e w' => e = .returned (.agg #[.int .i64 x, .int .i64 x, .int .i64 y, .int .i64 s, .int .i64 p]) ∧ Ext w w' := fun w => rput_A a x y s p x w
  have FS := fun w => rsign_any x x y s p x hp hp2 k0 k1 w
  unfold rr rv at FS
  have x1 : ∀ w, (Instr.index 9 (.string { data := #[84, 88, 65] }) (.int .i64 1)).run Try.prog w = .ok (.int .u8 88) w := fun _ => by kernel_rfl
  have x2 : ∀ w, (Instr.index 9 (.string { data := #[84, 88, 65] }) (.int .i64 2)).run Try.prog w = .ok (.int .u8 65) w := fun _ => by kernel_rfl
  have r1 := ext_cell
  have r2 := ext_frozen
  have r3 := ext_setCell
  have r4 := ext_lt
  have r5 := ext_drew
  have r6 := ext_ext
  unfold rr rv
  go_enter Try.func22, Try.ntmps22
  go_upto_region 16 with (fail)
  go_region_held3 (fun v => w.heap.size < v.heap.size ∧ v.cell? ⟨w.heap.size, 0, none⟩ = some (.int .i64 a) ∧ v.cell? ⟨w.heap.size, 1, none⟩ = some (.int .i64 x) ∧ v.cell? ⟨w.heap.size, 2, none⟩ = some (.int .i64 y) ∧ v.cell? ⟨w.heap.size, 3, none⟩ = some (.int .i64 s) ∧ v.cell? ⟨w.heap.size, 4, none⟩ = some (.int .i64 p)) (first | assumption | exact bx_ext (by assumption) _ _ | (simp [go_sem]; done) | (refine bx_ext ?_ _ _; simp [go_sem]; done)) (first | (go_at_call 39; refine (FG _).mono ?_; rintro e w' ⟨rfl, os, q, rfl⟩))
  all_goals
    go_upto_region 17 with (fail)
    go_region_held3 (fun v => w.heap.size < v.heap.size ∧ v.cell? ⟨w.heap.size, 0, none⟩ = some (.int .i64 a) ∧ v.cell? ⟨w.heap.size, 1, none⟩ = some (.int .i64 x) ∧ v.cell? ⟨w.heap.size, 2, none⟩ = some (.int .i64 y) ∧ v.cell? ⟨w.heap.size, 3, none⟩ = some (.int .i64 s) ∧ v.cell? ⟨w.heap.size, 4, none⟩ = some (.int .i64 p)) (first | assumption | exact bx_ext (by assumption) _ _ | (simp [go_sem]; done) | (refine bx_ext ?_ _ _; simp [go_sem]; done)) (first | (go_at_call 40; refine (FP _).mono ?_; rintro e w' ⟨rfl, os, q, rfl⟩) | (go_at_call 31; refine (FS _).mono ?_; rintro e w' ⟨rfl, os, q, rfl⟩))
    all_goals
      go_wp2
      refine bodyPost_ret (by simp [results, Try.results22, go_sem, *] <;> (repeat' (first | exact rfl | refine And.intro ?_ ?_))) rfl ⟨rfl, ?_⟩
      repeat (first | exact Ext.refl _ | refine Ext.alloc ?_ _ | refine Ext.ext ?_ _ _ | refine Ext.drew ?_ | refine Ext.drewN ?_ _)

set_option maxRecDepth 100000 in
set_option maxHeartbeats 2000000 in
theorem rself_tya (a x y s p : Int) (hu : Ok ⟨a, x, y, s, p⟩) (w : World) :
    Calls Try.prog 22 #[rv a x y s p, .string { data := #[84, 89, 65] }] w fun e w' => e = .returned (rr (sgU ⟨y, x, y, s, p⟩ y)) ∧ Ext w w' := by
  obtain ⟨⟨ha, ha2⟩, ⟨hx, hx2⟩, ⟨hy, hy2⟩, ⟨hs, hs2⟩, ⟨hp, hp2⟩⟩ := hu
  simp only at ha ha2 hx hx2 hy hy2 hs hs2 hp hp2
  have k0 : 0 ≤ y := by omega
  have k1 : y < 256 := by omega
  have FG : ∀ w, Calls Try.prog 39 #[.agg #[.int .i64 a, .int .i64 x, .int .i64 y, .int .i64 s, .int .i64 p], .int .u8 89] w fun e w' => e = .returned (.int .i64 y) ∧ Ext w w' := fun w => rget_Y a x y s p w
  have FP : ∀ w, Calls Try.prog 40 #[.agg #[.int .i64 a, .int .i64 x, .int .i64 y, .int .i64 s, .int .i64 p], .int .u8 65, .int .i64 y] w fun e w' => e = .returned (.agg #[.int .i64 y, .int .i64 x, .int .i64 y, .int .i64 s, .int .i64 p]) ∧ Ext w w' := fun w => rput_A a x y s p y w
  have FS := fun w => rsign_any y x y s p y hp hp2 k0 k1 w
  unfold rr rv at FS
  have x1 : ∀ w, (Instr.index 9 (.string { data := #[84, 89, 65] }) (.int .i64 1)).run Try.prog w = .ok (.int .u8 89) w := fun _ => by kernel_rfl
  have x2 : ∀ w, (Instr.index 9 (.string { data := #[84, 89, 65] }) (.int .i64 2)).run Try.prog w = .ok (.int .u8 65) w := fun _ => by kernel_rfl
  have r1 := ext_cell
  have r2 := ext_frozen
  have r3 := ext_setCell
  have r4 := ext_lt
  have r5 := ext_drew
  have r6 := ext_ext
  unfold rr rv
  go_enter Try.func22, Try.ntmps22
  go_upto_region 16 with (fail)
  go_region_held3 (fun v => w.heap.size < v.heap.size ∧ v.cell? ⟨w.heap.size, 0, none⟩ = some (.int .i64 a) ∧ v.cell? ⟨w.heap.size, 1, none⟩ = some (.int .i64 x) ∧ v.cell? ⟨w.heap.size, 2, none⟩ = some (.int .i64 y) ∧ v.cell? ⟨w.heap.size, 3, none⟩ = some (.int .i64 s) ∧ v.cell? ⟨w.heap.size, 4, none⟩ = some (.int .i64 p)) (first | assumption | exact bx_ext (by assumption) _ _ | (simp [go_sem]; done) | (refine bx_ext ?_ _ _; simp [go_sem]; done)) (first | (go_at_call 39; refine (FG _).mono ?_; rintro e w' ⟨rfl, os, q, rfl⟩))
  all_goals
    go_upto_region 17 with (fail)
    go_region_held3 (fun v => w.heap.size < v.heap.size ∧ v.cell? ⟨w.heap.size, 0, none⟩ = some (.int .i64 a) ∧ v.cell? ⟨w.heap.size, 1, none⟩ = some (.int .i64 x) ∧ v.cell? ⟨w.heap.size, 2, none⟩ = some (.int .i64 y) ∧ v.cell? ⟨w.heap.size, 3, none⟩ = some (.int .i64 s) ∧ v.cell? ⟨w.heap.size, 4, none⟩ = some (.int .i64 p)) (first | assumption | exact bx_ext (by assumption) _ _ | (simp [go_sem]; done) | (refine bx_ext ?_ _ _; simp [go_sem]; done)) (first | (go_at_call 40; refine (FP _).mono ?_; rintro e w' ⟨rfl, os, q, rfl⟩) | (go_at_call 31; refine (FS _).mono ?_; rintro e w' ⟨rfl, os, q, rfl⟩))
    all_goals
      go_wp2
      refine bodyPost_ret (by simp [results, Try.results22, go_sem, *] <;> (repeat' (first | exact rfl | refine And.intro ?_ ?_))) rfl ⟨rfl, ?_⟩
      repeat (first | exact Ext.refl _ | refine Ext.alloc ?_ _ | refine Ext.ext ?_ _ _ | refine Ext.drew ?_ | refine Ext.drewN ?_ _)

set_option maxRecDepth 100000 in
set_option maxHeartbeats 2000000 in
theorem rself_tsx (a x y s p : Int) (hu : Ok ⟨a, x, y, s, p⟩) (w : World) :
    Calls Try.prog 22 #[rv a x y s p, .string { data := #[84, 83, 88] }] w fun e w' => e = .returned (rr (sgU ⟨a, s, y, s, p⟩ s)) ∧ Ext w w' := by
  obtain ⟨⟨ha, ha2⟩, ⟨hx, hx2⟩, ⟨hy, hy2⟩, ⟨hs, hs2⟩, ⟨hp, hp2⟩⟩ := hu
  simp only at ha ha2 hx hx2 hy hy2 hs hs2 hp hp2
  have k0 : 0 ≤ s := by omega
  have k1 : s < 256 := by omega
  have FG : ∀ w, Calls Try.prog 39 #[.agg #[.int .i64 a, .int .i64 x, .int .i64 y, .int .i64 s, .int .i64 p], .int .u8 83] w fun e w' => e = .returned (.int .i64 s) ∧ Ext w w' := fun w => rget_S a x y s p w
  have FP : ∀ w, Calls Try.prog 40 #[.agg #[.int .i64 a, .int .i64 x, .int .i64 y, .int .i64 s, .int .i64 p], .int .u8 88, .int .i64 s] w fun e w' => e = .returned (.agg #[.int .i64 a, .int .i64 s, .int .i64 y, .int .i64 s, .int .i64 p]) ∧ Ext w w' := fun w => rput_X a x y s p s w
  have FS := fun w => rsign_any a s y s p s hp hp2 k0 k1 w
  unfold rr rv at FS
  have x1 : ∀ w, (Instr.index 9 (.string { data := #[84, 83, 88] }) (.int .i64 1)).run Try.prog w = .ok (.int .u8 83) w := fun _ => by kernel_rfl
  have x2 : ∀ w, (Instr.index 9 (.string { data := #[84, 83, 88] }) (.int .i64 2)).run Try.prog w = .ok (.int .u8 88) w := fun _ => by kernel_rfl
  have r1 := ext_cell
  have r2 := ext_frozen
  have r3 := ext_setCell
  have r4 := ext_lt
  have r5 := ext_drew
  have r6 := ext_ext
  unfold rr rv
  go_enter Try.func22, Try.ntmps22
  go_upto_region 16 with (fail)
  go_region_held3 (fun v => w.heap.size < v.heap.size ∧ v.cell? ⟨w.heap.size, 0, none⟩ = some (.int .i64 a) ∧ v.cell? ⟨w.heap.size, 1, none⟩ = some (.int .i64 x) ∧ v.cell? ⟨w.heap.size, 2, none⟩ = some (.int .i64 y) ∧ v.cell? ⟨w.heap.size, 3, none⟩ = some (.int .i64 s) ∧ v.cell? ⟨w.heap.size, 4, none⟩ = some (.int .i64 p)) (first | assumption | exact bx_ext (by assumption) _ _ | (simp [go_sem]; done) | (refine bx_ext ?_ _ _; simp [go_sem]; done)) (first | (go_at_call 39; refine (FG _).mono ?_; rintro e w' ⟨rfl, os, q, rfl⟩))
  all_goals
    go_upto_region 17 with (fail)
    go_region_held3 (fun v => w.heap.size < v.heap.size ∧ v.cell? ⟨w.heap.size, 0, none⟩ = some (.int .i64 a) ∧ v.cell? ⟨w.heap.size, 1, none⟩ = some (.int .i64 x) ∧ v.cell? ⟨w.heap.size, 2, none⟩ = some (.int .i64 y) ∧ v.cell? ⟨w.heap.size, 3, none⟩ = some (.int .i64 s) ∧ v.cell? ⟨w.heap.size, 4, none⟩ = some (.int .i64 p)) (first | assumption | exact bx_ext (by assumption) _ _ | (simp [go_sem]; done) | (refine bx_ext ?_ _ _; simp [go_sem]; done)) (first | (go_at_call 40; refine (FP _).mono ?_; rintro e w' ⟨rfl, os, q, rfl⟩) | (go_at_call 31; refine (FS _).mono ?_; rintro e w' ⟨rfl, os, q, rfl⟩))
    all_goals
      go_wp2
      refine bodyPost_ret (by simp [results, Try.results22, go_sem, *] <;> (repeat' (first | exact rfl | refine And.intro ?_ ?_))) rfl ⟨rfl, ?_⟩
      repeat (first | exact Ext.refl _ | refine Ext.alloc ?_ _ | refine Ext.ext ?_ _ _ | refine Ext.drew ?_ | refine Ext.drewN ?_ _)

end Go.Proofs.Ytigpmmjbdpnkjaa
