/- The document's operations of registers alone (kotatsuref08.Self): counts. No law is claimed here. -/
import Derived.Test.YtigpmmjbdpnkjaaRU10
namespace Go.Proofs.Ytigpmmjbdpnkjaa
open Go.RowKit

set_option maxRecDepth 100000 in
set_option maxHeartbeats 2000000 in
theorem rself_inx (a x y s p n : Int) (hu : Ok ⟨a, x, y, s, p⟩) (hn : (x + 1) % 256 = n) (w : World) :
    Calls Try.prog 22 #[rv a x y s p, .string { data := #[73, 78, 88] }] w fun e w' => e = .returned (rr (sgU ⟨a, n, y, s, p⟩ n)) ∧ Ext w w' := by
  obtain ⟨⟨ha, ha2⟩, ⟨hx, hx2⟩, ⟨hy, hy2⟩, ⟨hs, hs2⟩, ⟨hp, hp2⟩⟩ := hu
  simp only at ha ha2 hx hx2 hy hy2 hs hs2 hp hp2
  have n0 : 0 ≤ n := by omega
  have n1 : n < 256 := by omega
  have FG : ∀ w, Calls Try.prog 39 #[.agg #[.int .i64 a, .int .i64 x, .int .i64 y, .int .i64 s, .int .i64 p], .int .u8 88] w fun e w' => e = .returned (.int .i64 x) ∧ Ext w w' := fun w => rget_X a x y s p w
  have FP : ∀ w, Calls Try.prog 40 #[.agg #[.int .i64 a, .int .i64 x, .int .i64 y, .int .i64 s, .int .i64 p], .int .u8 88, .int .i64 n] w fun e w' => e = .returned (.agg #[.int .i64 a, .int .i64 n, .int .i64 y, .int .i64 s, .int .i64 p]) ∧ Ext w w' := fun w => rput_X a x y s p n w
  have FS := fun w => rsign_any a n y s p n hp hp2 n0 n1 w
  unfold rr rv at FS
  have x2 : ∀ w, (Instr.index 9 (.string { data := #[73, 78, 88] }) (.int .i64 2)).run Try.prog w = .ok (.int .u8 88) w := fun _ => by kernel_rfl
  have e1 : IntKind.i64.wrap (x + 1) = x + 1 := IntWalk.i64_in _ ⟨by omega, by omega⟩
  have t1 : (x + 1).tmod 256 = n := (Int.tmod_eq_emod_of_nonneg (by omega)).trans hn
  clear hn
  have r1 := ext_cell
  have r2 := ext_frozen
  have r3 := ext_setCell
  have r4 := ext_lt
  have r5 := ext_drew
  have r6 := ext_ext
  unfold rr rv
  go_enter Try.func22, Try.ntmps22
  go_upto_region 20 with (fail)
  go_region_held3 (fun v => w.heap.size < v.heap.size ∧ v.cell? ⟨w.heap.size, 0, none⟩ = some (.int .i64 a) ∧ v.cell? ⟨w.heap.size, 1, none⟩ = some (.int .i64 x) ∧ v.cell? ⟨w.heap.size, 2, none⟩ = some (.int .i64 y) ∧ v.cell? ⟨w.heap.size, 3, none⟩ = some (.int .i64 s) ∧ v.cell? ⟨w.heap.size, 4, none⟩ = some (.int .i64 p)) (first | assumption | exact bx_ext (by assumption) _ _ | (simp [go_sem]; done) | (refine bx_ext ?_ _ _; simp [go_sem]; done)) (first | (go_at_call 39; refine (FG _).mono ?_; rintro e w' ⟨rfl, os, q, rfl⟩))
  all_goals
    go_upto_region 21 with (fail)
    go_region_held3 (fun v => w.heap.size < v.heap.size ∧ v.cell? ⟨w.heap.size, 0, none⟩ = some (.int .i64 a) ∧ v.cell? ⟨w.heap.size, 1, none⟩ = some (.int .i64 x) ∧ v.cell? ⟨w.heap.size, 2, none⟩ = some (.int .i64 y) ∧ v.cell? ⟨w.heap.size, 3, none⟩ = some (.int .i64 s) ∧ v.cell? ⟨w.heap.size, 4, none⟩ = some (.int .i64 p)) (first | assumption | exact bx_ext (by assumption) _ _ | (simp [go_sem]; done) | (refine bx_ext ?_ _ _; simp [go_sem]; done)) (first | (go_at_call 40; refine (FP _).mono ?_; rintro e w' ⟨rfl, os, q, rfl⟩) | (go_at_call 31; refine (FS _).mono ?_; rintro e w' ⟨rfl, os, q, rfl⟩))
    all_goals
      go_wp2
      refine bodyPost_ret (by simp [results, Try.results22, go_sem, *] <;> (repeat' (first | exact rfl | refine And.intro ?_ ?_))) rfl ⟨rfl, ?_⟩
      repeat (first | exact Ext.refl _ | refine Ext.alloc ?_ _ | refine Ext.ext ?_ _ _ | refine Ext.drew ?_ | refine Ext.drewN ?_ _)

set_option maxRecDepth 100000 in
set_option maxHeartbeats 2000000 in
theorem rself_iny (a x y s p n : Int) (hu : Ok ⟨a, x, y, s, p⟩) (hn : (y + 1) % 256 = n) (w : World) :
    Calls Try.prog 22 #[rv a x y s p, .string { data := #[73, 78, 89] }] w fun e w' => e = .returned (rr (sgU ⟨a, x, n, s, p⟩ n)) ∧ Ext w w' := by
  obtain ⟨⟨ha, ha2⟩, ⟨hx, hx2⟩, ⟨hy, hy2⟩, ⟨hs, hs2⟩, ⟨hp, hp2⟩⟩ := hu
  simp only at ha ha2 hx hx2 hy hy2 hs hs2 hp hp2
  have n0 : 0 ≤ n := by omega
  have n1 : n < 256 := by omega
  have FG : ∀ w, Calls Try.prog 39 #[.agg #[.int .i64 a, .int .i64 x, .int .i64 y, .int .i64 s, .int .i64 p], .int .u8 89] w fun e w' => e = .returned (.int .i64 y) ∧ Ext w w' := fun w => rget_Y a x y s p w
  have FP : ∀ w, Calls Try.prog 40 #[.agg #[.int .i64 a, .int .i64 x, .int .i64 y, .int .i64 s, .int .i64 p], .int .u8 89, .int .i64 n] w fun e w' => e = .returned (.agg #[.int .i64 a, .int .i64 x, .int .i64 n, .int .i64 s, .int .i64 p]) ∧ Ext w w' := fun w => rput_Y a x y s p n w
  have FS := fun w => rsign_any a x n s p n hp hp2 n0 n1 w
  unfold rr rv at FS
  have x2 : ∀ w, (Instr.index 9 (.string { data := #[73, 78, 89] }) (.int .i64 2)).run Try.prog w = .ok (.int .u8 89) w := fun _ => by kernel_rfl
  have e1 : IntKind.i64.wrap (y + 1) = y + 1 := IntWalk.i64_in _ ⟨by omega, by omega⟩
  have t1 : (y + 1).tmod 256 = n := (Int.tmod_eq_emod_of_nonneg (by omega)).trans hn
  clear hn
  have r1 := ext_cell
  have r2 := ext_frozen
  have r3 := ext_setCell
  have r4 := ext_lt
  have r5 := ext_drew
  have r6 := ext_ext
  unfold rr rv
  go_enter Try.func22, Try.ntmps22
  go_upto_region 20 with (fail)
  go_region_held3 (fun v => w.heap.size < v.heap.size ∧ v.cell? ⟨w.heap.size, 0, none⟩ = some (.int .i64 a) ∧ v.cell? ⟨w.heap.size, 1, none⟩ = some (.int .i64 x) ∧ v.cell? ⟨w.heap.size, 2, none⟩ = some (.int .i64 y) ∧ v.cell? ⟨w.heap.size, 3, none⟩ = some (.int .i64 s) ∧ v.cell? ⟨w.heap.size, 4, none⟩ = some (.int .i64 p)) (first | assumption | exact bx_ext (by assumption) _ _ | (simp [go_sem]; done) | (refine bx_ext ?_ _ _; simp [go_sem]; done)) (first | (go_at_call 39; refine (FG _).mono ?_; rintro e w' ⟨rfl, os, q, rfl⟩))
  all_goals
    go_upto_region 21 with (fail)
    go_region_held3 (fun v => w.heap.size < v.heap.size ∧ v.cell? ⟨w.heap.size, 0, none⟩ = some (.int .i64 a) ∧ v.cell? ⟨w.heap.size, 1, none⟩ = some (.int .i64 x) ∧ v.cell? ⟨w.heap.size, 2, none⟩ = some (.int .i64 y) ∧ v.cell? ⟨w.heap.size, 3, none⟩ = some (.int .i64 s) ∧ v.cell? ⟨w.heap.size, 4, none⟩ = some (.int .i64 p)) (first | assumption | exact bx_ext (by assumption) _ _ | (simp [go_sem]; done) | (refine bx_ext ?_ _ _; simp [go_sem]; done)) (first | (go_at_call 40; refine (FP _).mono ?_; rintro e w' ⟨rfl, os, q, rfl⟩) | (go_at_call 31; refine (FS _).mono ?_; rintro e w' ⟨rfl, os, q, rfl⟩))
    all_goals
      go_wp2
      refine bodyPost_ret (by simp [results, Try.results22, go_sem, *] <;> (repeat' (first | exact rfl | refine And.intro ?_ ?_))) rfl ⟨rfl, ?_⟩
      repeat (first | exact Ext.refl _ | refine Ext.alloc ?_ _ | refine Ext.ext ?_ _ _ | refine Ext.drew ?_ | refine Ext.drewN ?_ _)

set_option maxRecDepth 100000 in
set_option maxHeartbeats 2000000 in
theorem rself_dex (a x y s p n : Int) (hu : Ok ⟨a, x, y, s, p⟩) (hn : (x + 255) % 256 = n) (w : World) :
    Calls Try.prog 22 #[rv a x y s p, .string { data := #[68, 69, 88] }] w fun e w' => e = .returned (rr (sgU ⟨a, n, y, s, p⟩ n)) ∧ Ext w w' := by
  obtain ⟨⟨ha, ha2⟩, ⟨hx, hx2⟩, ⟨hy, hy2⟩, ⟨hs, hs2⟩, ⟨hp, hp2⟩⟩ := hu
  simp only at ha ha2 hx hx2 hy hy2 hs hs2 hp hp2
  have n0 : 0 ≤ n := by omega
  have n1 : n < 256 := by omega
  have FG : ∀ w, Calls Try.prog 39 #[.agg #[.int .i64 a, .int .i64 x, .int .i64 y, .int .i64 s, .int .i64 p], .int .u8 88] w fun e w' => e = .returned (.int .i64 x) ∧ Ext w w' := fun w => rget_X a x y s p w
  have FP : ∀ w, Calls Try.prog 40 #[.agg #[.int .i64 a, .int .i64 x, .int .i64 y, .int .i64 s, .int .i64 p], .int .u8 88, .int .i64 n] w fun e w' => e = .returned (.agg #[.int .i64 a, .int .i64 n, .int .i64 y, .int .i64 s, .int .i64 p]) ∧ Ext w w' := fun w => rput_X a x y s p n w
  have FS := fun w => rsign_any a n y s p n hp hp2 n0 n1 w
  unfold rr rv at FS
  have x2 : ∀ w, (Instr.index 9 (.string { data := #[68, 69, 88] }) (.int .i64 2)).run Try.prog w = .ok (.int .u8 88) w := fun _ => by kernel_rfl
  have e1 : IntKind.i64.wrap (x + 255) = x + 255 := IntWalk.i64_in _ ⟨by omega, by omega⟩
  have t1 : (x + 255).tmod 256 = n := (Int.tmod_eq_emod_of_nonneg (by omega)).trans hn
  clear hn
  have r1 := ext_cell
  have r2 := ext_frozen
  have r3 := ext_setCell
  have r4 := ext_lt
  have r5 := ext_drew
  have r6 := ext_ext
  unfold rr rv
  go_enter Try.func22, Try.ntmps22
  go_upto_region 24 with (fail)
  go_region_held3 (fun v => w.heap.size < v.heap.size ∧ v.cell? ⟨w.heap.size, 0, none⟩ = some (.int .i64 a) ∧ v.cell? ⟨w.heap.size, 1, none⟩ = some (.int .i64 x) ∧ v.cell? ⟨w.heap.size, 2, none⟩ = some (.int .i64 y) ∧ v.cell? ⟨w.heap.size, 3, none⟩ = some (.int .i64 s) ∧ v.cell? ⟨w.heap.size, 4, none⟩ = some (.int .i64 p)) (first | assumption | exact bx_ext (by assumption) _ _ | (simp [go_sem]; done) | (refine bx_ext ?_ _ _; simp [go_sem]; done)) (first | (go_at_call 39; refine (FG _).mono ?_; rintro e w' ⟨rfl, os, q, rfl⟩))
  all_goals
    go_upto_region 25 with (fail)
    go_region_held3 (fun v => w.heap.size < v.heap.size ∧ v.cell? ⟨w.heap.size, 0, none⟩ = some (.int .i64 a) ∧ v.cell? ⟨w.heap.size, 1, none⟩ = some (.int .i64 x) ∧ v.cell? ⟨w.heap.size, 2, none⟩ = some (.int .i64 y) ∧ v.cell? ⟨w.heap.size, 3, none⟩ = some (.int .i64 s) ∧ v.cell? ⟨w.heap.size, 4, none⟩ = some (.int .i64 p)) (first | assumption | exact bx_ext (by assumption) _ _ | (simp [go_sem]; done) | (refine bx_ext ?_ _ _; simp [go_sem]; done)) (first | (go_at_call 40; refine (FP _).mono ?_; rintro e w' ⟨rfl, os, q, rfl⟩) | (go_at_call 31; refine (FS _).mono ?_; rintro e w' ⟨rfl, os, q, rfl⟩))
    all_goals
      go_wp2
      refine bodyPost_ret (by simp [results, Try.results22, go_sem, *] <;> (repeat' (first | exact rfl | refine And.intro ?_ ?_))) rfl ⟨rfl, ?_⟩
      repeat (first | exact Ext.refl _ | refine Ext.alloc ?_ _ | refine Ext.ext ?_ _ _ | refine Ext.drew ?_ | refine Ext.drewN ?_ _)

set_option maxRecDepth 100000 in
set_option maxHeartbeats 2000000 in
theorem rself_dey (a x y s p n : Int) (hu : Ok ⟨a, x, y, s, p⟩) (hn : (y + 255) % 256 = n) (w : World) :
    Calls Try.prog 22 #[rv a x y s p, .string { data := #[68, 69, 89] }] w fun e w' => e = .returned (rr (sgU ⟨a, x, n, s, p⟩ n)) ∧ Ext w w' := by
  obtain ⟨⟨ha, ha2⟩, ⟨hx, hx2⟩, ⟨hy, hy2⟩, ⟨hs, hs2⟩, ⟨hp, hp2⟩⟩ := hu
  simp only at ha ha2 hx hx2 hy hy2 hs hs2 hp hp2
  have n0 : 0 ≤ n := by omega
  have n1 : n < 256 := by omega
  have FG : ∀ w, Calls Try.prog 39 #[.agg #[.int .i64 a, .int .i64 x, .int .i64 y, .int .i64 s, .int .i64 p], .int .u8 89] w fun e w' => e = .returned (.int .i64 y) ∧ Ext w w' := fun w => rget_Y a x y s p w
  have FP : ∀ w, Calls Try.prog 40 #[.agg #[.int .i64 a, .int .i64 x, .int .i64 y, .int .i64 s, .int .i64 p], .int .u8 89, .int .i64 n] w fun e w' => e = .returned (.agg #[.int .i64 a, .int .i64 x, .int .i64 n, .int .i64 s, .int .i64 p]) ∧ Ext w w' := fun w => rput_Y a x y s p n w
  have FS := fun w => rsign_any a x n s p n hp hp2 n0 n1 w
  unfold rr rv at FS
  have x2 : ∀ w, (Instr.index 9 (.string { data := #[68, 69, 89] }) (.int .i64 2)).run Try.prog w = .ok (.int .u8 89) w := fun _ => by kernel_rfl
  have e1 : IntKind.i64.wrap (y + 255) = y + 255 := IntWalk.i64_in _ ⟨by omega, by omega⟩
  have t1 : (y + 255).tmod 256 = n := (Int.tmod_eq_emod_of_nonneg (by omega)).trans hn
  clear hn
  have r1 := ext_cell
  have r2 := ext_frozen
  have r3 := ext_setCell
  have r4 := ext_lt
  have r5 := ext_drew
  have r6 := ext_ext
  unfold rr rv
  go_enter Try.func22, Try.ntmps22
  go_upto_region 24 with (fail)
  go_region_held3 (fun v => w.heap.size < v.heap.size ∧ v.cell? ⟨w.heap.size, 0, none⟩ = some (.int .i64 a) ∧ v.cell? ⟨w.heap.size, 1, none⟩ = some (.int .i64 x) ∧ v.cell? ⟨w.heap.size, 2, none⟩ = some (.int .i64 y) ∧ v.cell? ⟨w.heap.size, 3, none⟩ = some (.int .i64 s) ∧ v.cell? ⟨w.heap.size, 4, none⟩ = some (.int .i64 p)) (first | assumption | exact bx_ext (by assumption) _ _ | (simp [go_sem]; done) | (refine bx_ext ?_ _ _; simp [go_sem]; done)) (first | (go_at_call 39; refine (FG _).mono ?_; rintro e w' ⟨rfl, os, q, rfl⟩))
  all_goals
    go_upto_region 25 with (fail)
    go_region_held3 (fun v => w.heap.size < v.heap.size ∧ v.cell? ⟨w.heap.size, 0, none⟩ = some (.int .i64 a) ∧ v.cell? ⟨w.heap.size, 1, none⟩ = some (.int .i64 x) ∧ v.cell? ⟨w.heap.size, 2, none⟩ = some (.int .i64 y) ∧ v.cell? ⟨w.heap.size, 3, none⟩ = some (.int .i64 s) ∧ v.cell? ⟨w.heap.size, 4, none⟩ = some (.int .i64 p)) (first | assumption | exact bx_ext (by assumption) _ _ | (simp [go_sem]; done) | (refine bx_ext ?_ _ _; simp [go_sem]; done)) (first | (go_at_call 40; refine (FP _).mono ?_; rintro e w' ⟨rfl, os, q, rfl⟩) | (go_at_call 31; refine (FS _).mono ?_; rintro e w' ⟨rfl, os, q, rfl⟩))
    all_goals
      go_wp2
      refine bodyPost_ret (by simp [results, Try.results22, go_sem, *] <;> (repeat' (first | exact rfl | refine And.intro ?_ ?_))) rfl ⟨rfl, ?_⟩
      repeat (first | exact Ext.refl _ | refine Ext.alloc ?_ _ | refine Ext.ext ?_ _ _ | refine Ext.drew ?_ | refine Ext.drewN ?_ _)

end Go.Proofs.Ytigpmmjbdpnkjaa
