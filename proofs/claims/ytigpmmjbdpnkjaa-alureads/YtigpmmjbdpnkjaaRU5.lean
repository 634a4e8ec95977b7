/- The document's operations that read (kotatsuref08.Read): the others. No law is claimed here. -/
import Derived.Test.YtigpmmjbdpnkjaaRU3
namespace Go.Proofs.Ytigpmmjbdpnkjaa
open Go.RowKit

set_option maxRecDepth 100000 in
set_option maxHeartbeats 1000000 in
theorem rread_lax (a x y s p m : Int) (hu : Ok ⟨a, x, y, s, p⟩) (hm : 0 ≤ m ∧ m < 256) (w : World) :
    Calls Try.prog 16 #[rv a x y s p, .string { data := #[76, 65, 88] }, .int .i64 m] w fun e w' => e = .returned (rr (sgU ⟨m, m, y, s, p⟩ m)) ∧ Ext w w' := by
  obtain ⟨⟨ha, ha2⟩, ⟨hx, hx2⟩, ⟨hy, hy2⟩, ⟨hs, hs2⟩, ⟨hp, hp2⟩⟩ := hu
  obtain ⟨hm, hm2⟩ := hm
  simp only at ha ha2 hx hx2 hy hy2 hs hs2 hp hp2
  have FG := rsign_any
  unfold rr rv at FG
  have t3 := yesB
  have r1 := ext_cell
  have r2 := ext_frozen
  have r3 := ext_setCell
  have r4 := ext_lt
  have r5 := ext_drew
  have r6 := ext_ext
  unfold rr rv
  go_enter Try.func16, Try.ntmps16
  go_wp2_with (first | (go_at_call 31; refine (FG _ _ _ _ _ _ (by first | assumption | exact (flU_u8 _ _ _).1 | exact (sgU_u8 _ _).1) (by first | assumption | exact (flU_u8 _ _ _).2 | exact (sgU_u8 _ _).2) (by first | assumption | omega) (by first | assumption | omega) _).mono ?_; rintro e w' ⟨rfl, os, q, rfl⟩))
  all_goals
    refine bodyPost_ret (by simp [results, Try.results16, go_sem, *] <;> (repeat' (first | exact rfl | refine And.intro ?_ ?_))) rfl ⟨rfl, ?_⟩
    repeat (first | exact Ext.refl _ | refine Ext.alloc ?_ _ | refine Ext.ext ?_ _ _ | refine Ext.drew ?_ | refine Ext.drewN ?_ _)

set_option maxRecDepth 100000 in
set_option maxHeartbeats 1000000 in
theorem rread_anc (a x y s p m b : Int) (hu : Ok ⟨a, x, y, s, p⟩) (hm : 0 ≤ m ∧ m < 256) (hb : 0 ≤ b) (hb2 : b < 256) (tb : bits .and .i64 a m = b) (w : World) :
    Calls Try.prog 16 #[rv a x y s p, .string { data := #[65, 78, 67] }, .int .i64 m] w fun e w' => e = .returned (rr (sgU (flU ⟨b, x, y, s, p⟩ 1 (b / 128 == 1)) b)) ∧ Ext w w' := by
  obtain ⟨⟨ha, ha2⟩, ⟨hx, hx2⟩, ⟨hy, hy2⟩, ⟨hs, hs2⟩, ⟨hp, hp2⟩⟩ := hu
  obtain ⟨hm, hm2⟩ := hm
  simp only at ha ha2 hx hx2 hy hy2 hs hs2 hp hp2
  have FS := rset_any
  unfold rr rv at FS
  have FG := rsign_any
  unfold rr rv at FG
  have t3 := yesB
  have t1 : b.tdiv 128 = b / 128 := Int.tdiv_eq_ediv_of_nonneg hb
  have t4 : 0 ≤ b / 128 := by omega
  have t5 : b / 128 ≤ 1 := by omega
  have r1 := ext_cell
  have r2 := ext_frozen
  have r3 := ext_setCell
  have r4 := ext_lt
  have r5 := ext_drew
  have r6 := ext_ext
  unfold rr rv
  go_enter Try.func16, Try.ntmps16
  go_wp2_with (first | (go_at_call 32; refine (FS _ _ _ _ _ _ _ (by first | assumption | exact (flU_u8 _ _ _).1 | exact (sgU_u8 _ _).1) (by first | assumption | exact (flU_u8 _ _ _).2 | exact (sgU_u8 _ _).2) rfl (by first | assumption | exact yes0 _ | omega) (by first | assumption | exact yes1 _ | omega) _).mono ?_; rintro e w' ⟨rfl, os, q, rfl⟩) | (go_at_call 31; refine (FG _ _ _ _ _ _ (by first | assumption | exact (flU_u8 _ _ _).1 | exact (sgU_u8 _ _).1) (by first | assumption | exact (flU_u8 _ _ _).2 | exact (sgU_u8 _ _).2) (by first | assumption | omega) (by first | assumption | omega) _).mono ?_; rintro e w' ⟨rfl, os, q, rfl⟩))
  all_goals
    refine bodyPost_ret (by simp [results, Try.results16, go_sem, *] <;> (repeat' (first | exact rfl | refine And.intro ?_ ?_))) rfl ⟨rfl, ?_⟩
    repeat (first | exact Ext.refl _ | refine Ext.alloc ?_ _ | refine Ext.ext ?_ _ _ | refine Ext.drew ?_ | refine Ext.drewN ?_ _)

set_option maxRecDepth 100000 in
set_option maxHeartbeats 1000000 in
theorem rread_alr (a x y s p m b : Int) (hu : Ok ⟨a, x, y, s, p⟩) (hm : 0 ≤ m ∧ m < 256) (hb : 0 ≤ b) (hb2 : b < 256) (tb : bits .and .i64 a m = b) (w : World) :
    Calls Try.prog 16 #[rv a x y s p, .string { data := #[65, 76, 82] }, .int .i64 m] w fun e w' => e = .returned (rr (sgU (flU ⟨b / 2, x, y, s, p⟩ 1 (b % 2 == 1)) (b / 2))) ∧ Ext w w' := by
  obtain ⟨⟨ha, ha2⟩, ⟨hx, hx2⟩, ⟨hy, hy2⟩, ⟨hs, hs2⟩, ⟨hp, hp2⟩⟩ := hu
  obtain ⟨hm, hm2⟩ := hm
  simp only at ha ha2 hx hx2 hy hy2 hs hs2 hp hp2
  have FS := rset_any
  unfold rr rv at FS
  have FG := rsign_any
  unfold rr rv at FG
  have t3 := yesB
  have t1 : b.tmod 2 = b % 2 := Int.tmod_eq_emod_of_nonneg hb
  have t2 : b.tdiv 2 = b / 2 := Int.tdiv_eq_ediv_of_nonneg hb
  have t4 : 0 ≤ b % 2 := by omega
  have t5 : b % 2 ≤ 1 := by omega
  have t6 : 0 ≤ b / 2 := by omega
  have t7 : b / 2 < 256 := by omega
  have q0 : ∀ u f on, (flU u f on).a = u.a := fun _ _ _ => rfl
  have r1 := ext_cell
  have r2 := ext_frozen
  have r3 := ext_setCell
  have r4 := ext_lt
  have r5 := ext_drew
  have r6 := ext_ext
  unfold rr rv
  go_enter Try.func16, Try.ntmps16
  go_wp2_with (first | (go_at_call 32; refine (FS _ _ _ _ _ _ _ (by first | assumption | exact (flU_u8 _ _ _).1 | exact (sgU_u8 _ _).1) (by first | assumption | exact (flU_u8 _ _ _).2 | exact (sgU_u8 _ _).2) rfl (by first | assumption | exact yes0 _ | omega) (by first | assumption | exact yes1 _ | omega) _).mono ?_; rintro e w' ⟨rfl, os, q, rfl⟩) | (go_at_call 31; refine (FG _ _ _ _ _ _ (by first | assumption | exact (flU_u8 _ _ _).1 | exact (sgU_u8 _ _).1) (by first | assumption | exact (flU_u8 _ _ _).2 | exact (sgU_u8 _ _).2) (by first | assumption | omega) (by first | assumption | omega) _).mono ?_; rintro e w' ⟨rfl, os, q, rfl⟩))
  all_goals
    refine bodyPost_ret (by simp [results, Try.results16, go_sem, *] <;> (repeat' (first | exact rfl | refine And.intro ?_ ?_))) rfl ⟨rfl, ?_⟩
    repeat (first | exact Ext.refl _ | refine Ext.alloc ?_ _ | refine Ext.ext ?_ _ _ | refine Ext.drew ?_ | refine Ext.drewN ?_ _)

set_option maxRecDepth 100000 in
set_option maxHeartbeats 1000000 in
theorem rread_axs (a x y s p m b : Int) (hu : Ok ⟨a, x, y, s, p⟩) (hm : 0 ≤ m ∧ m < 256) (hb : 0 ≤ b) (hb2 : b < 256) (tb : bits .and .i64 a x = b) (w : World) :
    Calls Try.prog 16 #[rv a x y s p, .string { data := #[65, 88, 83] }, .int .i64 m] w fun e w' => e = .returned (rr ({ cmpU ⟨a, x, y, s, p⟩ b m with x := IntKind.u8.wrap (b - m) })) ∧ Ext w w' := by
  obtain ⟨⟨ha, ha2⟩, ⟨hx, hx2⟩, ⟨hy, hy2⟩, ⟨hs, hs2⟩, ⟨hp, hp2⟩⟩ := hu
  obtain ⟨hm, hm2⟩ := hm
  simp only at ha ha2 hx hx2 hy hy2 hs hs2 hp hp2
  have FL := rless_any
  unfold rr rv at FL
  have t3 := yesB
  have t1 : (b + 256 - m).tmod 256 = IntKind.u8.wrap (b - m) := by rw [Int.tmod_eq_emod_of_nonneg (by omega), wrap_u8_mod]; omega
  have r1 := ext_cell
  have r2 := ext_frozen
  have r3 := ext_setCell
  have r4 := ext_lt
  have r5 := ext_drew
  have r6 := ext_ext
  unfold rr rv
  go_enter Try.func16, Try.ntmps16
  go_wp2_with (first | (go_at_call 30; refine (FL _ _ _ _ _ _ _ (by assumption) (by assumption) (by assumption) (by assumption) (by assumption) (by assumption) _).mono ?_; rintro e w' ⟨rfl, os, q, rfl⟩))
  all_goals
    refine bodyPost_ret (by simp [results, Try.results16, go_sem, *] <;> (repeat' (first | exact rfl | refine And.intro ?_ ?_))) rfl ⟨rfl, ?_⟩
    repeat (first | exact Ext.refl _ | refine Ext.alloc ?_ _ | refine Ext.ext ?_ _ _ | refine Ext.drew ?_ | refine Ext.drewN ?_ _)

set_option maxRecDepth 100000 in
set_option maxHeartbeats 1000000 in
theorem rread_bit (a x y s p m b : Int) (hu : Ok ⟨a, x, y, s, p⟩) (hm : 0 ≤ m ∧ m < 256) (tb : bits .and .i64 a m = b) (w : World) :
    Calls Try.prog 16 #[rv a x y s p, .string { data := #[66, 73, 84] }, .int .i64 m] w fun e w' => e = .returned (rr (flU (flU (flU ⟨a, x, y, s, p⟩ 128 (m / 128 == 1)) 64 (m / 64 % 2 == 1)) 2 (b == 0))) ∧ Ext w w' := by
  obtain ⟨⟨ha, ha2⟩, ⟨hx, hx2⟩, ⟨hy, hy2⟩, ⟨hs, hs2⟩, ⟨hp, hp2⟩⟩ := hu
  obtain ⟨hm, hm2⟩ := hm
  simp only at ha ha2 hx hx2 hy hy2 hs hs2 hp hp2
  have FS := rset_any
  unfold rr rv at FS
  have FY := ryes_any
  have FH := rhas_any
  have t3 := yesB
  have t1 : m.tdiv 128 = m / 128 := Int.tdiv_eq_ediv_of_nonneg hm
  have t4 : 0 ≤ m / 128 := by omega
  have t5 : m / 128 ≤ 1 := by omega
  have t6 : 0 ≤ m / 64 % 2 := by omega
  have t7 : m / 64 % 2 ≤ 1 := by omega
  have t8 : IntKind.i64.wrap (m / 128) = m / 128 := IntWalk.i64_in _ ⟨by omega, by omega⟩
  have r1 := ext_cell
  have r2 := ext_frozen
  have r3 := ext_setCell
  have r4 := ext_lt
  have r5 := ext_drew
  have r6 := ext_ext
  unfold rr rv
  go_enter Try.func16, Try.ntmps16
  go_upto_region 31 with (fail)
  go_region_held3 (fun v => w.heap.size < v.heap.size ∧ v.cell? ⟨w.heap.size, 0, none⟩ = some (.int .i64 a) ∧ v.cell? ⟨w.heap.size, 1, none⟩ = some (.int .i64 x) ∧ v.cell? ⟨w.heap.size, 2, none⟩ = some (.int .i64 y) ∧ v.cell? ⟨w.heap.size, 3, none⟩ = some (.int .i64 s) ∧ v.cell? ⟨w.heap.size, 4, none⟩ = some (.int .i64 p)) (first | assumption | exact bx_ext (by assumption) _ _ | (simp [go_sem]; done) | (refine bx_ext ?_ _ _; simp [go_sem]; done)) (first | (go_at_call 32; refine (FS _ _ _ _ _ _ _ (by first | assumption | exact (flU_u8 _ _ _).1 | exact (sgU_u8 _ _).1) (by first | assumption | exact (flU_u8 _ _ _).2 | exact (sgU_u8 _ _).2) rfl (by first | assumption | exact yes0 _ | omega) (by first | assumption | exact yes1 _ | omega) _).mono ?_; rintro e w' ⟨rfl, os, q, rfl⟩) | (go_at_call 34; refine (FY _ _).mono ?_; rintro e w' ⟨rfl, rfl⟩) | (go_at_call 33; refine (FH _ _ (by first | assumption | exact (flU_u8 _ _ _).1) (by first | assumption | exact (flU_u8 _ _ _).2) (by decide) (by decide) _).mono ?_; rintro e w' ⟨rfl, rfl⟩))
  all_goals go_wp2
  all_goals
    refine bodyPost_ret (by simp [results, Try.results16, go_sem, *] <;> (repeat' (first | exact rfl | refine And.intro ?_ ?_))) rfl ⟨rfl, ?_⟩
    repeat (first | exact Ext.refl _ | refine Ext.alloc ?_ _ | refine Ext.ext ?_ _ _ | refine Ext.drew ?_ | refine Ext.drewN ?_ _)

set_option maxRecDepth 100000 in
set_option maxHeartbeats 1000000 in
theorem rread_las (a x y s p m b : Int) (hu : Ok ⟨a, x, y, s, p⟩) (hm : 0 ≤ m ∧ m < 256) (hb : 0 ≤ b) (hb2 : b < 256) (tb : bits .and .i64 s m = b) (w : World) :
    Calls Try.prog 16 #[rv a x y s p, .string { data := #[76, 65, 83] }, .int .i64 m] w fun e w' => e = .returned (rr (sgU ⟨b, b, y, b, p⟩ b)) ∧ Ext w w' := by
  obtain ⟨⟨ha, ha2⟩, ⟨hx, hx2⟩, ⟨hy, hy2⟩, ⟨hs, hs2⟩, ⟨hp, hp2⟩⟩ := hu
  obtain ⟨hm, hm2⟩ := hm
  simp only at ha ha2 hx hx2 hy hy2 hs hs2 hp hp2
  have FG := rsign_any
  unfold rr rv at FG
  have t3 := yesB
  have r1 := ext_cell
  have r2 := ext_frozen
  have r3 := ext_setCell
  have r4 := ext_lt
  have r5 := ext_drew
  have r6 := ext_ext
  unfold rr rv
  go_enter Try.func16, Try.ntmps16
  go_wp2_with (first | (go_at_call 31; refine (FG _ _ _ _ _ _ (by first | assumption | exact (flU_u8 _ _ _).1 | exact (sgU_u8 _ _).1) (by first | assumption | exact (flU_u8 _ _ _).2 | exact (sgU_u8 _ _).2) (by first | assumption | omega) (by first | assumption | omega) _).mono ?_; rintro e w' ⟨rfl, os, q, rfl⟩))
  all_goals
    refine bodyPost_ret (by simp [results, Try.results16, go_sem, *] <;> (repeat' (first | exact rfl | refine And.intro ?_ ?_))) rfl ⟨rfl, ?_⟩
    repeat (first | exact Ext.refl _ | refine Ext.alloc ?_ _ | refine Ext.ext ?_ _ _ | refine Ext.drew ?_ | refine Ext.drewN ?_ _)

end Go.Proofs.Ytigpmmjbdpnkjaa
