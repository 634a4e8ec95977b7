/- The document's operations that read (kotatsuref08.Read): one register. No law is claimed here. -/
import Derived.Test.YtigpmmjbdpnkjaaRU3
namespace Go.Proofs.Ytigpmmjbdpnkjaa
open Go.RowKit

set_option maxRecDepth 100000 in
set_option maxHeartbeats 1000000 in
theorem rread_ora (a x y s p m b : Int) (hu : Ok ⟨a, x, y, s, p⟩) (hm : 0 ≤ m ∧ m < 256) (hb : 0 ≤ b) (hb2 : b < 256) (tb : bits .or .i64 a m = b) (w : World) :
    Calls Try.prog 16 #[rv a x y s p, .string { data := #[79, 82, 65] }, .int .i64 m] w fun e w' => e = .returned (rr (ldaU ⟨a, x, y, s, p⟩ b)) ∧ Ext w w' := by
  obtain ⟨⟨ha, ha2⟩, ⟨hx, hx2⟩, ⟨hy, hy2⟩, ⟨hs, hs2⟩, ⟨hp, hp2⟩⟩ := hu
  obtain ⟨hm, hm2⟩ := hm
  simp only at ha ha2 hx hx2 hy hy2 hs hs2 hp hp2
  have FG := rsign_any
  unfold rr rv at FG
  have t3 := yesB
  have r1 := ext_cell
  have r2 := ext_frozen
  have r3 := ext_setCell
  have r4 := ext_lt
  have r5 := ext_drew
  have r6 := ext_ext
  unfold rr rv
  go_enter Try.func16, Try.ntmps16
  go_wp2_with (first | (go_at_call 31; refine (FG _ _ _ _ _ _ (by first | assumption | exact (flU_u8 _ _ _).1 | exact (sgU_u8 _ _).1) (by first | assumption | exact (flU_u8 _ _ _).2 | exact (sgU_u8 _ _).2) (by first | assumption | omega) (by first | assumption | omega) _).mono ?_; rintro e w' ⟨rfl, os, q, rfl⟩))
  all_goals
    refine bodyPost_ret (by simp [results, Try.results16, go_sem, *] <;> (repeat' (first | exact rfl | refine And.intro ?_ ?_))) rfl ⟨rfl, ?_⟩
    repeat (first | exact Ext.refl _ | refine Ext.alloc ?_ _ | refine Ext.ext ?_ _ _ | refine Ext.drew ?_ | refine Ext.drewN ?_ _)

set_option maxRecDepth 100000 in
set_option maxHeartbeats 1000000 in
theorem rread_and (a x y s p m b : Int) (hu : Ok ⟨a, x, y, s, p⟩) (hm : 0 ≤ m ∧ m < 256) (hb : 0 ≤ b) (hb2 : b < 256) (tb : bits .and .i64 a m = b) (w : World) :
    Calls Try.prog 16 #[rv a x y s p, .string { data := #[65, 78, 68] }, .int .i64 m] w fun e w' => e = .returned (rr (ldaU ⟨a, x, y, s, p⟩ b)) ∧ Ext w w' := by
  obtain ⟨⟨ha, ha2⟩, ⟨hx, hx2⟩, ⟨hy, hy2⟩, ⟨hs, hs2⟩, ⟨hp, hp2⟩⟩ := hu
  obtain ⟨hm, hm2⟩ := hm
  simp only at ha ha2 hx hx2 hy hy2 hs hs2 hp hp2
  have FG := rsign_any
  unfold rr rv at FG
  have t3 := yesB
  have r1 := ext_cell
  have r2 := ext_frozen
  have r3 := ext_setCell
  have r4 := ext_lt
  have r5 := ext_drew
  have r6 := ext_ext
  unfold rr rv
  go_enter Try.func16, Try.ntmps16
  go_wp2_with (first | (go_at_call 31; refine (FG _ _ _ _ _ _ (by first | assumption | exact (flU_u8 _ _ _).1 | exact (sgU_u8 _ _).1) (by first | assumption | exact (flU_u8 _ _ _).2 | exact (sgU_u8 _ _).2) (by first | assumption | omega) (by first | assumption | omega) _).mono ?_; rintro e w' ⟨rfl, os, q, rfl⟩))
  all_goals
    refine bodyPost_ret (by simp [results, Try.results16, go_sem, *] <;> (repeat' (first | exact rfl | refine And.intro ?_ ?_))) rfl ⟨rfl, ?_⟩
    repeat (first | exact Ext.refl _ | refine Ext.alloc ?_ _ | refine Ext.ext ?_ _ _ | refine Ext.drew ?_ | refine Ext.drewN ?_ _)

set_option maxRecDepth 100000 in
set_option maxHeartbeats 1000000 in
theorem rread_eor (a x y s p m b : Int) (hu : Ok ⟨a, x, y, s, p⟩) (hm : 0 ≤ m ∧ m < 256) (hb : 0 ≤ b) (hb2 : b < 256) (tb : bits .xor .i64 a m = b) (w : World) :
    Calls Try.prog 16 #[rv a x y s p, .string { data := #[69, 79, 82] }, .int .i64 m] w fun e w' => e = .returned (rr (ldaU ⟨a, x, y, s, p⟩ b)) ∧ Ext w w' := by
  obtain ⟨⟨ha, ha2⟩, ⟨hx, hx2⟩, ⟨hy, hy2⟩, ⟨hs, hs2⟩, ⟨hp, hp2⟩⟩ := hu
  obtain ⟨hm, hm2⟩ := hm
  simp only at ha ha2 hx hx2 hy hy2 hs hs2 hp hp2
  have FG := rsign_any
  unfold rr rv at FG
  have t3 := yesB
  have r1 := ext_cell
  have r2 := ext_frozen
  have r3 := ext_setCell
  have r4 := ext_lt
  have r5 := ext_drew
  have r6 := ext_ext
  unfold rr rv
  go_enter Try.func16, Try.ntmps16
  go_wp2_with (first | (go_at_call 31; refine (FG _ _ _ _ _ _ (by first | assumption | exact (flU_u8 _ _ _).1 | exact (sgU_u8 _ _).1) (by first | assumption | exact (flU_u8 _ _ _).2 | exact (sgU_u8 _ _).2) (by first | assumption | omega) (by first | assumption | omega) _).mono ?_; rintro e w' ⟨rfl, os, q, rfl⟩))
  all_goals
    refine bodyPost_ret (by simp [results, Try.results16, go_sem, *] <;> (repeat' (first | exact rfl | refine And.intro ?_ ?_))) rfl ⟨rfl, ?_⟩
    repeat (first | exact Ext.refl _ | refine Ext.alloc ?_ _ | refine Ext.ext ?_ _ _ | refine Ext.drew ?_ | refine Ext.drewN ?_ _)

set_option maxRecDepth 100000 in
set_option maxHeartbeats 1000000 in
theorem rread_adc (a x y s p m : Int) (hu : Ok ⟨a, x, y, s, p⟩) (hm : 0 ≤ m ∧ m < 256) (w : World) :
    Calls Try.prog 16 #[rv a x y s p, .string { data := #[65, 68, 67] }, .int .i64 m] w fun e w' => e = .returned (rr (adcU ⟨a, x, y, s, p⟩ m)) ∧ Ext w w' := by
  obtain ⟨⟨ha, ha2⟩, ⟨hx, hx2⟩, ⟨hy, hy2⟩, ⟨hs, hs2⟩, ⟨hp, hp2⟩⟩ := hu
  obtain ⟨hm, hm2⟩ := hm
  simp only at ha ha2 hx hx2 hy hy2 hs hs2 hp hp2
  have FA := radd_any
  unfold rr rv at FA
  have t3 := yesB
  have r1 := ext_cell
  have r2 := ext_frozen
  have r3 := ext_setCell
  have r4 := ext_lt
  have r5 := ext_drew
  have r6 := ext_ext
  unfold rr rv
  go_enter Try.func16, Try.ntmps16
  go_wp2_with (first | (go_at_call 29; refine (FA _ _ _ _ _ _ (by assumption) (by assumption) (by assumption) (by assumption) (by first | assumption | omega) (by first | assumption | omega) _).mono ?_; rintro e w' ⟨rfl, os, q, rfl⟩))
  all_goals
    refine bodyPost_ret (by simp [results, Try.results16, go_sem, *] <;> (repeat' (first | exact rfl | refine And.intro ?_ ?_))) rfl ⟨rfl, ?_⟩
    repeat (first | exact Ext.refl _ | refine Ext.alloc ?_ _ | refine Ext.ext ?_ _ _ | refine Ext.drew ?_ | refine Ext.drewN ?_ _)

set_option maxRecDepth 100000 in
set_option maxHeartbeats 1000000 in
theorem rread_sbc (a x y s p m : Int) (hu : Ok ⟨a, x, y, s, p⟩) (hm : 0 ≤ m ∧ m < 256) (w : World) :
    Calls Try.prog 16 #[rv a x y s p, .string { data := #[83, 66, 67] }, .int .i64 m] w fun e w' => e = .returned (rr (adcU ⟨a, x, y, s, p⟩ (255 - m))) ∧ Ext w w' := by
  obtain ⟨⟨ha, ha2⟩, ⟨hx, hx2⟩, ⟨hy, hy2⟩, ⟨hs, hs2⟩, ⟨hp, hp2⟩⟩ := hu
  obtain ⟨hm, hm2⟩ := hm
  simp only at ha ha2 hx hx2 hy hy2 hs hs2 hp hp2
  have FA := radd_any
  unfold rr rv at FA
  have t3 := yesB
  have r1 := ext_cell
  have r2 := ext_frozen
  have r3 := ext_setCell
  have r4 := ext_lt
  have r5 := ext_drew
  have r6 := ext_ext
  unfold rr rv
  go_enter Try.func16, Try.ntmps16
  go_wp2_with (first | (go_at_call 29; refine (FA _ _ _ _ _ _ (by assumption) (by assumption) (by assumption) (by assumption) (by first | assumption | omega) (by first | assumption | omega) _).mono ?_; rintro e w' ⟨rfl, os, q, rfl⟩))
  all_goals
    refine bodyPost_ret (by simp [results, Try.results16, go_sem, *] <;> (repeat' (first | exact rfl | refine And.intro ?_ ?_))) rfl ⟨rfl, ?_⟩
    repeat (first | exact Ext.refl _ | refine Ext.alloc ?_ _ | refine Ext.ext ?_ _ _ | refine Ext.drew ?_ | refine Ext.drewN ?_ _)

set_option maxRecDepth 100000 in
set_option maxHeartbeats 1000000 in
theorem rread_cmp (a x y s p m : Int) (hu : Ok ⟨a, x, y, s, p⟩) (hm : 0 ≤ m ∧ m < 256) (w : World) :
    Calls Try.prog 16 #[rv a x y s p, .string { data := #[67, 77, 80] }, .int .i64 m] w fun e w' => e = .returned (rr (cmpU ⟨a, x, y, s, p⟩ a m)) ∧ Ext w w' := by
  obtain ⟨⟨ha, ha2⟩, ⟨hx, hx2⟩, ⟨hy, hy2⟩, ⟨hs, hs2⟩, ⟨hp, hp2⟩⟩ := hu
  obtain ⟨hm, hm2⟩ := hm
  simp only at ha ha2 hx hx2 hy hy2 hs hs2 hp hp2
  have FL := rless_any
  unfold rr rv at FL
  have t3 := yesB
  have r1 := ext_cell
  have r2 := ext_frozen
  have r3 := ext_setCell
  have r4 := ext_lt
  have r5 := ext_drew
  have r6 := ext_ext
  unfold rr rv
  go_enter Try.func16, Try.ntmps16
  go_wp2_with (first | (go_at_call 30; refine (FL _ _ _ _ _ _ _ (by assumption) (by assumption) (by assumption) (by assumption) (by assumption) (by assumption) _).mono ?_; rintro e w' ⟨rfl, os, q, rfl⟩))
  all_goals
    refine bodyPost_ret (by simp [results, Try.results16, go_sem, *] <;> (repeat' (first | exact rfl | refine And.intro ?_ ?_))) rfl ⟨rfl, ?_⟩
    repeat (first | exact Ext.refl _ | refine Ext.alloc ?_ _ | refine Ext.ext ?_ _ _ | refine Ext.drew ?_ | refine Ext.drewN ?_ _)

set_option maxRecDepth 100000 in
set_option maxHeartbeats 1000000 in
theorem rread_cpx (a x y s p m : Int) (hu : Ok ⟨a, x, y, s, p⟩) (hm : 0 ≤ m ∧ m < 256) (w : World) :
    Calls Try.prog 16 #[rv a x y s p, .string { data := #[67, 80, 88] }, .int .i64 m] w fun e w' => e = .returned (rr (cmpU ⟨a, x, y, s, p⟩ x m)) ∧ Ext w w' := by
  obtain ⟨⟨ha, ha2⟩, ⟨hx, hx2⟩, ⟨hy, hy2⟩, ⟨hs, hs2⟩, ⟨hp, hp2⟩⟩ := hu
  obtain ⟨hm, hm2⟩ := hm
  simp only at ha ha2 hx hx2 hy hy2 hs hs2 hp hp2
  have FL := rless_any
  unfold rr rv at FL
  have t3 := yesB
  have r1 := ext_cell
  have r2 := ext_frozen
  have r3 := ext_setCell
  have r4 := ext_lt
  have r5 := ext_drew
  have r6 := ext_ext
  unfold rr rv
  go_enter Try.func16, Try.ntmps16
  go_wp2_with (first | (go_at_call 30; refine (FL _ _ _ _ _ _ _ (by assumption) (by assumption) (by assumption) (by assumption) (by assumption) (by assumption) _).mono ?_; rintro e w' ⟨rfl, os, q, rfl⟩))
  all_goals
    refine bodyPost_ret (by simp [results, Try.results16, go_sem, *] <;> (repeat' (first | exact rfl | refine And.intro ?_ ?_))) rfl ⟨rfl, ?_⟩
    repeat (first | exact Ext.refl _ | refine Ext.alloc ?_ _ | refine Ext.ext ?_ _ _ | refine Ext.drew ?_ | refine Ext.drewN ?_ _)

set_option maxRecDepth 100000 in
set_option maxHeartbeats 1000000 in
theorem rread_cpy (a x y s p m : Int) (hu : Ok ⟨a, x, y, s, p⟩) (hm : 0 ≤ m ∧ m < 256) (w : World) :
    Calls Try.prog 16 #[rv a x y s p, .string { data := #[67, 80, 89] }, .int .i64 m] w fun e w' => e = .returned (rr (cmpU ⟨a, x, y, s, p⟩ y m)) ∧ Ext w w' := by
  obtain ⟨⟨ha, ha2⟩, ⟨hx, hx2⟩, ⟨hy, hy2⟩, ⟨hs, hs2⟩, ⟨hp, hp2⟩⟩ := hu
  obtain ⟨hm, hm2⟩ := hm
  simp only at ha ha2 hx hx2 hy hy2 hs hs2 hp hp2
  have FL := rless_any
  unfold rr rv at FL
  have t3 := yesB
  have r1 := ext_cell
  have r2 := ext_frozen
  have r3 := ext_setCell
  have r4 := ext_lt
  have r5 := ext_drew
  have r6 := ext_ext
  unfold rr rv
  go_enter Try.func16, Try.ntmps16
  go_wp2_with (first | (go_at_call 30; refine (FL _ _ _ _ _ _ _ (by assumption) (by assumption) (by assumption) (by assumption) (by assumption) (by assumption) _).mono ?_; rintro e w' ⟨rfl, os, q, rfl⟩))
  all_goals
    refine bodyPost_ret (by simp [results, Try.results16, go_sem, *] <;> (repeat' (first | exact rfl | refine And.intro ?_ ?_))) rfl ⟨rfl, ?_⟩
    repeat (first | exact Ext.refl _ | refine Ext.alloc ?_ _ | refine Ext.ext ?_ _ _ | refine Ext.drew ?_ | refine Ext.drewN ?_ _)

set_option maxRecDepth 100000 in
set_option maxHeartbeats 1000000 in
theorem rread_lda (a x y s p m : Int) (hu : Ok ⟨a, x, y, s, p⟩) (hm : 0 ≤ m ∧ m < 256) (w : World) :
    Calls Try.prog 16 #[rv a x y s p, .string { data := #[76, 68, 65] }, .int .i64 m] w fun e w' => e = .returned (rr (ldaU ⟨a, x, y, s, p⟩ m)) ∧ Ext w w' := by
  obtain ⟨⟨ha, ha2⟩, ⟨hx, hx2⟩, ⟨hy, hy2⟩, ⟨hs, hs2⟩, ⟨hp, hp2⟩⟩ := hu
  obtain ⟨hm, hm2⟩ := hm
  simp only at ha ha2 hx hx2 hy hy2 hs hs2 hp hp2
  have FG := rsign_any
  unfold rr rv at FG
  have t3 := yesB
  have r1 := ext_cell
  have r2 := ext_frozen
  have r3 := ext_setCell
  have r4 := ext_lt
  have r5 := ext_drew
  have r6 := ext_ext
  unfold rr rv
  go_enter Try.func16, Try.ntmps16
  go_wp2_with (first | (go_at_call 31; refine (FG _ _ _ _ _ _ (by first | assumption | exact (flU_u8 _ _ _).1 | exact (sgU_u8 _ _).1) (by first | assumption | exact (flU_u8 _ _ _).2 | exact (sgU_u8 _ _).2) (by first | assumption | omega) (by first | assumption | omega) _).mono ?_; rintro e w' ⟨rfl, os, q, rfl⟩))
  all_goals
    refine bodyPost_ret (by simp [results, Try.results16, go_sem, *] <;> (repeat' (first | exact rfl | refine And.intro ?_ ?_))) rfl ⟨rfl, ?_⟩
    repeat (first | exact Ext.refl _ | refine Ext.alloc ?_ _ | refine Ext.ext ?_ _ _ | refine Ext.drew ?_ | refine Ext.drewN ?_ _)

set_option maxRecDepth 100000 in
set_option maxHeartbeats 1000000 in
theorem rread_ldx (a x y s p m : Int) (hu : Ok ⟨a, x, y, s, p⟩) (hm : 0 ≤ m ∧ m < 256) (w : World) :
    Calls Try.prog 16 #[rv a x y s p, .string { data := #[76, 68, 88] }, .int .i64 m] w fun e w' => e = .returned (rr (ldxU ⟨a, x, y, s, p⟩ m)) ∧ Ext w w' := by
  obtain ⟨⟨ha, ha2⟩, ⟨hx, hx2⟩, ⟨hy, hy2⟩, ⟨hs, hs2⟩, ⟨hp, hp2⟩⟩ := hu
  obtain ⟨hm, hm2⟩ := hm
  simp only at ha ha2 hx hx2 hy hy2 hs hs2 hp hp2
  have FG := rsign_any
  unfold rr rv at FG
  have t3 := yesB
  have r1 := ext_cell
  have r2 := ext_frozen
  have r3 := ext_setCell
  have r4 := ext_lt
  have r5 := ext_drew
  have r6 := ext_ext
  unfold rr rv
  go_enter Try.func16, Try.ntmps16
  go_wp2_with (first | (go_at_call 31; refine (FG _ _ _ _ _ _ (by first | assumption | exact (flU_u8 _ _ _).1 | exact (sgU_u8 _ _).1) (by first | assumption | exact (flU_u8 _ _ _).2 | exact (sgU_u8 _ _).2) (by first | assumption | omega) (by first | assumption | omega) _).mono ?_; rintro e w' ⟨rfl, os, q, rfl⟩))
  all_goals
    refine bodyPost_ret (by simp [results, Try.results16, go_sem, *] <;> (repeat' (first | exact rfl | refine And.intro ?_ ?_))) rfl ⟨rfl, ?_⟩
    repeat (first | exact Ext.refl _ | refine Ext.alloc ?_ _ | refine Ext.ext ?_ _ _ | refine Ext.drew ?_ | refine Ext.drewN ?_ _)

set_option maxRecDepth 100000 in
set_option maxHeartbeats 1000000 in
theorem rread_ldy (a x y s p m : Int) (hu : Ok ⟨a, x, y, s, p⟩) (hm : 0 ≤ m ∧ m < 256) (w : World) :
    Calls Try.prog 16 #[rv a x y s p, .string { data := #[76, 68, 89] }, .int .i64 m] w fun e w' => e = .returned (rr (ldyU ⟨a, x, y, s, p⟩ m)) ∧ Ext w w' := by
  obtain ⟨⟨ha, ha2⟩, ⟨hx, hx2⟩, ⟨hy, hy2⟩, ⟨hs, hs2⟩, ⟨hp, hp2⟩⟩ := hu
  obtain ⟨hm, hm2⟩ := hm
  simp only at ha ha2 hx hx2 hy hy2 hs hs2 hp hp2
  have FG := rsign_any
  unfold rr rv at FG
  have t3 := yesB
  have r1 := ext_cell
  have r2 := ext_frozen
  have r3 := ext_setCell
  have r4 := ext_lt
  have r5 := ext_drew
  have r6 := ext_ext
  unfold rr rv
  go_enter Try.func16, Try.ntmps16
  go_wp2_with (first | (go_at_call 31; refine (FG _ _ _ _ _ _ (by first | assumption | exact (flU_u8 _ _ _).1 | exact (sgU_u8 _ _).1) (by first | assumption | exact (flU_u8 _ _ _).2 | exact (sgU_u8 _ _).2) (by first | assumption | omega) (by first | assumption | omega) _).mono ?_; rintro e w' ⟨rfl, os, q, rfl⟩))
  all_goals
    refine bodyPost_ret (by simp [results, Try.results16, go_sem, *] <;> (repeat' (first | exact rfl | refine And.intro ?_ ?_))) rfl ⟨rfl, ?_⟩
    repeat (first | exact Ext.refl _ | refine Ext.alloc ?_ _ | refine Ext.ext ?_ _ _ | refine Ext.drew ?_ | refine Ext.drewN ?_ _)

set_option maxRecDepth 100000 in
set_option maxHeartbeats 1000000 in
theorem rread_nop (a x y s p m : Int) (hu : Ok ⟨a, x, y, s, p⟩) (hm : 0 ≤ m ∧ m < 256) (w : World) :
    Calls Try.prog 16 #[rv a x y s p, .string { data := #[78, 79, 80] }, .int .i64 m] w fun e w' => e = .returned (rr (⟨a, x, y, s, p⟩)) ∧ Ext w w' := by
  obtain ⟨⟨ha, ha2⟩, ⟨hx, hx2⟩, ⟨hy, hy2⟩, ⟨hs, hs2⟩, ⟨hp, hp2⟩⟩ := hu
  obtain ⟨hm, hm2⟩ := hm
  simp only at ha ha2 hx hx2 hy hy2 hs hs2 hp hp2
  have t3 := yesB
  have r1 := ext_cell
  have r2 := ext_frozen
  have r3 := ext_setCell
  have r4 := ext_lt
  have r5 := ext_drew
  have r6 := ext_ext
  unfold rr rv
  go_enter Try.func16, Try.ntmps16
  go_wp2_with (fail)
  all_goals
    refine bodyPost_ret (by simp [results, Try.results16, go_sem, *] <;> (repeat' (first | exact rfl | refine And.intro ?_ ?_))) rfl ⟨rfl, ?_⟩
    repeat (first | exact Ext.refl _ | refine Ext.alloc ?_ _ | refine Ext.ext ?_ _ _ | refine Ext.drew ?_ | refine Ext.drewN ?_ _)

end Go.Proofs.Ytigpmmjbdpnkjaa
