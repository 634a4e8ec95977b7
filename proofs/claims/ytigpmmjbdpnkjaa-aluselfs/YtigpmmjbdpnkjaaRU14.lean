/- The document's operations of registers alone (kotatsuref08.Self): turns of A. No law is claimed here. -/
import Derived.Test.YtigpmmjbdpnkjaaRU10
import Derived.Test.YtigpmmjbdpnkjaaRU8
namespace Go.Proofs.Ytigpmmjbdpnkjaa
open Go.RowKit

set_option maxRecDepth 100000 in
set_option maxHeartbeats 2000000 in
theorem rself_asl (a x y s p : Int) (hu : Ok ⟨a, x, y, s, p⟩) (w : World) :
    Calls Try.prog 22 #[rv a x y s p, .string { data := #[65, 83, 76] }] w fun e w' => e = .returned (rr { sgU (flU ⟨a, x, y, s, p⟩ 1 (a / 128 == 1)) (2 * a % 256) with a := 2 * a % 256 }) ∧ Ext w w' := by
  obtain ⟨R, hR⟩ : ∃ R, R = sgU (flU ⟨a, x, y, s, p⟩ 1 (a / 128 == 1)) (2 * a % 256) := ⟨_, rfl⟩
  obtain ⟨n, hn⟩ : ∃ n, n = 2 * a % 256 := ⟨_, rfl⟩
  have FC : ∀ w, Calls Try.prog 19 #[.agg #[.int .i64 a, .int .i64 x, .int .i64 y, .int .i64 s, .int .i64 p], .string { data := #[65, 83, 76] }, .int .i64 a] w fun e w' => e = .returned (.tuple #[.agg #[.int .i64 R.a, .int .i64 R.x, .int .i64 R.y, .int .i64 R.s, .int .i64 R.p], .int .i64 n]) ∧ Ext w w' := by
    subst hn; subst hR; exact fun w => rchange_asl a x y s p a hu hu.1 w
  have HV : Hid (rr { sgU (flU ⟨a, x, y, s, p⟩ 1 (a / 128 == 1)) (2 * a % 256) with a := 2 * a % 256 } = .agg #[.int .i64 n, .int .i64 R.x, .int .i64 R.y, .int .i64 R.s, .int .i64 R.p]) := by subst hn; subst hR; exact rfl
  rw [HV.out]
  clear HV hR hn hu
  have r1 := ext_cell
  have r2 := ext_frozen
  have r3 := ext_setCell
  have r4 := ext_lt
  have r5 := ext_drew
  have r6 := ext_ext
  unfold rv
  go_enter Try.func22, Try.ntmps22
  go_wp2_with (go_at_call 19; refine (FC _).mono ?_; rintro e w' ⟨rfl, os, q, rfl⟩)
  all_goals
    refine bodyPost_ret (by simp [results, Try.results22, go_sem, *] <;> (repeat' (first | exact rfl | refine And.intro ?_ ?_))) rfl ⟨rfl, ?_⟩
    repeat (first | exact Ext.refl _ | refine Ext.alloc ?_ _ | refine Ext.ext ?_ _ _ | refine Ext.drew ?_ | refine Ext.drewN ?_ _)

set_option maxRecDepth 100000 in
set_option maxHeartbeats 2000000 in
theorem rself_lsr (a x y s p : Int) (hu : Ok ⟨a, x, y, s, p⟩) (w : World) :
    Calls Try.prog 22 #[rv a x y s p, .string { data := #[76, 83, 82] }] w fun e w' => e = .returned (rr { sgU (flU ⟨a, x, y, s, p⟩ 1 (a % 2 == 1)) (a / 2) with a := a / 2 }) ∧ Ext w w' := by
  obtain ⟨R, hR⟩ : ∃ R, R = sgU (flU ⟨a, x, y, s, p⟩ 1 (a % 2 == 1)) (a / 2) := ⟨_, rfl⟩
  obtain ⟨n, hn⟩ : ∃ n, n = a / 2 := ⟨_, rfl⟩
  have FC : ∀ w, Calls Try.prog 19 #[.agg #[.int .i64 a, .int .i64 x, .int .i64 y, .int .i64 s, .int .i64 p], .string { data := #[76, 83, 82] }, .int .i64 a] w fun e w' => e = .returned (.tuple #[.agg #[.int .i64 R.a, .int .i64 R.x, .int .i64 R.y, .int .i64 R.s, .int .i64 R.p], .int .i64 n]) ∧ Ext w w' := by
    subst hn; subst hR; exact fun w => rchange_lsr a x y s p a hu hu.1 w
  have HV : Hid (rr { sgU (flU ⟨a, x, y, s, p⟩ 1 (a % 2 == 1)) (a / 2) with a := a / 2 } = .agg #[.int .i64 n, .int .i64 R.x, .int .i64 R.y, .int .i64 R.s, .int .i64 R.p]) := by subst hn; subst hR; exact rfl
  rw [HV.out]
  clear HV hR hn hu
  have r1 := ext_cell
  have r2 := ext_frozen
  have r3 := ext_setCell
  have r4 := ext_lt
  have r5 := ext_drew
  have r6 := ext_ext
  unfold rv
  go_enter Try.func22, Try.ntmps22
  go_wp2_with (go_at_call 19; refine (FC _).mono ?_; rintro e w' ⟨rfl, os, q, rfl⟩)
  all_goals
    refine bodyPost_ret (by simp [results, Try.results22, go_sem, *] <;> (repeat' (first | exact rfl | refine And.intro ?_ ?_))) rfl ⟨rfl, ?_⟩
    repeat (first | exact Ext.refl _ | refine Ext.alloc ?_ _ | refine Ext.ext ?_ _ _ | refine Ext.drew ?_ | refine Ext.drewN ?_ _)

set_option maxRecDepth 100000 in
set_option maxHeartbeats 2000000 in
theorem rself_rol (a x y s p : Int) (hu : Ok ⟨a, x, y, s, p⟩) (w : World) :
    Calls Try.prog 22 #[rv a x y s p, .string { data := #[82, 79, 76] }] w fun e w' => e = .returned (rr { sgU (flU ⟨a, x, y, s, p⟩ 1 (a / 128 == 1)) (2 * a % 256 + p % 2) with a := 2 * a % 256 + p % 2 }) ∧ Ext w w' := by
  obtain ⟨R, hR⟩ : ∃ R, R = sgU (flU ⟨a, x, y, s, p⟩ 1 (a / 128 == 1)) (2 * a % 256 + p % 2) := ⟨_, rfl⟩
  obtain ⟨n, hn⟩ : ∃ n, n = 2 * a % 256 + p % 2 := ⟨_, rfl⟩
  have FC : ∀ w, Calls Try.prog 19 #[.agg #[.int .i64 a, .int .i64 x, .int .i64 y, .int .i64 s, .int .i64 p], .string { data := #[82, 79, 76] }, .int .i64 a] w fun e w' => e = .returned (.tuple #[.agg #[.int .i64 R.a, .int .i64 R.x, .int .i64 R.y, .int .i64 R.s, .int .i64 R.p], .int .i64 n]) ∧ Ext w w' := by
    subst hn; subst hR; exact fun w => rchange_rol a x y s p a hu hu.1 w
  have HV : Hid (rr { sgU (flU ⟨a, x, y, s, p⟩ 1 (a / 128 == 1)) (2 * a % 256 + p % 2) with a := 2 * a % 256 + p % 2 } = .agg #[.int .i64 n, .int .i64 R.x, .int .i64 R.y, .int .i64 R.s, .int .i64 R.p]) := by subst hn; subst hR; exact rfl
  rw [HV.out]
  clear HV hR hn hu
  have r1 := ext_cell
  have r2 := ext_frozen
  have r3 := ext_setCell
  have r4 := ext_lt
  have r5 := ext_drew
  have r6 := ext_ext
  unfold rv
  go_enter Try.func22, Try.ntmps22
  go_wp2_with (go_at_call 19; refine (FC _).mono ?_; rintro e w' ⟨rfl, os, q, rfl⟩)
  all_goals
    refine bodyPost_ret (by simp [results, Try.results22, go_sem, *] <;> (repeat' (first | exact rfl | refine And.intro ?_ ?_))) rfl ⟨rfl, ?_⟩
    repeat (first | exact Ext.refl _ | refine Ext.alloc ?_ _ | refine Ext.ext ?_ _ _ | refine Ext.drew ?_ | refine Ext.drewN ?_ _)

set_option maxRecDepth 100000 in
set_option maxHeartbeats 2000000 in
theorem rself_ror (a x y s p : Int) (hu : Ok ⟨a, x, y, s, p⟩) (w : World) :
    Calls Try.prog 22 #[rv a x y s p, .string { data := #[82, 79, 82] }] w fun e w' => e = .returned (rr { sgU (flU ⟨a, x, y, s, p⟩ 1 (a % 2 == 1)) (a / 2 + 128 * (p % 2)) with a := a / 2 + 128 * (p % 2) }) ∧ Ext w w' := by
  obtain ⟨R, hR⟩ : ∃ R, R = sgU (flU ⟨a, x, y, s, p⟩ 1 (a % 2 == 1)) (a / 2 + 128 * (p % 2)) := ⟨_, rfl⟩
  obtain ⟨n, hn⟩ : ∃ n, n = a / 2 + 128 * (p % 2) := ⟨_, rfl⟩
  have FC : ∀ w, Calls Try.prog 19 #[.agg #[.int .i64 a, .int .i64 x, .int .i64 y, .int .i64 s, .int .i64 p], .string { data := #[82, 79, 82] }, .int .i64 a] w fun e w' => e = .returned (.tuple #[.agg #[.int .i64 R.a, .int .i64 R.x, .int .i64 R.y, .int .i64 R.s, .int .i64 R.p], .int .i64 n]) ∧ Ext w w' := by
    subst hn; subst hR; exact fun w => rchange_ror a x y s p a hu hu.1 w
  have HV : Hid (rr { sgU (flU ⟨a, x, y, s, p⟩ 1 (a % 2 == 1)) (a / 2 + 128 * (p % 2)) with a := a / 2 + 128 * (p % 2) } = .agg #[.int .i64 n, .int .i64 R.x, .int .i64 R.y, .int .i64 R.s, .int .i64 R.p]) := by subst hn; subst hR; exact rfl
  rw [HV.out]
  clear HV hR hn hu
  have r1 := ext_cell
  have r2 := ext_frozen
  have r3 := ext_setCell
  have r4 := ext_lt
  have r5 := ext_drew
  have r6 := ext_ext
  unfold rv
  go_enter Try.func22, Try.ntmps22
  go_wp2_with (go_at_call 19; refine (FC _).mono ?_; rintro e w' ⟨rfl, os, q, rfl⟩)
  all_goals
    refine bodyPost_ret (by simp [results, Try.results22, go_sem, *] <;> (repeat' (first | exact rfl | refine And.intro ?_ ?_))) rfl ⟨rfl, ?_⟩
    repeat (first | exact Ext.refl _ | refine Ext.alloc ?_ _ | refine Ext.ext ?_ _ _ | refine Ext.drew ?_ | refine Ext.drewN ?_ _)

set_option maxRecDepth 100000 in
set_option maxHeartbeats 2000000 in
theorem rself_txs (a x y s p : Int) (w : World) :
    Calls Try.prog 22 #[rv a x y s p, .string { data := #[84, 88, 83] }] w fun e w' => e = .returned (rv a x y x p) ∧ Ext w w' := by
  unfold rv
  go_enter Try.func22, Try.ntmps22
  go_wp2
  refine bodyPost_ret (by simp [results, Try.results22, go_sem]) rfl ⟨rfl, ?_⟩
  repeat (first | exact Ext.refl _ | refine Ext.alloc ?_ _ | refine Ext.ext ?_ _ _ | refine Ext.drew ?_ | refine Ext.drewN ?_ _)

end Go.Proofs.Ytigpmmjbdpnkjaa
