/- Every operation that changes a byte (walk). No law is claimed here. -/
import Derived.Test.YtigpmmjbdpnkjaaAluA
import Derived.Test.YtigpmmjbdpnkjaaAlu8
import Derived.Test.YtigpmmjbdpnkjaaAlu10
import Derived.Test.YtigpmmjbdpnkjaaAluQ
import Derived.Test.YtigpmmjbdpnkjaaRU7
import Derived.Test.YtigpmmjbdpnkjaaRU8
import Derived.Test.YtigpmmjbdpnkjaaRU9
import Derived.Deep.RegionLaw
namespace Go.Proofs.Ytigpmmjbdpnkjaa
open Go.RowKit

theorem eqb (z k : Int) : (z == k) = decide (z = k) := by
  by_cases h : z = k
  · rw [decide_eq_true h, h, beq_self_eq_true]
  · rw [decide_eq_false h, beq_eq_false_iff_ne]; exact h
/-- what is turned: as numbers -/
theorem chg_left (a x y s p m c : Int) (hm : 0 ≤ m ∧ m < 256) (hc : 0 ≤ c ∧ c < 2) : leftU ⟨a, x, y, s, p⟩ m c = (sgU (flU ⟨a, x, y, s, p⟩ 1 (m / 128 == 1)) (2 * m % 256 + c), 2 * m % 256 + c) := by
  rw [left_in _ m c hm hc, div128 m hm.1 hm.2]; rfl
theorem chg_right (a x y s p m c : Int) (hm : 0 ≤ m ∧ m < 256) (hc : 0 ≤ c ∧ c < 2) : rightU ⟨a, x, y, s, p⟩ m c = (sgU (flU ⟨a, x, y, s, p⟩ 1 (m % 2 == 1)) (m / 2 + 128 * c), m / 2 + 128 * c) := by
  rw [right_in _ m c hm hc, eqb]; rfl
theorem chg_asl (a x y s p m : Int) (hm : 0 ≤ m ∧ m < 256) : leftU ⟨a, x, y, s, p⟩ m 0 = (sgU (flU ⟨a, x, y, s, p⟩ 1 (m / 128 == 1)) (2 * m % 256), 2 * m % 256) := by
  rw [chg_left a x y s p m 0 hm (by omega), Int.add_zero]
theorem chg_lsr (a x y s p m : Int) (hm : 0 ≤ m ∧ m < 256) : rightU ⟨a, x, y, s, p⟩ m 0 = (sgU (flU ⟨a, x, y, s, p⟩ 1 (m % 2 == 1)) (m / 2), m / 2) := by
  rw [chg_right a x y s p m 0 hm (by omega), show m / 2 + 128 * 0 = m / 2 by omega]
theorem chg_rol (a x y s p m : Int) (hp : 0 ≤ p ∧ p < 256) (hm : 0 ≤ m ∧ m < 256) : leftU ⟨a, x, y, s, p⟩ m (bits .and .u8 p 1) = (sgU (flU ⟨a, x, y, s, p⟩ 1 (m / 128 == 1)) (2 * m % 256 + p % 2), 2 * m % 256 + p % 2) := by
  rw [low_bit p hp, chg_left a x y s p m _ hm (by omega)]
theorem chg_ror (a x y s p m : Int) (hp : 0 ≤ p ∧ p < 256) (hm : 0 ≤ m ∧ m < 256) : rightU ⟨a, x, y, s, p⟩ m (bits .and .u8 p 1) = (sgU (flU ⟨a, x, y, s, p⟩ 1 (m % 2 == 1)) (m / 2 + 128 * (p % 2)), m / 2 + 128 * (p % 2)) := by
  rw [low_bit p hp, chg_right a x y s p m _ hm (by omega)]
theorem chg_inc (a x y s p m : Int) : becU ⟨a, x, y, s, p⟩ (IntKind.u8.wrap (m + 1)) = (sgU ⟨a, x, y, s, p⟩ ((m + 1) % 256), (m + 1) % 256) := by
  rw [wrap_u8_mod]; rfl
theorem chg_dec (a x y s p m : Int) : becU ⟨a, x, y, s, p⟩ (IntKind.u8.wrap (m - 1)) = (sgU ⟨a, x, y, s, p⟩ ((m + 255) % 256), (m + 255) % 256) := by
  rw [wrap_u8_mod, show (m - 1) % 256 = (m + 255) % 256 by omega]; rfl

set_option maxRecDepth 100000 in
set_option maxHeartbeats 2000000 in
theorem aluChanges_yes (a x y s p op m : Int) (R : Un) (n : Int) (z : ByteArray) (w : World) (hu : Ok ⟨a, x, y, s, p⟩) (hR : Ok R) (hn : 0 ≤ n ∧ n < 256) (hop : 0 ≤ op ∧ op < 256) (hm : 0 ≤ m ∧ m < 256) (hk : kindU op = 2)
    (F1 : ∀ w, Calls Try.prog 20 #[uv a x y s p, .int .u8 op, .int .u8 m] w fun e w' => e = .returned (.tuple #[uu R, .int .u8 n]) ∧ Ext w w')
    (F2 : ∀ w, Calls Try.prog 19 #[rv a x y s p, .string z, .int .i64 m] w fun e w' => e = .returned (.tuple #[rr R, .int .i64 n]) ∧ Ext w w')
    (F3 : ∀ w, Calls Try.prog 17 #[.int .i64 op] w fun e w' => e = .returned (.string z) ∧ Ext w w') :
    Calls Try.prog 4 #[uv a x y s p, .int .u8 op, .int .u8 m] w fun e w' => e = .returned (.bool true) ∧ Ext w w' := by
  have F0 := awake_any
  have F4 := fun w => own_any a x y s p hu w
  have F5 := fun w => own_any R.a R.x R.y R.s R.p hR w
  have F6 := fun w => rkind_any op hop.1 hop.2 w
  rw [hk] at F6
  unfold uu uv at F1
  unfold rr rv at F2
  unfold uv rv at F4 F5
  have e1 : IntKind.i64.wrap op = op := IntWalk.i64_in _ ⟨by omega, by omega⟩
  have e2 : IntKind.i64.wrap m = m := IntWalk.i64_in _ ⟨by omega, by omega⟩
  have e3 : IntKind.i64.wrap n = n := IntWalk.i64_in _ ⟨by omega, by omega⟩
  have r1 := ext_cell
  have r2 := ext_frozen
  have r3 := ext_setCell
  have r4 := ext_lt
  have r5 := ext_drew
  have r6 := ext_ext
  have r7 := ext_lt1
  clear hu hR hop hm hk hn
  unfold uv
  go_enter Try.func4, Try.ntmps4
  go_upto_region 4 with (first | (go_at_call 13; refine (F0 _).mono ?_; rintro e w' ⟨rfl, os, q, rfl⟩) | (go_at_call 14; refine (F4 _).mono ?_; rintro e w1 ⟨rfl, hE1⟩; have B1 := boxE (ext_on hE1)))
  go_upto_region 5 with (go_at_call 15; refine (F6 _).mono ?_; rintro e w' ⟨rfl, os, q, rfl⟩)
  go_region_law (first | (go_simp; go_at_call 17; refine (F3 _).mono ?_; rintro e w' ⟨rfl, os, q, rfl⟩) | (go_simp; go_at_call 19; refine (F2 _).mono ?_; rintro e w' ⟨rfl, os, q, rfl⟩))
  all_goals
    obtain ⟨z1, c0, c1, c2, c3, c4⟩ := id B1
    have z2 := Nat.lt_succ_of_lt z1
    simp only [Nat.succ_eq_add_one] at z2
    go_upto_region 7 with (go_at_call 20; refine (F1 _).mono ?_; rintro e w2 ⟨rfl, hE2⟩; have B2 := boxE (ext_on hE2))
    have B3 := B2.ext ((Ext.refl _).alloc (.cells #[.int .u8 R.a, .int .u8 R.x, .int .u8 R.y, .int .u8 R.s, .int .u8 R.p] 23))
    have B4 := Bx.made w2 .u8 R.a R.x R.y R.s R.p 23
    go_region_held3 (fun v => (w2.heap.size < v.heap.size ∧ v.cell? ⟨w2.heap.size, 0, none⟩ = some (.int .u8 R.a) ∧ v.cell? ⟨w2.heap.size, 1, none⟩ = some (.int .u8 R.x) ∧ v.cell? ⟨w2.heap.size, 2, none⟩ = some (.int .u8 R.y) ∧ v.cell? ⟨w2.heap.size, 3, none⟩ = some (.int .u8 R.s) ∧ v.cell? ⟨w2.heap.size, 4, none⟩ = some (.int .u8 R.p)) ∧ (w1.heap.size < v.heap.size ∧ v.cell? ⟨w1.heap.size, 0, none⟩ = some (.int .i64 R.a) ∧ v.cell? ⟨w1.heap.size, 1, none⟩ = some (.int .i64 R.x) ∧ v.cell? ⟨w1.heap.size, 2, none⟩ = some (.int .i64 R.y) ∧ v.cell? ⟨w1.heap.size, 3, none⟩ = some (.int .i64 R.s) ∧ v.cell? ⟨w1.heap.size, 4, none⟩ = some (.int .i64 R.p))) (first | assumption | exact ⟨bx_drew B4, bx_drew B3⟩ | exact ⟨bx_ext B4 _ _, bx_ext B3 _ _⟩ | exact ⟨B4, B3⟩) (first | (go_at_call 14; refine (F5 _).mono ?_; rintro e w' ⟨rfl, os, q, rfl⟩))
    all_goals
      go_wp2
      go_ret
      refine ⟨rfl, ?_⟩
      repeat (first | exact Ext.refl _ | refine Ext.trans ?_ hE2 | refine Ext.trans ?_ hE1 | refine Ext.alloc ?_ _ | refine Ext.ext ?_ _ _ | refine Ext.drew ?_ | refine Ext.drewN ?_ _)

set_option maxRecDepth 100000 in
set_option maxHeartbeats 2000000 in
theorem aluChanges_no (a x y s p op m : Int) (w : World) (hu : Ok ⟨a, x, y, s, p⟩) (hop : 0 ≤ op ∧ op < 256) (hm : 0 ≤ m ∧ m < 256) (hk : kindU op ≠ 2) :
    Calls Try.prog 4 #[uv a x y s p, .int .u8 op, .int .u8 m] w fun e w' => e = .returned (.bool true) ∧ Ext w w' := by
  have F0 := awake_any
  have F1 := fun w => Change_other a x y s p op m w hk
  have F4 := fun w => own_any a x y s p hu w
  have F6 := fun w => rkind_any op hop.1 hop.2 w
  have hk' : (kindU op == 2) = false := by rw [beq_eq_false_iff_ne]; exact hk
  unfold uu uv at F1
  unfold uv rv at F4
  have e1 : IntKind.i64.wrap op = op := IntWalk.i64_in _ ⟨by omega, by omega⟩
  have e2 : IntKind.i64.wrap m = m := IntWalk.i64_in _ ⟨by omega, by omega⟩
  have r1 := ext_cell
  have r2 := ext_frozen
  have r3 := ext_setCell
  have r4 := ext_lt
  have r5 := ext_drew
  have r6 := ext_ext
  have r7 := ext_lt1
  clear hu hop hm hk
  generalize kindU op = kk at *
  unfold uv
  go_enter Try.func4, Try.ntmps4
  go_upto_region 4 with (first | (go_at_call 13; refine (F0 _).mono ?_; rintro e w' ⟨rfl, os, q, rfl⟩) | (go_at_call 14; refine (F4 _).mono ?_; rintro e w1 ⟨rfl, hE1⟩; have B1 := boxE (ext_on hE1)))
  obtain ⟨z1, c0, c1, c2, c3, c4⟩ := id B1
  have z2 := Nat.lt_succ_of_lt z1
  simp only [Nat.succ_eq_add_one] at z2
  go_upto_region 7 with (first | (go_at_call 15; refine (F6 _).mono ?_; rintro e w' ⟨rfl, os, q, rfl⟩) | (go_at_call 20; refine (F1 _).mono ?_; rintro e w2 ⟨rfl, hE2⟩; have B2 := boxE (ext_on hE2)))
  have B3 := B2.ext ((Ext.refl _).alloc (.cells #[.int .u8 a, .int .u8 x, .int .u8 y, .int .u8 s, .int .u8 p] 23))
  have B4 := Bx.made w2 .u8 a x y s p 23
  go_region_held3 (fun v => (w2.heap.size < v.heap.size ∧ v.cell? ⟨w2.heap.size, 0, none⟩ = some (.int .u8 a) ∧ v.cell? ⟨w2.heap.size, 1, none⟩ = some (.int .u8 x) ∧ v.cell? ⟨w2.heap.size, 2, none⟩ = some (.int .u8 y) ∧ v.cell? ⟨w2.heap.size, 3, none⟩ = some (.int .u8 s) ∧ v.cell? ⟨w2.heap.size, 4, none⟩ = some (.int .u8 p)) ∧ (w1.heap.size < v.heap.size ∧ v.cell? ⟨w1.heap.size, 0, none⟩ = some (.int .i64 a) ∧ v.cell? ⟨w1.heap.size, 1, none⟩ = some (.int .i64 x) ∧ v.cell? ⟨w1.heap.size, 2, none⟩ = some (.int .i64 y) ∧ v.cell? ⟨w1.heap.size, 3, none⟩ = some (.int .i64 s) ∧ v.cell? ⟨w1.heap.size, 4, none⟩ = some (.int .i64 p))) (first | assumption | exact ⟨bx_drew B4, bx_drew B3⟩ | exact ⟨bx_ext B4 _ _, bx_ext B3 _ _⟩ | exact ⟨B4, B3⟩) (first | (go_at_call 14; refine (F4 _).mono ?_; rintro e w' ⟨rfl, os, q, rfl⟩))
  all_goals
    go_wp2
    go_ret
    refine ⟨rfl, ?_⟩
    repeat (first | exact Ext.refl _ | refine Ext.trans ?_ hE2 | refine Ext.trans ?_ hE1 | refine Ext.alloc ?_ _ | refine Ext.ext ?_ _ _ | refine Ext.drew ?_ | refine Ext.drewN ?_ _)

end Go.Proofs.Ytigpmmjbdpnkjaa
