/- A byte that is turned (walk). No law is claimed here. -/
import Derived.Test.YtigpmmjbdpnkjaaAluD
import Derived.LoopN
namespace Go.Proofs.Ytigpmmjbdpnkjaa
open Go.RowKit

theorem ext_lt1 (w : World) (os : List Obj) (q : Nat) (b : Nat) (h : b < w.heap.size) : b < (ext w os q).heap.size + 1 := Nat.lt_succ_of_lt (ext_lt w os q b h)

set_option maxRecDepth 100000 in
set_option maxHeartbeats 2000000 in
theorem aluTurns_w (a x y s p m : Int) (w : World) (hu : Ok ⟨a, x, y, s, p⟩) (hm : 0 ≤ m ∧ m < 256) :
    Calls Try.prog 8 #[uv a x y s p, .int .u8 m] w fun e w' => e = .returned (.bool true) ∧ Ext w w' := by
  obtain ⟨_, _, _, _, hp⟩ := hu
  simp only at hp
  have F0 := awake_any
  have F1 : ∀ w, Calls Try.prog 20 #[.agg #[.int .u8 a, .int .u8 x, .int .u8 y, .int .u8 s, .int .u8 p], .int .u8 21, .int .u8 m] w fun e w' => e = .returned (.tuple #[.agg #[.int .u8 (rolK ⟨a, x, y, s, p⟩ m 1).1.a, .int .u8 (rolK ⟨a, x, y, s, p⟩ m 1).1.x, .int .u8 (rolK ⟨a, x, y, s, p⟩ m 1).1.y, .int .u8 (rolK ⟨a, x, y, s, p⟩ m 1).1.s, .int .u8 (rolK ⟨a, x, y, s, p⟩ m 1).1.p], .int .u8 (rolK ⟨a, x, y, s, p⟩ m 1).2]) ∧ Ext w w' :=
    fun w => Change_rol a x y s p m w
  have F3 : ∀ k w, Calls Try.prog 20 #[.agg #[.int .u8 (rolK ⟨a, x, y, s, p⟩ m k).1.a, .int .u8 (rolK ⟨a, x, y, s, p⟩ m k).1.x, .int .u8 (rolK ⟨a, x, y, s, p⟩ m k).1.y, .int .u8 (rolK ⟨a, x, y, s, p⟩ m k).1.s, .int .u8 (rolK ⟨a, x, y, s, p⟩ m k).1.p], .int .u8 21, .int .u8 (rolK ⟨a, x, y, s, p⟩ m k).2] w fun e w' => e = .returned (.tuple #[.agg #[.int .u8 (rolK ⟨a, x, y, s, p⟩ m (k + 1)).1.a, .int .u8 (rolK ⟨a, x, y, s, p⟩ m (k + 1)).1.x, .int .u8 (rolK ⟨a, x, y, s, p⟩ m (k + 1)).1.y, .int .u8 (rolK ⟨a, x, y, s, p⟩ m (k + 1)).1.s, .int .u8 (rolK ⟨a, x, y, s, p⟩ m (k + 1)).1.p], .int .u8 (rolK ⟨a, x, y, s, p⟩ m (k + 1)).2]) ∧ Ext w w' :=
    fun k w => Change_rol _ _ _ _ _ _ w
  have F2 := fun w => Change_ror (rolK ⟨a, x, y, s, p⟩ m 1).1.a (rolK ⟨a, x, y, s, p⟩ m 1).1.x (rolK ⟨a, x, y, s, p⟩ m 1).1.y (rolK ⟨a, x, y, s, p⟩ m 1).1.s (rolK ⟨a, x, y, s, p⟩ m 1).1.p (rolK ⟨a, x, y, s, p⟩ m 1).2 w
  have k1 := rol_ror ⟨a, x, y, s, p⟩ m hm hp
  have k2 := rol_nine ⟨a, x, y, s, p⟩ m hm hp
  have k3 : bits .and .u8 (sgn p (decide (p % 2 = 1)) m) 1 = bits .and .u8 p 1 := by
    rw [sgn_carry, low_bit p hp]
    by_cases h : p % 2 = 1
    · rw [decide_eq_true h, if_pos rfl, h]
    · rw [decide_eq_false h, if_neg (by decide)]; omega
  simp only at k1 k2
  rw [k1] at F2
  unfold uu uv at F2
  simp only at F2
  generalize rolK ⟨a, x, y, s, p⟩ m = R at *
  generalize sgn p (decide (p % 2 = 1)) m = V at *
  have r1 := ext_cell
  have r2 := ext_frozen
  have r3 := ext_setCell
  have r4 := ext_lt
  have r5 := ext_drew
  have r6 := ext_ext
  have r7 := ext_lt1
  clear k1 hm hp
  unfold uv
  go_enter Try.func8, Try.ntmps8
  go_upto_region 4 with (first | (go_at_call 13; refine (F0 _).mono ?_; rintro e w' ⟨rfl, os, q, rfl⟩) | (go_at_call 20; refine (F1 _).mono ?_; rintro e w1 ⟨rfl, hE1⟩; have B1 := boxE (ext_on hE1); obtain ⟨z1, c0, c1, c2, c3, c4⟩ := B1))
  have z2 := Nat.lt_succ_of_lt z1
  simp only [Nat.succ_eq_add_one] at z2
  go_upto_region 6 with (go_at_call 20; refine (F2 _).mono ?_; rintro e w' ⟨rfl, os, q, rfl⟩)
  go_wp2
  refine wp_loop_rounds 10 ?_
  rw [rounds_succ]
  go_wp2_with (first | (go_at_call_of 20 (Value.int IntKind.u8 m); refine (F1 _).mono ?_; rintro e w' ⟨rfl, os, q, rfl⟩) | (go_at_call 20; refine (F3 _ _).mono ?_; rintro e w' ⟨rfl, os, q, rfl⟩))
  rw [rounds_succ]
  go_wp2_with (first | (go_at_call_of 20 (Value.int IntKind.u8 m); refine (F1 _).mono ?_; rintro e w' ⟨rfl, os, q, rfl⟩) | (go_at_call 20; refine (F3 _ _).mono ?_; rintro e w' ⟨rfl, os, q, rfl⟩))
  rw [rounds_succ]
  go_wp2_with (first | (go_at_call_of 20 (Value.int IntKind.u8 m); refine (F1 _).mono ?_; rintro e w' ⟨rfl, os, q, rfl⟩) | (go_at_call 20; refine (F3 _ _).mono ?_; rintro e w' ⟨rfl, os, q, rfl⟩))
  rw [rounds_succ]
  go_wp2_with (first | (go_at_call_of 20 (Value.int IntKind.u8 m); refine (F1 _).mono ?_; rintro e w' ⟨rfl, os, q, rfl⟩) | (go_at_call 20; refine (F3 _ _).mono ?_; rintro e w' ⟨rfl, os, q, rfl⟩))
  rw [rounds_succ]
  go_wp2_with (first | (go_at_call_of 20 (Value.int IntKind.u8 m); refine (F1 _).mono ?_; rintro e w' ⟨rfl, os, q, rfl⟩) | (go_at_call 20; refine (F3 _ _).mono ?_; rintro e w' ⟨rfl, os, q, rfl⟩))
  rw [rounds_succ]
  go_wp2_with (first | (go_at_call_of 20 (Value.int IntKind.u8 m); refine (F1 _).mono ?_; rintro e w' ⟨rfl, os, q, rfl⟩) | (go_at_call 20; refine (F3 _ _).mono ?_; rintro e w' ⟨rfl, os, q, rfl⟩))
  rw [rounds_succ]
  go_wp2_with (first | (go_at_call_of 20 (Value.int IntKind.u8 m); refine (F1 _).mono ?_; rintro e w' ⟨rfl, os, q, rfl⟩) | (go_at_call 20; refine (F3 _ _).mono ?_; rintro e w' ⟨rfl, os, q, rfl⟩))
  rw [rounds_succ]
  go_wp2_with (first | (go_at_call_of 20 (Value.int IntKind.u8 m); refine (F1 _).mono ?_; rintro e w' ⟨rfl, os, q, rfl⟩) | (go_at_call 20; refine (F3 _ _).mono ?_; rintro e w' ⟨rfl, os, q, rfl⟩))
  rw [rounds_succ]
  go_wp2_with (first | (go_at_call_of 20 (Value.int IntKind.u8 m); refine (F1 _).mono ?_; rintro e w' ⟨rfl, os, q, rfl⟩) | (go_at_call 20; refine (F3 _ _).mono ?_; rintro e w' ⟨rfl, os, q, rfl⟩))
  rw [rounds_succ]
  go_wp2_with (first | (go_at_call_of 20 (Value.int IntKind.u8 m); refine (F1 _).mono ?_; rintro e w' ⟨rfl, os, q, rfl⟩) | (go_at_call 20; refine (F3 _ _).mono ?_; rintro e w' ⟨rfl, os, q, rfl⟩))
  go_ret
  refine ⟨rfl, ?_⟩
  repeat (first | exact Ext.refl _ | refine Ext.trans ?_ hE1 | refine Ext.alloc ?_ _ | refine Ext.ext ?_ _ _ | refine Ext.drew ?_ | refine Ext.drewN ?_ _)

theorem aluTurns_walk (a x y s p m : Int) (w : World) (hu : Ok ⟨a, x, y, s, p⟩) (hm : 0 ≤ m ∧ m < 256) :
    Calls Try.prog 8 #[uv a x y s p, .int .u8 m] w fun e w' => e = .returned (.bool true) ∧ Below w.heap.size w w' :=
  (aluTurns_w a x y s p m w hu hm).mono fun _ _ h => ⟨h.1, h.2.below⟩

end Go.Proofs.Ytigpmmjbdpnkjaa
