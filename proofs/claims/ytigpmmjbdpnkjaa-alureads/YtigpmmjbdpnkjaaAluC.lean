/- What is taken away, and added again (walk). No law is claimed here. -/
import Derived.Test.YtigpmmjbdpnkjaaAluB
namespace Go.Proofs.Ytigpmmjbdpnkjaa
open Go.RowKit

theorem not_fin : ∀ n : Fin 256, notB (n.val : Int) = 255 - (n.val : Int) := by decide +kernel
theorem not_in (m : Int) (h : 0 ≤ m ∧ m < 256) : notB m = 255 - m := by
  obtain ⟨k, rfl⟩ : ∃ k : Nat, m = (k : Int) := ⟨m.toNat, by omega⟩
  exact not_fin ⟨k, by omega⟩

set_option maxRecDepth 100000 in
set_option maxHeartbeats 1000000 in
theorem aluBorrows_w (a x y s p m : Int) (w : World) (hu : Ok ⟨a, x, y, s, p⟩) (hm : 0 ≤ m ∧ m < 256) :
    Calls Try.prog 7 #[uv a x y s p, .int .u8 m] w fun e w' => e = .returned (.bool true) ∧ Ext w w' := by
  obtain ⟨⟨ha, ha2⟩, _, _, _, hp⟩ := hu
  simp only at ha ha2 hp
  have F0 := awake_any
  have F1 := fun w => flag_any a x y s p 1 true w
  have f1 : bits .and .u8 (flU ⟨a, x, y, s, p⟩ 1 true).p 1 = 1 := fl_and p 1 true (by omega)
  have f2 : (flU ⟨a, x, y, s, p⟩ 1 true).a = a := rfl
  unfold uu uv at F1
  generalize flU ⟨a, x, y, s, p⟩ 1 true = U at *
  have F2 := fun w => Read_sbc U.a U.x U.y U.s U.p m (by omega) (by omega) w
  have k1 := adcA U (notB m)
  have k2 := adcC U (notB m)
  unfold uu uv at F2
  change ∀ w, Calls Try.prog 18 #[.agg #[.int .u8 U.a, .int .u8 U.x, .int .u8 U.y, .int .u8 U.s, .int .u8 U.p], .int .u8 5, .int .u8 m] w fun e w' => e = .returned (.agg #[.int .u8 (adcU U (notB m)).a, .int .u8 (adcU U (notB m)).x, .int .u8 (adcU U (notB m)).y, .int .u8 (adcU U (notB m)).s, .int .u8 (adcU U (notB m)).p]) ∧ Ext w w' at F2
  generalize adcU U (notB m) = X at *
  rw [f1, f2, not_in m hm] at k1 k2
  have F3 := fun w => flag_any X.a X.x X.y X.s X.p 1 false w
  have g1 : bits .and .u8 (flU X 1 false).p 1 = 0 := fl_and X.p 1 false (by omega)
  have g2 : (flU X 1 false).a = X.a := rfl
  unfold uu uv at F3
  change ∀ w, Calls Try.prog 23 #[.agg #[.int .u8 X.a, .int .u8 X.x, .int .u8 X.y, .int .u8 X.s, .int .u8 X.p], .int .u8 1, .bool false] w fun e w' => e = .returned (.agg #[.int .u8 (flU X 1 false).a, .int .u8 (flU X 1 false).x, .int .u8 (flU X 1 false).y, .int .u8 (flU X 1 false).s, .int .u8 (flU X 1 false).p]) ∧ Ext w w' at F3
  generalize flU X 1 false = V at *
  have F4 := fun w => Read_adc V.a V.x V.y V.s V.p m (by omega) (by omega) hm.1 hm.2 w
  have l1 := adcA V m
  have l2 := adcC V m
  unfold uu uv at F4
  change ∀ w, Calls Try.prog 18 #[.agg #[.int .u8 V.a, .int .u8 V.x, .int .u8 V.y, .int .u8 V.s, .int .u8 V.p], .int .u8 4, .int .u8 m] w fun e w' => e = .returned (.agg #[.int .u8 (adcU V m).a, .int .u8 (adcU V m).x, .int .u8 (adcU V m).y, .int .u8 (adcU V m).s, .int .u8 (adcU V m).p]) ∧ Ext w w' at F4
  generalize adcU V m = Y at *
  rw [g1, g2] at l1 l2
  have m1 : Y.a = a := by omega
  have m2 : IntKind.u8.wrap (a - m) = X.a := by rw [wrap_u8_mod]; omega
  have m3 : ((bits .and .u8 X.p 1 == 0) == (bits .and .u8 Y.p 1 != 0)) = true := by
    rw [k2, l2]
    by_cases h : m ≤ a
    · rw [if_pos (by omega), if_neg (by omega)]; rfl
    · rw [if_neg (by omega), if_pos (by omega)]; rfl
  have m4 : ((bits .and .u8 X.p 1 != 0) == decide (m ≤ a)) = true := by
    rw [k2]
    by_cases h : m ≤ a
    · rw [if_pos (by omega), decide_eq_true h]; rfl
    · rw [if_neg (by omega), decide_eq_false h]; rfl
  clear k1 k2 l1 l2 f1 f2 g1 g2 hm ha ha2
  have r1 := ext_cell
  have r2 := ext_frozen
  have r3 := ext_setCell
  have r4 := ext_lt
  have r5 := ext_drew
  have r6 := ext_ext
  unfold uv
  go_enter Try.func7, Try.ntmps7
  go_wp2_with (first | (go_at_call 13; refine (F0 _).mono ?_; rintro e w' ⟨rfl, os, q, rfl⟩) | (go_at_call_of 23 (Value.bool true); refine (F1 _).mono ?_; rintro e w' ⟨rfl, os, q, rfl⟩) | (go_at_call_of 23 (Value.bool false); refine (F3 _).mono ?_; rintro e w' ⟨rfl, os, q, rfl⟩) | (go_at_call_of 18 (Value.int IntKind.u8 5); refine (F2 _).mono ?_; rintro e w1 ⟨rfl, hE1⟩; have B1 := boxE (ext_on hE1); obtain ⟨z1, c0, c1, c2, c3, c4⟩ := id B1) | (go_at_call_of 18 (Value.int IntKind.u8 4); refine (F4 _).mono ?_; rintro e w2 ⟨rfl, hE2⟩; have B2 := boxE (ext_on hE2); have B3 := B1.past (ext_on hE2); obtain ⟨y1, d0, d1, d2, d3, d4⟩ := id B2; obtain ⟨y2, e0, e1, e2, e3, e4⟩ := id B3))
  go_ret
  refine ⟨rfl, ?_⟩
  repeat (first | exact Ext.refl _ | refine Ext.trans ?_ hE2 | refine Ext.trans ?_ hE1 | refine Ext.alloc ?_ _ | refine Ext.ext ?_ _ _ | refine Ext.drew ?_ | refine Ext.drewN ?_ _)

theorem aluBorrows_walk (a x y s p m : Int) (w : World) (hu : Ok ⟨a, x, y, s, p⟩) (hm : 0 ≤ m ∧ m < 256) :
    Calls Try.prog 7 #[uv a x y s p, .int .u8 m] w fun e w' => e = .returned (.bool true) ∧ Below w.heap.size w w' :=
  (aluBorrows_w a x y s p m w hu hm).mono fun _ _ h => ⟨h.1, h.2.below⟩

end Go.Proofs.Ytigpmmjbdpnkjaa
