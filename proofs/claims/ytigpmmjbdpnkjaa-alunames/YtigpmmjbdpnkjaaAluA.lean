/- The document's example, and flags set or cleared (walks). No law is claimed here. -/
import Derived.Test.YtigpmmjbdpnkjaaAlu7
import Derived.Test.YtigpmmjbdpnkjaaAluM
namespace Go.Proofs.Ytigpmmjbdpnkjaa
open Go.RowKit

theorem awake_val : adcU ⟨80, 0, 0, 0, 0⟩ 80 = ⟨160, 0, 0, 0, 192⟩ := by rfl

set_option maxRecDepth 100000 in
set_option maxHeartbeats 1000000 in
theorem awake_any (w : World) : Calls Try.prog 13 #[] w fun e w' => e = .returned (.bool true) ∧ Ext w w' := by
  have F0 := fun w => Read_adc 80 0 0 0 0 80 (by decide) (by decide) (by decide) (by decide) w
  rw [awake_val] at F0
  unfold uu uv at F0
  go_enter Try.func13, Try.ntmps13
  go_wp2_with (go_at_call 18; refine (F0 _).mono ?_; rintro e w' ⟨rfl, os, q, rfl⟩)
  go_ret
  exact ⟨rfl, (Ext.refl _).ext _ _⟩

set_option maxRecDepth 100000 in
set_option maxHeartbeats 1000000 in
theorem aluBits_w (a x y s p b : Int) (on : Bool) (w : World) (hb : 0 ≤ b ∧ b < 256) :
    Calls Try.prog 12 #[uv a x y s p, .int .u8 b, .bool on] w fun e w' => e = .returned (.bool true) ∧ Ext w w' := by
  have F0 := awake_any
  have F1 := flag_any
  unfold uu uv at F1
  have r1 := ext_cell
  have r2 := ext_frozen
  have r3 := ext_setCell
  have r4 := ext_lt
  have r5 := ext_drew
  have r6 := ext_ext
  have q1 : bits .and .u8 (flU ⟨a, x, y, s, p⟩ b on).p b = if on then b else 0 := fl_and p b on hb
  have q2 : bits .andNot .u8 (flU ⟨a, x, y, s, p⟩ b on).p b = bits .andNot .u8 p b := fl_andNot p b on
  have q3 : (flU ⟨a, x, y, s, p⟩ b on).a = a := rfl
  have q4 : (flU ⟨a, x, y, s, p⟩ b on).x = x := rfl
  have q5 : (flU ⟨a, x, y, s, p⟩ b on).y = y := rfl
  have q6 : (flU ⟨a, x, y, s, p⟩ b on).s = s := rfl
  clear hb
  cases on
  all_goals
    simp only [if_true, if_false, Bool.false_eq_true] at q1
    unfold uv
    go_enter Try.func12, Try.ntmps12
    go_wp2_with (first | (go_at_call 13; refine (F0 _).mono ?_; rintro e w' ⟨rfl, os, q, rfl⟩) | (go_at_call 23; refine (F1 _ _ _ _ _ _ _ _).mono ?_; rintro e w' ⟨rfl, os, q, rfl⟩))
    go_ret
    refine ⟨rfl, ?_⟩
    repeat (first | exact Ext.refl _ | refine Ext.alloc ?_ _ | refine Ext.ext ?_ _ _ | refine Ext.drew ?_ | refine Ext.drewN ?_ _)

theorem aluBits_walk (a x y s p b : Int) (on : Bool) (w : World) (_hu : Ok ⟨a, x, y, s, p⟩) (hb : 0 ≤ b ∧ b < 256) :
    Calls Try.prog 12 #[uv a x y s p, .int .u8 b, .bool on] w fun e w' => e = .returned (.bool true) ∧ Below w.heap.size w w' :=
  (aluBits_w a x y s p b on w hb).mono fun _ _ h => ⟨h.1, h.2.below⟩

end Go.Proofs.Ytigpmmjbdpnkjaa
