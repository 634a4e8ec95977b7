/- WavePitches' walk. No law is claimed here. -/
import Derived.Test.YtmhplbgoahknbaaDoorWv11
import Derived.Test.YtmhplbgoahknbaaDoorWv12
namespace Go.Proofs.YtmhplbgoahknbaaDoor
open Go.RowKit

theorem pitW_same (p c g : Int) (h : inP p c g) (h0 : c = 0 ∨ g = 0) : pitW p c g = p := by
  have e : c * g = 0 := by rcases h0 with rfl | rfl <;> simp
  have f : facW c g = 0 := by unfold facW fac1; rw [e]; simp
  unfold pitW rndW
  rw [if_pos h, f]
  simp

set_option maxRecDepth 100000 in
set_option maxHeartbeats 1000000 in
theorem wavePitches_walk (p c g : Int) (w : World) (_hp : -9223372036854775808 ≤ p ∧ p ≤ 9223372036854775807) (_hc : -9223372036854775808 ≤ c ∧ c ≤ 9223372036854775807) (_hg : -9223372036854775808 ≤ g ∧ g ≤ 9223372036854775807) (hw : gw w) :
    Calls Tryd.prog 4 #[.int .i64 p, .int .i64 c, .int .i64 g] w fun e w' => e = .returned (.bool true) ∧ Below w.heap.size w w' := by
  have FA := awake13_any w hw
  have F1 := fun w => wpitch_any p c g w
  have F2 := fun w => rpitch_any p c g w
  have hN : (¬ inP p c g ∧ pitW p c g = 0) ∨ (inP p c g ∧ (c = 0 ∨ g = 0) ∧ pitW p c g = p) ∨ (inP p c g ∧ ¬ (c = 0 ∨ g = 0) ∧ 0 ≤ pitW p c g ∧ pitW p c g ≤ 4 * p + 1) := by
    by_cases h : inP p c g
    · by_cases h0 : c = 0 ∨ g = 0
      · exact .inr (.inl ⟨h, h0, pitW_same p c g h h0⟩)
      · exact .inr (.inr ⟨h, h0, pitW_b p c g h⟩)
    · exact .inl ⟨h, if_neg h⟩
  generalize pitW p c g = N at *
  unfold inP at hN
  rcases hN with ⟨h, rfl⟩ | ⟨⟨h1, h2, h3⟩, h0, rfl⟩ | ⟨⟨h1, h2, h3⟩, h0, h4, h5⟩
  · rcases (by omega : p < 0 ∨ (0 ≤ p ∧ 4095 < p) ∨ ((0 ≤ p ∧ p ≤ 4095) ∧ c < -64) ∨ ((0 ≤ p ∧ p ≤ 4095) ∧ -64 ≤ c ∧ 63 < c) ∨ ((0 ≤ p ∧ p ≤ 4095) ∧ (-64 ≤ c ∧ c ≤ 63) ∧ g < 0) ∨ ((0 ≤ p ∧ p ≤ 4095) ∧ (-64 ≤ c ∧ c ≤ 63) ∧ 0 ≤ g ∧ 63 < g)) with k | ⟨k1, k⟩ | ⟨k1, k⟩ | ⟨k1, k2, k⟩ | ⟨k1, k2, k⟩ | ⟨k1, k2, k3, k⟩
    all_goals
      clear h
      go_enter Tryd.func4, Tryd.ntmps4
      go_wp2_with (first
        | (go_at_call 10; refine FA.mono ?_; rintro e w1 ⟨rfl, b1⟩)
        | (go_at_call 20; refine (F1 _).mono ?_; rintro e w' ⟨rfl, rfl⟩)
        | (go_at_call 21; refine (F2 _).mono ?_; rintro e w' ⟨rfl, q, rfl⟩))
      go_ret
      exact ⟨rfl, b1.trans (still_below _ _ _)⟩
  · rcases (by omega : c = 0 ∨ (c ≠ 0 ∧ g = 0)) with rfl | ⟨h6, rfl⟩ <;> (try have h7 : (c == 0) = false := by rw [beq_eq_false_iff_ne]; exact h6)
    all_goals
      clear h0
      go_enter Tryd.func4, Tryd.ntmps4
      go_wp2_with (first
        | (go_at_call 10; refine FA.mono ?_; rintro e w1 ⟨rfl, b1⟩)
        | (go_at_call 20; refine (F1 _).mono ?_; rintro e w' ⟨rfl, rfl⟩)
        | (go_at_call 21; refine (F2 _).mono ?_; rintro e w' ⟨rfl, q, rfl⟩))
      go_ret
      exact ⟨rfl, b1.trans (still_below _ _ _)⟩
  · have h7 : (c == 0) = false := by rw [beq_eq_false_iff_ne]; omega
    have h8 : (g == 0) = false := by rw [beq_eq_false_iff_ne]; omega
    clear h0
    go_enter Tryd.func4, Tryd.ntmps4
    go_wp2_with (first
      | (go_at_call 10; refine FA.mono ?_; rintro e w1 ⟨rfl, b1⟩)
      | (go_at_call 20; refine (F1 _).mono ?_; rintro e w' ⟨rfl, rfl⟩)
      | (go_at_call 21; refine (F2 _).mono ?_; rintro e w' ⟨rfl, q, rfl⟩))
    go_ret
    exact ⟨by first | rfl | (simp; omega), b1.trans (still_below _ _ _)⟩

end Go.Proofs.YtmhplbgoahknbaaDoor
