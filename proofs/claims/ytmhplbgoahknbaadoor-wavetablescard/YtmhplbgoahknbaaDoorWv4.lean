/- A wave's methods. No law is claimed here. -/
import Derived.Test.YtmhplbgoahknbaaDoorWv3
import Derived.StillTailTactics
namespace Go.Proofs.YtmhplbgoahknbaaDoor
open Go.RowKit

theorem tmod_is (n b : Int) (_hb : 0 < b) : n.tmod b = if 0 ≤ n then n % b else -((-n) % b) := by
  split
  · next h => exact Int.tmod_eq_emod_of_nonneg h
  · next h =>
    have := Int.tmod_eq_emod_of_nonneg (a := -n) (b := b) (by omega)
    rw [← this, Int.neg_tmod, Int.neg_neg]

set_option maxRecDepth 100000 in
set_option maxHeartbeats 1000000 in
theorem wdivide_16 (n : Int) (w : World) (hn : -1000000000 ≤ n ∧ n ≤ 1000000000) :
    Calls Tryd.prog 32 #[.int .i64 n, .int .i64 16] w fun e w' => e = .returned (.tuple #[.int .i64 (n / 16), .int .i64 (n % 16)]) ∧ w' = w := by
  have t1 := tmod_is n 16 (by decide)
  obtain ⟨t, ht⟩ : ∃ t, n.tmod 16 = t := ⟨_, rfl⟩
  rw [ht] at t1
  have t2 : -16 < t ∧ t < 16 := by split at t1 <;> omega
  have t3 : (t + 16).tmod 16 = n % 16 := by rw [Int.tmod_eq_emod_of_nonneg (by omega)]; split at t1 <;> omega
  have t4 : (n - n % 16).tdiv 16 = n / 16 := by
    rw [show n - n % 16 = 16 * (n / 16) by omega]
    exact Int.mul_tdiv_cancel_left _ (by decide)
  have t5 : IntKind.i64.wrap (t + 16) = t + 16 := IntWalk.i64_in _ ⟨by omega, by omega⟩
  have t6 : IntKind.i64.wrap (n - n % 16) = n - n % 16 := IntWalk.i64_in _ ⟨by omega, by omega⟩
  have t7 : IntKind.i64.wrap (n / 16) = n / 16 := IntWalk.i64_in _ ⟨by omega, by omega⟩
  clear t1
  go_enter Tryd.func32, Tryd.ntmps32
  go_wp2
  go_ret2
  exact ⟨rfl, rfl⟩

set_option maxRecDepth 100000 in
set_option maxHeartbeats 1000000 in
theorem wdivide_64 (n : Int) (w : World) (hn : -1000000000 ≤ n ∧ n ≤ 1000000000) :
    Calls Tryd.prog 32 #[.int .i64 n, .int .i64 64] w fun e w' => e = .returned (.tuple #[.int .i64 (n / 64), .int .i64 (n % 64)]) ∧ w' = w := by
  have t1 := tmod_is n 64 (by decide)
  obtain ⟨t, ht⟩ : ∃ t, n.tmod 64 = t := ⟨_, rfl⟩
  rw [ht] at t1
  have t2 : -64 < t ∧ t < 64 := by split at t1 <;> omega
  have t3 : (t + 64).tmod 64 = n % 64 := by rw [Int.tmod_eq_emod_of_nonneg (by omega)]; split at t1 <;> omega
  have t4 : (n - n % 64).tdiv 64 = n / 64 := by
    rw [show n - n % 64 = 64 * (n / 64) by omega]
    exact Int.mul_tdiv_cancel_left _ (by decide)
  have t5 : IntKind.i64.wrap (t + 64) = t + 64 := IntWalk.i64_in _ ⟨by omega, by omega⟩
  have t6 : IntKind.i64.wrap (n - n % 64) = n - n % 64 := IntWalk.i64_in _ ⟨by omega, by omega⟩
  have t7 : IntKind.i64.wrap (n / 64) = n / 64 := IntWalk.i64_in _ ⟨by omega, by omega⟩
  clear t1
  go_enter Tryd.func32, Tryd.ntmps32
  go_wp2
  go_ret2
  exact ⟨rfl, rfl⟩

set_option maxRecDepth 100000 in
set_option maxHeartbeats 1000000 in
theorem wwithin_any (n lo hi : Int) (w : World) :
    Calls Tryd.prog 31 #[.int .i64 n, .int .i64 lo, .int .i64 hi] w fun e w' => e = .returned (.bool (decide (lo ≤ n) && decide (n ≤ hi))) ∧ w' = w := by
  obtain ⟨D, hD⟩ : ∃ D, (decide (lo ≤ n) && decide (n ≤ hi)) = D := ⟨_, rfl⟩
  rw [hD]
  go_enter Tryd.func31, Tryd.ntmps31
  go_wp2
  all_goals
    go_ret
    refine ⟨?_, rfl⟩
    rw [← hD]
    simp
    try omega

set_option maxRecDepth 100000 in
set_option maxHeartbeats 1000000 in
theorem wsigned_any (n : Int) (w : World) (hn : -1000 ≤ n ∧ n ≤ 1000) :
    Calls Tryd.prog 42 #[.int .i64 n] w fun e w' => e = .returned (.int .i64 (sgnW n)) ∧ w' = w := by
  rcases (by omega : 63 < n ∨ (n ≤ 63 ∧ n < -64) ∨ (n ≤ 63 ∧ -64 ≤ n)) with h1 | ⟨h1, h2⟩ | ⟨h1, h2⟩
  all_goals
    obtain ⟨r, hr⟩ : ∃ r, sgnW n = r := ⟨_, rfl⟩
    rw [hr]
    unfold sgnW at hr
    first | rw [if_pos (by omega)] at hr | (rw [if_neg (by omega)] at hr; first | rw [if_pos (by omega)] at hr | rw [if_neg (by omega)] at hr)
    subst hr
    go_enter Tryd.func42, Tryd.ntmps42
    go_wp2
    go_ret
    exact ⟨rfl, rfl⟩

theorem mulCG (c g : Int) (hc : -64 ≤ c ∧ c ≤ 63) (hg : 0 ≤ g ∧ g ≤ 63) : -4032 ≤ c * g ∧ c * g ≤ 3969 := by
  constructor
  · have h1 : -64 * g ≤ c * g := Int.mul_le_mul_of_nonneg_right hc.1 hg.1
    omega
  · have h1 : c * g ≤ 63 * g := Int.mul_le_mul_of_nonneg_right hc.2 hg.1
    omega
theorem fac1_b (c p : Int) (hp : -4032 ≤ p ∧ p ≤ 3969) : -253 ≤ fac1 c p ∧ fac1 c p ≤ 250 := by
  unfold fac1; (repeat' split) <;> omega

set_option maxRecDepth 100000 in
set_option maxHeartbeats 1000000 in
theorem wfactor_any (c g : Int) (w : World) (hc : -64 ≤ c ∧ c ≤ 63) (hg : 0 ≤ g ∧ g ≤ 63) :
    Calls Tryd.prog 33 #[.int .i64 c, .int .i64 g] w fun e w' => e = .returned (.int .i64 (facW c g)) ∧ w' = w := by
  obtain ⟨p, hp⟩ : ∃ p, c * g = p := ⟨_, rfl⟩
  have bp := mulCG c g hc hg
  rw [hp] at bp
  have w1 : IntKind.i64.wrap p = p := IntWalk.i64_in _ ⟨by omega, by omega⟩
  have F0 := wdivide_16 p w ⟨by omega, by omega⟩
  obtain ⟨f, hf⟩ : ∃ f, fac1 c p = f := ⟨_, rfl⟩
  have bf := fac1_b c p bp
  rw [hf] at bf
  have hR : facW c g = (f + 64) % 256 - 64 := by unfold facW; rw [hp, hf]
  rw [hR]
  clear hR
  unfold fac1 at hf
  obtain ⟨t, ht⟩ : ∃ t, p / 16 = t := ⟨_, rfl⟩
  obtain ⟨r, hr⟩ : ∃ r, p % 16 = r := ⟨_, rfl⟩
  rw [ht, hr] at hf F0
  have bt : -252 ≤ t ∧ t ≤ 248 := by omega
  have br : 0 ≤ r ∧ r < 16 := by omega
  clear ht hr
  rcases a128 t (by omega) with ⟨h1, h2⟩ | ⟨h1, h2⟩ <;> rcases (by omega : r = 0 ∨ 0 < r) with h3 | h3 <;> rcases (by omega : c < 0 ∨ 0 ≤ c) with h4 | h4
  all_goals
    first
      | rw [if_neg (by omega)] at hf
      | (rw [if_pos (by omega)] at hf; first | rw [if_pos (by omega)] at hf | rw [if_neg (by omega)] at hf)
    clear h1
    have g1 := Int.le_of_eq hf
    have g2 := Int.le_of_eq hf.symm
    clear hf
    go_enter Tryd.func33, Tryd.ntmps33
    go_wp2_with (go_at_call 32; refine F0.mono ?_; rintro e w' ⟨rfl, rfl⟩)
    go_loop [5] (fun x => ∃ z : Int, x = .int .i64 z ∧ -300 ≤ z ∧ z ≤ 260 ∧ (z - f) % 256 = 0) (fun x => (intOf x).toNat)
    case atStart => exact ⟨_, rfl, by omega, by omega, by omega⟩
    case round =>
      obtain ⟨z, rfl, z1, z2, z3⟩ := hrel
      by_cases h5 : 192 ≤ z
      · go_wp2
        go_round
        case rel => exact ⟨z - 256, rfl, by omega, by omega, by omega⟩
        case measure => simp [intOf]; omega
      · go_wp2
        go_loop [5] (fun x => ∃ z : Int, x = .int .i64 z ∧ -300 ≤ z ∧ z < 192 ∧ (z - f) % 256 = 0) (fun x => (300 - intOf x).toNat)
        case atStart => exact ⟨_, rfl, by omega, by omega, by omega⟩
        case round =>
          obtain ⟨y, rfl, y1, y2, y3⟩ := hrel
          by_cases h6 : y < -64
          · go_wp2
            go_round
            case rel => exact ⟨y + 256, rfl, by omega, by omega, by omega⟩
            case measure => simp [intOf]; omega
          · go_wp2
            go_ret
            exact ⟨congrArg (fun x => Ending.returned (.int .i64 x)) (by omega), rfl⟩

theorem rndB (p f : Int) (hp : 0 ≤ p ∧ p ≤ 4095) (hf : -64 ≤ f ∧ f < 192) : -262080 ≤ p * f ∧ p * f ≤ 782145 := by
  have := mulB p f hp.1 hf
  omega

set_option maxRecDepth 100000 in
set_option maxHeartbeats 1000000 in
theorem wpitch_any (p c g : Int) (w : World) :
    Calls Tryd.prog 20 #[.int .i64 p, .int .i64 c, .int .i64 g] w fun e w' => e = .returned (.int .i64 (pitW p c g)) ∧ w' = w := by
  have F1 := wwithin_any p 0 4095 w
  have F2 := wwithin_any c (-64) 63 w
  have F3 := wwithin_any g 0 63 w
  by_cases h : inP p c g
  · obtain ⟨h1, h2, h3⟩ := h
    have F4 := wfactor_any c g w h2 h3
    have hR : pitW p c g = rndW p (facW c g) := if_pos ⟨h1, h2, h3⟩
    have bf := facW_b c g
    rw [hR]
    generalize facW c g = f at *
    unfold rndW
    have bx := rndB p f h1 bf
    obtain ⟨x, hx⟩ : ∃ x, p * f = x := ⟨_, rfl⟩
    rw [hx] at bx ⊢
    have w1 : IntKind.i64.wrap x = x := IntWalk.i64_in _ ⟨by omega, by omega⟩
    have F5 := wdivide_64 x w ⟨by omega, by omega⟩
    have d1 : (decide (0 ≤ p) && decide (p ≤ 4095)) = true := by simp; omega
    have d2 : (decide (-64 ≤ c) && decide (c ≤ 63)) = true := by simp; omega
    have d3 : (decide (0 ≤ g) && decide (g ≤ 63)) = true := by simp; omega
    rw [d1] at F1
    rw [d2] at F2
    rw [d3] at F3
    clear d1 d2 d3
    obtain ⟨u, hu⟩ : ∃ u, x / 64 = u := ⟨_, rfl⟩
    obtain ⟨r, hr⟩ : ∃ r, x % 64 = r := ⟨_, rfl⟩
    rw [hu, hr] at F5 ⊢
    have bu : -5000 ≤ u ∧ u ≤ 20000 := by omega
    obtain ⟨R, hR⟩ : ∃ R, (p + (u + if 32 ≤ r then 1 else 0)) = R := ⟨_, rfl⟩
    rw [hR]
    clear hu hr
    rcases (by omega : 32 ≤ r ∨ r < 32) with h5 | h5
    all_goals
      first | rw [if_pos h5] at hR | rw [if_neg (by omega)] at hR
      go_enter Tryd.func20, Tryd.ntmps20
      go_wp2_with (first
        | (go_at_call_of 31 (Value.int IntKind.i64 p); refine F1.mono ?_; rintro e w' ⟨rfl, rfl⟩)
        | (go_at_call_of 31 (Value.int IntKind.i64 c); refine F2.mono ?_; rintro e w' ⟨rfl, rfl⟩)
        | (go_at_call_of 31 (Value.int IntKind.i64 g); refine F3.mono ?_; rintro e w' ⟨rfl, rfl⟩)
        | (go_at_call 33; refine F4.mono ?_; rintro e w' ⟨rfl, rfl⟩)
        | (go_at_call 32; refine F5.mono ?_; rintro e w' ⟨rfl, rfl⟩))
      go_ret
      exact ⟨congrArg (fun x => Ending.returned (.int .i64 x)) (by omega), rfl⟩
  · have hR : pitW p c g = 0 := if_neg h
    rw [hR]
    unfold inP at h
    obtain ⟨d1, e1⟩ : ∃ d, (decide (0 ≤ p) && decide (p ≤ 4095)) = d := ⟨_, rfl⟩
    obtain ⟨d2, e2⟩ : ∃ d, (decide (-64 ≤ c) && decide (c ≤ 63)) = d := ⟨_, rfl⟩
    obtain ⟨d3, e3⟩ : ∃ d, (decide (0 ≤ g) && decide (g ≤ 63)) = d := ⟨_, rfl⟩
    have hd : d1 = false ∨ d2 = false ∨ d3 = false := by
      rw [← e1, ← e2, ← e3]; simp; omega
    rw [e1] at F1
    rw [e2] at F2
    rw [e3] at F3
    clear e1 e2 e3 h
    cases d1 <;> cases d2 <;> cases d3
    all_goals first
      | (exfalso; simp at hd; done)
      | (clear hd
         go_enter Tryd.func20, Tryd.ntmps20
         go_wp2_with (first
           | (go_at_call_of 31 (Value.int IntKind.i64 p); refine F1.mono ?_; rintro e w' ⟨rfl, rfl⟩)
           | (go_at_call_of 31 (Value.int IntKind.i64 c); refine F2.mono ?_; rintro e w' ⟨rfl, rfl⟩)
           | (go_at_call_of 31 (Value.int IntKind.i64 g); refine F3.mono ?_; rintro e w' ⟨rfl, rfl⟩))
         go_ret
         exact ⟨rfl, rfl⟩)

end Go.Proofs.YtmhplbgoahknbaaDoor
