/- A wave's methods. No law is claimed here. -/
import Derived.Test.YtmhplbgoahknbaaDoorWv10
import Derived.StillTailTactics
namespace Go.Proofs.YtmhplbgoahknbaaDoor
open Go.RowKit

theorem ret2 {x y A B : Int} (h1 : x = A) (h2 : y = B) : Ending.returned (.tuple #[.int .i64 x, .int .i64 y]) = Ending.returned (.tuple #[.int .i64 A, .int .i64 B]) := by rw [h1, h2]

set_option maxRecDepth 100000 in
set_option maxHeartbeats 1000000 in
theorem rfloor_16 (n : Int) (w : World) (hn : -1000000000 ≤ n ∧ n ≤ 1000000000) :
    Calls Tryd.prog 34 #[.int .i64 n, .int .i64 16] w fun e w' => e = .returned (.tuple #[.int .i64 (n / 16), .int .i64 (n % 16)]) ∧ ∃ q, w' = w.drewN q := by
  have t1 := tmod_is n 16 (by decide)
  obtain ⟨t, ht⟩ : ∃ t, n.tmod 16 = t := ⟨_, rfl⟩
  rw [ht] at t1
  have t2 : -16 < t ∧ t < 16 := by split at t1 <;> omega
  have t3 : 16 * n.tdiv 16 + t = n := by rw [← ht]; exact Int.mul_tdiv_add_tmod n 16
  obtain ⟨u, hu⟩ : ∃ u, n.tdiv 16 = u := ⟨_, rfl⟩
  rw [hu] at t3
  have y1 : IntKind.i64.wrap u = u := IntWalk.i64_in _ ⟨by omega, by omega⟩
  have y2 : IntKind.i64.wrap (u - 1) = u - 1 := IntWalk.i64_in _ ⟨by omega, by omega⟩
  have y3 : IntKind.i64.wrap (t + 16) = t + 16 := IntWalk.i64_in _ ⟨by omega, by omega⟩
  clear t1
  obtain ⟨A, hA⟩ : ∃ A, n / 16 = A := ⟨_, rfl⟩
  obtain ⟨B, hB⟩ : ∃ B, n % 16 = B := ⟨_, rfl⟩
  rw [hA, hB]
  have hAB : n ≤ 16 * A + B ∧ 16 * A + B ≤ n ∧ 0 ≤ B ∧ B < 16 := by omega
  have g3 := Int.le_of_eq t3
  have g4 := Int.le_of_eq t3.symm
  clear t3
  clear hA hB
  rcases (by omega : t < 0 ∨ 0 ≤ t) with h1 | h1
  all_goals
    go_enter Tryd.func34, Tryd.ntmps34
    go_upto_region 1 with (fail)
    go_quiet (fail)
    go_wp2
    go_ret2
    refine ⟨?_, ?_⟩
    case refine_2 => ((repeat (first | refine dr_n ?_ _ | refine dr_1 ?_)); exact dr_0 _)
    first
      | exact ret2 (show u - 1 = A by omega) (show t + 16 = B by omega)
      | exact ret2 (show u = A by omega) (show t = B by omega)

set_option maxRecDepth 100000 in
set_option maxHeartbeats 1000000 in
theorem rfloor_64 (n : Int) (w : World) (hn : -1000000000 ≤ n ∧ n ≤ 1000000000) :
    Calls Tryd.prog 34 #[.int .i64 n, .int .i64 64] w fun e w' => e = .returned (.tuple #[.int .i64 (n / 64), .int .i64 (n % 64)]) ∧ ∃ q, w' = w.drewN q := by
  have t1 := tmod_is n 64 (by decide)
  obtain ⟨t, ht⟩ : ∃ t, n.tmod 64 = t := ⟨_, rfl⟩
  rw [ht] at t1
  have t2 : -64 < t ∧ t < 64 := by split at t1 <;> omega
  have t3 : 64 * n.tdiv 64 + t = n := by rw [← ht]; exact Int.mul_tdiv_add_tmod n 64
  obtain ⟨u, hu⟩ : ∃ u, n.tdiv 64 = u := ⟨_, rfl⟩
  rw [hu] at t3
  have y1 : IntKind.i64.wrap u = u := IntWalk.i64_in _ ⟨by omega, by omega⟩
  have y2 : IntKind.i64.wrap (u - 1) = u - 1 := IntWalk.i64_in _ ⟨by omega, by omega⟩
  have y3 : IntKind.i64.wrap (t + 64) = t + 64 := IntWalk.i64_in _ ⟨by omega, by omega⟩
  clear t1
  obtain ⟨A, hA⟩ : ∃ A, n / 64 = A := ⟨_, rfl⟩
  obtain ⟨B, hB⟩ : ∃ B, n % 64 = B := ⟨_, rfl⟩
  rw [hA, hB]
  have hAB : n ≤ 64 * A + B ∧ 64 * A + B ≤ n ∧ 0 ≤ B ∧ B < 64 := by omega
  have g3 := Int.le_of_eq t3
  have g4 := Int.le_of_eq t3.symm
  clear t3
  clear hA hB
  rcases (by omega : t < 0 ∨ 0 ≤ t) with h1 | h1
  all_goals
    go_enter Tryd.func34, Tryd.ntmps34
    go_upto_region 1 with (fail)
    go_quiet (fail)
    go_wp2
    go_ret2
    refine ⟨?_, ?_⟩
    case refine_2 => ((repeat (first | refine dr_n ?_ _ | refine dr_1 ?_)); exact dr_0 _)
    first
      | exact ret2 (show u - 1 = A by omega) (show t + 64 = B by omega)
      | exact ret2 (show u = A by omega) (show t = B by omega)

set_option maxRecDepth 100000 in
set_option maxHeartbeats 1000000 in
theorem rfloor_256 (n : Int) (w : World) (hn : -1000000000 ≤ n ∧ n ≤ 1000000000) :
    Calls Tryd.prog 34 #[.int .i64 n, .int .i64 256] w fun e w' => e = .returned (.tuple #[.int .i64 (n / 256), .int .i64 (n % 256)]) ∧ ∃ q, w' = w.drewN q := by
  have t1 := tmod_is n 256 (by decide)
  obtain ⟨t, ht⟩ : ∃ t, n.tmod 256 = t := ⟨_, rfl⟩
  rw [ht] at t1
  have t2 : -256 < t ∧ t < 256 := by split at t1 <;> omega
  have t3 : 256 * n.tdiv 256 + t = n := by rw [← ht]; exact Int.mul_tdiv_add_tmod n 256
  obtain ⟨u, hu⟩ : ∃ u, n.tdiv 256 = u := ⟨_, rfl⟩
  rw [hu] at t3
  have y1 : IntKind.i64.wrap u = u := IntWalk.i64_in _ ⟨by omega, by omega⟩
  have y2 : IntKind.i64.wrap (u - 1) = u - 1 := IntWalk.i64_in _ ⟨by omega, by omega⟩
  have y3 : IntKind.i64.wrap (t + 256) = t + 256 := IntWalk.i64_in _ ⟨by omega, by omega⟩
  clear t1
  obtain ⟨A, hA⟩ : ∃ A, n / 256 = A := ⟨_, rfl⟩
  obtain ⟨B, hB⟩ : ∃ B, n % 256 = B := ⟨_, rfl⟩
  rw [hA, hB]
  have hAB : n ≤ 256 * A + B ∧ 256 * A + B ≤ n ∧ 0 ≤ B ∧ B < 256 := by omega
  have g3 := Int.le_of_eq t3
  have g4 := Int.le_of_eq t3.symm
  clear t3
  clear hA hB
  rcases (by omega : t < 0 ∨ 0 ≤ t) with h1 | h1
  all_goals
    go_enter Tryd.func34, Tryd.ntmps34
    go_upto_region 1 with (fail)
    go_quiet (fail)
    go_wp2
    go_ret2
    refine ⟨?_, ?_⟩
    case refine_2 => ((repeat (first | refine dr_n ?_ _ | refine dr_1 ?_)); exact dr_0 _)
    first
      | exact ret2 (show u - 1 = A by omega) (show t + 256 = B by omega)
      | exact ret2 (show u = A by omega) (show t = B by omega)

set_option maxRecDepth 100000 in
set_option maxHeartbeats 2000000 in
theorem rpitch_any (p c g : Int) (w : World) :
    Calls Tryd.prog 21 #[.int .i64 p, .int .i64 c, .int .i64 g] w fun e w' => e = .returned (.int .i64 (pitW p c g)) ∧ ∃ q, w' = w.drewN q := by
  by_cases h : inP p c g
  · obtain ⟨h1, h2, h3⟩ := h
    have hR : pitW p c g = rndW p (facW c g) := if_pos ⟨h1, h2, h3⟩
    rw [hR]
    clear hR
    have bF := facW_b c g
    obtain ⟨F, hF⟩ : ∃ F, facW c g = F := ⟨_, rfl⟩
    rw [hF] at bF ⊢
    unfold facW at hF
    have bx := rndB p F h1 bF
    unfold rndW
    obtain ⟨x, hx⟩ : ∃ x, p * F = x := ⟨_, rfl⟩
    rw [hx] at bx ⊢
    have yx : wrap64 x = x := IntWalk.wrap64_in _ ⟨by omega, by omega⟩
    have yx2 : IntKind.i64.wrap x = x := IntWalk.i64_in _ ⟨by omega, by omega⟩
    obtain ⟨m, hm⟩ : ∃ m, c * g = m := ⟨_, rfl⟩
    have bm := mulCG c g h2 h3
    rw [hm] at bm hF
    have ym : wrap64 m = m := IntWalk.wrap64_in _ ⟨by omega, by omega⟩
    have ym2 : IntKind.i64.wrap m = m := IntWalk.i64_in _ ⟨by omega, by omega⟩
    obtain ⟨f, hf⟩ : ∃ f, fac1 c m = f := ⟨_, rfl⟩
    rw [hf] at hF
    have bf := fac1_b c m bm
    rw [hf] at bf
    unfold fac1 at hf
    have F16 := fun w => rfloor_16 m w ⟨by omega, by omega⟩
    obtain ⟨t, ht⟩ : ∃ t, m / 16 = t := ⟨_, rfl⟩
    obtain ⟨r, hr⟩ : ∃ r, m % 16 = r := ⟨_, rfl⟩
    rw [ht, hr] at hf
    simp only [ht, hr] at F16
    have bt : -252 ≤ t ∧ t ≤ 248 := by omega
    have br : 0 ≤ r ∧ r < 16 := by omega
    clear ht hr
    have F256 := fun w => rfloor_256 t w ⟨by omega, by omega⟩
    obtain ⟨l, hl⟩ : ∃ l, t % 256 = l := ⟨_, rfl⟩
    simp only [hl] at F256
    rw [hl] at hf
    have bl : 0 ≤ l ∧ l < 256 := by omega
    have F64 := fun w => rfloor_64 x w ⟨by omega, by omega⟩
    obtain ⟨u, hu⟩ : ∃ u, x / 64 = u := ⟨_, rfl⟩
    obtain ⟨v, hv⟩ : ∃ v, x % 64 = v := ⟨_, rfl⟩
    rw [hu, hv]
    simp only [hu, hv] at F64
    have bu : -5000 ≤ u ∧ u ≤ 20000 := by omega
    have bv : 0 ≤ v ∧ v < 64 := by omega
    clear hu hv
    obtain ⟨R, hRR⟩ : ∃ R, (p + (u + if 32 ≤ v then 1 else 0)) = R := ⟨_, rfl⟩
    rw [hRR]
    clear hl
    rcases (by omega : r = 0 ∨ 0 < r) with e1 | e1 <;> rcases (by omega : l < 128 ∨ 128 ≤ l) with e2 | e2 <;> rcases (by omega : c < 0 ∨ 0 ≤ c) with e3 | e3 <;> rcases (by omega : 31 < v ∨ v ≤ 31) with e4 | e4
    all_goals
      first
        | rw [if_neg (by omega)] at hf
        | (rw [if_pos (by omega)] at hf; first | rw [if_pos (by omega)] at hf | rw [if_neg (by omega)] at hf)
      first | rw [if_pos (by omega)] at hRR | rw [if_neg (by omega)] at hRR
      have g1 := Int.le_of_eq hf
      have g2 := Int.le_of_eq hf.symm
      have g3 := Int.le_of_eq hRR
      have g4 := Int.le_of_eq hRR.symm
      have g5 := Int.le_of_eq hF
      have g6 := Int.le_of_eq hF.symm
      have F256b : ∀ n w, n ≤ f + 64 → f + 64 ≤ n → Calls Tryd.prog 34 #[.int .i64 n, .int .i64 256] w fun e w' => e = .returned (.tuple #[.int .i64 (n / 256), .int .i64 (F + 64)]) ∧ ∃ q, w' = w.drewN q := fun n w ha hb => (rfloor_256 n w ⟨by omega, by omega⟩).mono fun e w' he => ⟨by rw [he.1, show n % 256 = F + 64 by omega], he.2⟩
      clear hf hRR hF
      go_enter Tryd.func21, Tryd.ntmps21
      go_wp2_with (first
        | (go_at_call_of 34 (Value.int IntKind.i64 16); refine (F16 _).mono ?_; rintro e w' ⟨rfl, q1, rfl⟩)
        | (go_at_call_of 34 (Value.int IntKind.i64 64); refine (F64 _).mono ?_; rintro e w' ⟨rfl, q4, rfl⟩)
        | (go_at_call_of 34 (Value.int IntKind.i64 t); refine (F256 _).mono ?_; clear F256; rintro e w' ⟨rfl, q2, rfl⟩)
        | (go_at_call 34; refine (F256b _ _ ?_ ?_).mono ?_; omega; omega; rintro e w' ⟨rfl, q3, rfl⟩))
      go_ret
      refine ⟨?_, ?_⟩
      · exact congrArg (fun x => Ending.returned (.int .i64 x)) (by omega)
      · ((repeat (first | refine dr_n ?_ _ | refine dr_1 ?_)); exact dr_0 _)
  · rw [show pitW p c g = 0 from if_neg h]
    unfold inP at h
    rcases (by omega : p < 0 ∨ (0 ≤ p ∧ 4095 < p) ∨ ((0 ≤ p ∧ p ≤ 4095) ∧ c < -64) ∨ ((0 ≤ p ∧ p ≤ 4095) ∧ -64 ≤ c ∧ 63 < c) ∨ ((0 ≤ p ∧ p ≤ 4095) ∧ (-64 ≤ c ∧ c ≤ 63) ∧ g < 0) ∨ ((0 ≤ p ∧ p ≤ 4095) ∧ (-64 ≤ c ∧ c ≤ 63) ∧ 0 ≤ g ∧ 63 < g)) with k | ⟨k1, k⟩ | ⟨k1, k⟩ | ⟨k1, k2, k⟩ | ⟨k1, k2, k⟩ | ⟨k1, k2, k3, k⟩
    all_goals
      clear h
      go_enter Tryd.func21, Tryd.ntmps21
      go_wp2
      go_ret
      exact ⟨rfl, 0, rfl⟩

end Go.Proofs.YtmhplbgoahknbaaDoor
