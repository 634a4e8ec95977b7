/- PictureCounts' walk. No law is claimed here. -/
import Derived.Test.YthldppdkheclkaaPc18
set_option linter.unusedSimpArgs false
set_option linter.unusedVariables false
namespace Go.Proofs.Ythldppdkheclkaa
open Go.RowKit Go.Great

theorem lin0 : LIn ⟨0, 0, 0, false⟩ := ⟨by decide, by decide, by decide⟩
theorem basN_zero (S : Bool) : basN S 0 = 0 := by cases S <;> rfl
theorem basN_b (S : Bool) (k : Int) (hk : 0 ≤ k ∧ k ≤ 4) : 0 ≤ basN S k ∧ basN S k < 400000 := by unfold basN; split <;> omega

set_option maxRecDepth 100000 in
set_option maxHeartbeats 4000000 in
theorem pictureCounts_walk (k n0 : Int) (w : World) (hk0 : 0 ≤ k) (hk1 : k < 256) (hn0 : 0 ≤ n0) (hn1 : n0 < 256) :
    Calls Try.prog 7 #[.int .u8 k, .int .u8 n0] w fun e w' => e = .returned (.bool true) ∧ Below w.heap.size w w' := by
  have FA := awake15_any w
  obtain ⟨B, hB⟩ := natP (2 + n0 % 3) (by omega)
  have hB1 : B ≤ 4 := by omega
  have z0 : n0.tmod 3 = n0 % 3 := Int.tmod_eq_emod_of_nonneg hn0
  have z1 : IntKind.i64.wrap (n0 % 3) = n0 % 3 := IntWalk.i64_in _ ⟨by omega, by omega⟩
  go_enter Try.func7, Try.ntmps7
  go_upto_region 3 with (go_at_call 12; refine FA.mono ?_; rintro e w1 ⟨rfl, hb1⟩)
  clear FA
  have FN := pnew_any w1
  obtain ⟨m, hm⟩ : ∃ m, w1.heap.size = m := ⟨_, rfl⟩
  rw [hm] at FN
  go_upto_region 4 with (go_at_call 13; refine FN.mono ?_; rintro e w2 ⟨rfl, h2⟩)
  clear FN
  obtain ⟨A0, hA0, hT0⟩ := h2
  have FP := (ST.of hA0 hT0).put1 k
  go_upto_region 5 with (go_at_call 31; refine FP.mono ?_; rintro e w3 ⟨rfl, h3⟩)
  clear FP
  have hC : CS w1 w2 m k 0 0 0 w3 := ⟨⟨_, _, h3, lin0, ⟨Int.le_refl 0, (by decide : (0 : Int) ≤ 8)⟩, rfl, rfl, rfl, rfl⟩⟩
  clear h3 hA0 hT0
  go_upto_region 8 with (fail)
  go_loopw [19, 6, 7] (fun i W d wr => ∃ (j : Nat) (N L D : Int), i = .int .i64 j ∧ j ≤ B ∧ W = .int .i64 (basN (shwK k) j + 82183) ∧ d = .int .i64 N ∧ CN (shwK k) j L D j N ∧ CS w1 w2 m k L D j wr) (fun i _ _ _ => B - (intOf i).toNat)
  case atStart => exact ⟨0, 0, 0, 0, rfl, by omega, by rw [show ((0 : Nat) : Int) = 0 from rfl, basN_zero]; rfl, rfl, CN.first _, hC⟩
  case round =>
    clear hC
    obtain ⟨v1, rfl⟩ : ∃ v1, v1 = wr := ⟨wr, rfl⟩
    obtain ⟨j, N0, L0, D0, rfl, hj, rfl, rfl, hN0, hS0⟩ := hrel
    by_cases t1 : (j : Int) < B
    · have hj2 : j < B := by omega
      have hj4 : (0 : Int) ≤ j ∧ (j : Int) ≤ 4 := by omega
      have hj3 : (0 : Int) ≤ j ∧ (j : Int) ≤ 3 := by omega
      have bb := basN_b (shwK k) j hj4
      have bn := basN_next (shwK k) j
      have cn := CN.next (shwK k) hj3
      obtain ⟨b, hb⟩ : ∃ b, basN (shwK k) j = b := ⟨_, rfl⟩
      rw [hb] at bb bn cn ⊢
      go_upto_region 10 with (fail)
      go_loopw [7] (fun d wx => ∃ N L D F : Int, d = .int .i64 N ∧ CN (shwK k) j L D F N ∧ CS w1 w2 m k L D F wx) (fun d _ => 500000 - (intOf d).toNat)
      case atStart => exact ⟨N0, L0, D0, j, rfl, hN0, hS0⟩
      case round =>
        clear hN0 hS0
        obtain ⟨v2, rfl⟩ : ∃ v2, v2 = wr := ⟨wr, rfl⟩
        obtain ⟨N, L, D, F, rfl, hn, hs⟩ := hrel
        obtain ⟨b0, b1⟩ := hn.lt
        have FF := hs.frame
        by_cases t2 : F = j
        · have FC := hs.clk hn.rl hn.rd (by omega)
          have st := hn.step t2
          generalize nxL (shwK k) L D F = L2 at *
          generalize nxD (shwK k) L D F = D2 at *
          generalize nxF L D F = F2 at *
          have z3 : IntKind.i64.wrap (N + 1) = N + 1 := IntWalk.i64_in _ ⟨by omega, by omega⟩
          have t3 : (F == (j : Int)) = true := by simp [t2]
          have hme : 500000 - (N + 1).toNat < 500000 - N.toNat := by omega
          clear bn bb cn hn hs t2 hj4 hj3
          go_wp2_with (first | (go_at_call 34; refine FF.mono ?_; rintro e x ⟨rfl, rfl⟩) | (go_at_call 32; refine FC.mono ?_; rintro e v3 ⟨rfl, h3⟩))
          go_roundw
          case rel => exact ⟨N + 1, L2, D2, F2, by go_num, st, h3⟩
          case measure => simpa [intOf] using hme
        · obtain ⟨rfl, rfl, rfl, eN⟩ := hn.out t2
          have t3 : ((j : Int) + 1 == (j : Int)) = false := by simp; omega
          rw [hb] at eN
          subst eN
          have tm : (j : Int).tmod 2 = (j : Int) % 2 := Int.tmod_eq_emod_of_nonneg hj4.1
          have hj5 : j + 1 ≤ B := by omega
          have hme : B - (j + 1) < B - j := by omega
          have z3 : IntKind.i64.wrap (b + 82183 + 89342) = b + 82183 + 89342 := IntWalk.i64_in _ ⟨by omega, by omega⟩
          have z4 : IntKind.i64.wrap (b + 82183 + 89342 - 1) = b + 82183 + 89342 - 1 := IntWalk.i64_in _ ⟨by omega, by omega⟩
          have b2 : b + 82183 < 500000 := by omega
          have eK : shwK k = !decide (bits .and .u8 k 24 = 0) := rfl
          clear t2 hn
          by_cases o1 : (j : Int) % 2 = 1
          · by_cases o2 : bits .and .u8 k 24 = 0
            · have eS : shwK k = false := by rw [eK, o2]; rfl
              rw [if_neg (fun h => by rw [eS] at h; exact absurd h.2 (by decide))] at bn
              clear eK eS
              have bn2 : basN (shwK k) ((j + 1 : Nat) : Int) + 82183 = b + 82183 + 89342 := by rw [show ((j + 1 : Nat) : Int) = (j : Int) + 1 by omega, bn]; omega
              clear bn bb hj4 hj3 hb
              go_wp2_with (go_at_call 34; refine FF.mono ?_; rintro e x ⟨rfl, rfl⟩)
              go_roundw
              case rel => exact ⟨j + 1, b + 82183, 241, 2, by go_num, hj5, by rw [bn2], rfl, cn, hs⟩
              case measure => simpa [intOf] using hme
            · have eS : shwK k = true := by rw [eK, decide_eq_false o2]; rfl
              have o3 : (bits .and .u8 k 24 != 0) = true := by simpa using o2
              rw [if_pos ⟨o1, eS⟩] at bn
              clear eK eS
              have bn2 : basN (shwK k) ((j + 1 : Nat) : Int) + 82183 = b + 82183 + 89342 - 1 := by rw [show ((j + 1 : Nat) : Int) = (j : Int) + 1 by omega, bn]; omega
              clear bn bb hj4 hj3 hb
              go_wp2_with (go_at_call 34; refine FF.mono ?_; rintro e x ⟨rfl, rfl⟩)
              go_roundw
              case rel => exact ⟨j + 1, b + 82183, 241, 2, by go_num, hj5, by rw [bn2], rfl, cn, hs⟩
              case measure => simpa [intOf] using hme
          · rw [if_neg (fun h => o1 h.1)] at bn
            clear eK
            have o3 : ((j : Int) % 2 == 1) = false := by simpa using o1
            have bn2 : basN (shwK k) ((j + 1 : Nat) : Int) + 82183 = b + 82183 + 89342 := by rw [show ((j + 1 : Nat) : Int) = (j : Int) + 1 by omega, bn]; omega
            clear bn bb hj4 hj3 hb
            go_wp2_with (go_at_call 34; refine FF.mono ?_; rintro e x ⟨rfl, rfl⟩)
            go_roundw
            case rel => exact ⟨j + 1, b + 82183, 241, 2, by go_num, hj5, by rw [bn2], rfl, cn, hs⟩
            case measure => simpa [intOf] using hme
    · have hB := hS0.bel
      rw [← hm] at hB
      go_wp2
      go_ret
      exact ⟨rfl, hb1.trans (hB.mono hb1.size)⟩

end Go.Proofs.Ythldppdkheclkaa
