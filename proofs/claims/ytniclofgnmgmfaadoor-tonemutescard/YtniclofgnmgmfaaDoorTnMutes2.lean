/- ToneMutes' walk. No law is claimed here. -/
import Derived.Test.YtniclofgnmgmfaaDoorTnMutes
namespace Go.Proofs.YtniclofgnmgmfaaDoor
open Go.RowKit

theorem lsum_b (a : Int) (ha : 0 ≤ a ∧ a < 4) : ∀ j : Nat, j ≤ 8 → 0 ≤ lsum a j ∧ lsum a j ≤ j
  | 0, _ => ⟨Int.le_refl _, Int.le_refl _⟩
  | j + 1, h => by
    have := lsum_b a ha j (by omega)
    have hd := dut_01 (a * 8 + j) (by omega)
    show 0 ≤ lsum a j + at0 dutL (a * 8 + j) ∧ lsum a j + at0 dutL (a * 8 + j) ≤ ((j + 1 : Nat) : Int)
    omega
theorem loudI_b (Z : Bool) (a : Int) (ha : 0 ≤ a ∧ a < 4) (j : Nat) (hj : j ≤ 8) : 0 ≤ loudI Z a j ∧ loudI Z a j ≤ j := by
  have := lsum_b a ha j hj
  unfold loudI; split <;> omega
theorem loudI_0 (Z : Bool) (a : Int) : loudI Z a 0 = 0 := by unfold loudI; split <;> rfl

set_option maxRecDepth 100000 in
set_option maxHeartbeats 2000000 in
theorem toneMutes_walk (two : Bool) (v d sp P0 : Int) (w : World) (hv : 0 ≤ v ∧ v < 256) (hd : 0 ≤ d ∧ d < 256) (hsp : 0 ≤ sp ∧ sp < 256) (hP0 : 0 ≤ P0 ∧ P0 < 65536) (hg : gl w) :
    Calls Tryd.prog 8 #[.bool two, .int .u8 v, .int .u8 d, .int .u8 sp, .int .u16 P0] w fun e w' => e = .returned (.bool true) ∧ Below w.heap.size w w' := by
  have FA := awake11_any w hg
  obtain ⟨p, hp⟩ : ∃ p, P0 % 2048 = p := ⟨_, rfl⟩
  have bp : 0 ≤ p ∧ p < 2048 := by omega
  obtain ⟨a, ha⟩ : ∃ a, d % 4 = a := ⟨_, rfl⟩
  have ba : 0 ≤ a ∧ a < 4 := by omega
  obtain ⟨V, hV⟩ : ∃ V, v % 16 = V := ⟨_, rfl⟩
  have bV : 0 ≤ V ∧ V < 16 := by omega
  obtain ⟨sw, hsw⟩ : ∃ sw, sp % 128 = sw := ⟨_, rfl⟩
  have bsw : 0 ≤ sw ∧ sw < 256 := by omega
  have y1 : IntKind.u8.wrap (d * 64) = a * 64 := by rw [wrap_u8_mod]; omega
  obtain ⟨y2, y3⟩ := orX a V ba bV
  have y4 := l15 v hv
  rw [hV] at y4
  have y5 := l127 sp hsp
  rw [hsw] at y5
  have y6 := l7 sp hsp
  have y7 := l3 d hd
  rw [ha] at y7
  obtain ⟨X, hX⟩ : ∃ X, a * 64 + 48 + V = X := ⟨_, rfl⟩
  have bX : 0 ≤ X ∧ X < 256 := by omega
  rw [hX] at y3
  obtain ⟨c, hc⟩ : ∃ c, p / 2 ^ (sp % 8).toNat = c := ⟨_, rfl⟩
  have bc : 0 ≤ c ∧ c ≤ p := by rw [← hc]; exact ⟨Int.ediv_nonneg bp.1 (Int.pow_nonneg (by decide)), Int.ediv_le_self _ bp.1⟩
  have hTg : tgtM sw p = if sp / 8 % 2 = 0 then p + c else 0 := by
    unfold tgtM
    rw [show sw % 8 = sp % 8 by omega, hc, show sw / 8 % 2 = sp / 8 % 2 by omega]
  have z2 : IntKind.u8.wrap p = p % 256 := wrap_u8_mod _
  have z3 : IntKind.u8.wrap (p / 256) = p / 256 := by rw [wrap_u8_mod]; omega
  have hS := fun (K : Int) (hK : 0 ≤ K ∧ K < 2) => mutS_is K X sw p hK bp
  obtain ⟨lo, hlo⟩ : ∃ lo, p % 256 = lo := ⟨_, rfl⟩
  obtain ⟨hi, hhi⟩ : ∃ hi, p / 256 = hi := ⟨_, rfl⟩
  have blo : 0 ≤ lo ∧ lo < 256 := by omega
  have bhi : 0 ≤ hi ∧ hi < 256 := by omega
  unfold mutS at hS
  rw [hlo] at z2 hS
  rw [hhi] at z3 hS
  have fin : mutM sw p = (decide (p < 8) || decide (2047 < tgtM sw p)) := rfl
  rw [hTg] at fin
  have hLb := fun j hj => loudI_b (mutM sw p || decide (V = 0)) a ba j hj
  have hL0 := loudI_0 (mutM sw p || decide (V = 0)) a
  have hSum := lsum_8 a ba
  obtain ⟨K, hK, bK, FN⟩ : ∃ K : Int, K = (if two then 1 else 0) ∧ (0 ≤ K ∧ K < 2) ∧ ∀ w, gl w → Calls Tryd.prog 12 #[.int .u8 (if two then 1 else 0)] w fun e w' => e = .returned (.pointer (some ⟨w.heap.size, 0, none⟩)) ∧ TW w w.heap.size (newT K) w' := by
    cases two
    · exact ⟨0, rfl, by decide, fun w hg => tnew_tw 0 w w (by decide) hg (Below.refl _ _)⟩
    · exact ⟨1, rfl, by decide, fun w hg => tnew_tw 1 w w (by decide) hg (Below.refl _ _)⟩
  replace hS := hS K bK
  clear hK
  generalize newT K = s0 at *
  cases two <;> rcases b8 sp hsp with ⟨e1, e2⟩ | ⟨e1, e2⟩
  all_goals
    simp only [if_true, if_false, Bool.false_eq_true] at FN
    simp only [e1, if_true, show ¬ ((1 : Int) = 0) by decide, if_false] at fin
    go_enter Tryd.func8, Tryd.ntmps8
    go_upto_region 13 with (first
      | (go_at_call 11; refine FA.mono ?_; rintro e w1 ⟨rfl, b1⟩; have g1 := hg.below b1)
      | (go_at_call 12; refine (FN _ g1).mono ?_; rintro e w3 ⟨rfl, hT⟩)
      | (go_at_call 16; refine (hT.en true).mono ?_; clear hT; rintro e w4 ⟨rfl, hT⟩)
      | (go_at_call_of 18 (Value.int IntKind.u8 X); refine (hT.put 0 X (by decide) bX).mono ?_; clear hT; rintro e w5 ⟨rfl, hT⟩)
      | (go_at_call_of 18 (Value.int IntKind.u8 sw); refine (hT.put 1 sw (by decide) bsw).mono ?_; clear hT; rintro e w6 ⟨rfl, hT⟩)
      | (go_at_call_of 18 (Value.int IntKind.u8 lo); refine (hT.put 2 lo (by decide) blo).mono ?_; clear hT; rintro e w7 ⟨rfl, hT⟩)
      | (go_at_call_of 18 (Value.int IntKind.u8 hi); refine (hT.put 3 hi (by decide) bhi).mono ?_; clear hT; rintro e w8 ⟨rfl, hT⟩))
    generalize putT (putT (putT (putT (enT s0 true) 0 X) 1 sw) 2 lo) 3 hi = s1 at *
    go_upto_region 16 with (fail)
    clear FA FN hp ha hV hsw y1 y2 y3 y5 y6 hc hTg z2 z3 hlo hhi e2
    clear blo bhi bsw bX
    obtain ⟨Z, hZ⟩ : ∃ Z, (mutM sw p || decide (V = 0)) = Z := ⟨_, rfl⟩
    rw [hZ] at hLb hL0
    go_upto_region 18 with (fail)
    go_loopw [14, 57] (fun lo' i wr => ∃ (j : Nat) (s : TS), j ≤ 8 ∧ i = .int .i64 j ∧ lo' = .int .i64 (loudI Z a j) ∧ MI K X sw p j 0 s ∧ TW w1 w1.heap.size s wr) (fun _ i _ => 8 - (intOf i).toNat)
    case atStart => exact ⟨0, s1, by decide, rfl, by rw [hL0], hS, hT⟩
    case round =>
      clear hS hT
      obtain ⟨j, s, hj, rfl, rfl, hI, hT⟩ := hrel
      have hend : ∀ s v, TW w1 w1.heap.size s v → Below w.heap.size w v := fun s v h => b1.trans (h.below.mono b1.size)
      obtain ⟨q1, q2⟩ := hLb j hj
      by_cases h : j < 8
      · have t1 : (j : Int) < 8 := by omega
        have hOut := MI.out (V := V) (by rw [hX]; exact hI) bK ba bV bp h
        rw [hZ] at hOut
        have hO := hT.out
        have y8 : IntKind.i64.wrap (loudI Z a j + 1) = loudI Z a j + 1 := IntWalk.i64_in _ ⟨by omega, by omega⟩
        obtain ⟨Lj, hLj⟩ : ∃ Lj, loudI Z a j = Lj := ⟨_, rfl⟩
        rw [hLj] at y8 q1 q2 hOut ⊢
        rcases hOut with ⟨o0, o1⟩ | ⟨o0, V0, o1⟩
        all_goals
          rw [o0] at hO
          clear o0
          (try have V1 : (V != 0) = true := by rw [bne_iff_ne]; exact V0)
          go_upto_region 25 with (go_at_call 29; refine hO.mono ?_; clear hO; rintro e w9 ⟨rfl, q, rfl⟩; replace hT := hT.drewN q)
          go_loopw [76] (fun i wr => ∃ (k : Nat) (s : TS), (k : Int) ≤ p + 1 ∧ i = .int .i64 k ∧ MI K X sw p j k s ∧ TW w1 w1.heap.size s wr) (fun i _ => (p + 1).toNat - (intOf i).toNat)
          case atStart => exact ⟨0, s, by omega, rfl, hI, hT⟩
          case round =>
            clear hI hT
            obtain ⟨k, s, hk, rfl, hI, hT⟩ := hrel
            by_cases hkp : (k : Int) < p + 1
            · have hN := hI.next bK hkp bp.1
              go_wp2_with (go_at_call 22; refine hT.clock.mono ?_; clear hT; rintro e w10 ⟨rfl, hT⟩)
              go_roundw
              case rel => exact ⟨k + 1, clockT s, by omega, by go_num, by push_cast; exact hN, hT⟩
              case measure => simp [intOf]; omega
            · have hkp2 : (k : Int) = p + 1 := by omega
              rw [hkp2] at hI
              have hR := hI.roll bp.1
              clear hkp2 hI hk
              go_wp2
              go_roundw
              case rel => exact ⟨j + 1, s, by omega, by go_num, by rw [o1], hR, hT⟩
              case measure => simp [intOf]; omega
      · have hj8 : j = 8 := by omega
        subst hj8
        have hE := hend _ _ hT
        clear hT hI hLb hL0 hend q1 q2 hj h
        rcases (by omega : V = 0 ∨ V ≠ 0) with hV0 | hV0 <;> rcases (by omega : p < 8 ∨ ¬ p < 8) with hp8 | hp8 <;> rcases (by omega : 2047 < p + c ∨ ¬ 2047 < p + c) with hpc | hpc
        all_goals
          first
            | (have V1 : (V == 0) = true := by rw [beq_iff_eq]; exact hV0)
            | (have V1 : (V == 0) = false := by rw [beq_eq_false_iff_ne]; exact hV0)
          first
            | (have d1 : decide (p < 8) = true := by simp; omega)
            | (have d1 : decide (p < 8) = false := by simp; omega)
          first
            | (have d2 : decide (2047 < p + c) = true := by simp; omega)
            | (have d2 : decide (2047 < p + c) = false := by simp; omega)
          first
            | (have hZv : Z = true := by rw [← hZ, fin]; simp; omega
               have hF : loudI Z a 8 = 0 := by rw [hZv]; rfl
               clear hZ hZv fin hSum hV0 hp8 hpc hX
               rw [hF]
               go_wp2
               go_ret
               exact ⟨rfl, hE⟩)
            | (have hZv : Z = false := by rw [← hZ, fin]; simp; omega
               have hF : loudI Z a 8 = lsum a 8 := by rw [hZv]; rfl
               rw [hF]
               clear hZ hZv fin hF hV0 hp8 hpc hX
               rcases (by omega : a = 0 ∨ a = 1 ∨ a = 2 ∨ a = 3) with ea | ea | ea | ea
               · rw [hSum.1 ea]
                 rw [ea] at y7
                 clear hSum ea
                 go_wp2
                 go_ret
                 exact ⟨rfl, hE.alloc hE.size _⟩
               · rw [hSum.2.1 ea]
                 rw [ea] at y7
                 clear hSum ea
                 go_wp2
                 go_ret
                 exact ⟨rfl, hE.alloc hE.size _⟩
               · rw [hSum.2.2.1 ea]
                 rw [ea] at y7
                 clear hSum ea
                 go_wp2
                 go_ret
                 exact ⟨rfl, hE.alloc hE.size _⟩
               · rw [hSum.2.2.2 ea]
                 rw [ea] at y7
                 clear hSum ea
                 go_wp2
                 go_ret
                 exact ⟨rfl, hE.alloc hE.size _⟩)

end Go.Proofs.YtniclofgnmgmfaaDoor
