/- The noise's windows and walks. No law is claimed here. -/
import Derived.Test.YtniclofgnmgmfaaDoorTnNoise1
namespace Go.Proofs.YtniclofgnmgmfaaDoor
open Go.RowKit

/-- a noise behind k clocks from the register b on -/
structure NJ (sh : Bool) (k : Nat) (b : Nat) (s : TS) : Prop where
  kind : s.kind = 3
  ctl : s.ctl = 31
  len : 0 < s.len
  per : s.per = 3
  short : s.short = sh
  tim : s.tim = if k % 4 = 0 then 0 else 4 - ((k % 4 : Nat) : Int)
  bits : s.bits = ((itN sh ((k + 3) / 4) b : Nat) : Int)
theorem bitT_nat {s : TS} {b : Nat} (h : s.bits = (b : Int)) : bitT s = ((nxN s.short b : Nat) : Int) := by
  unfold bitT nxN
  rw [h]
  cases s.short
  · simp only [Bool.false_eq_true, if_false]; omega
  · simp only [if_true]; omega
theorem NJ.next {sh : Bool} {k b : Nat} {s : TS} (h : NJ sh k b s) : NJ sh (k + 1) b (clockT s) := by
  obtain ⟨h1, h2, h3, h4, h5, h6, h7⟩ := h
  by_cases hk : k % 4 = 0
  · rw [if_pos hk] at h6
    have e : clockT s = { s with tim := s.per, bits := bitT s } := by
      unfold clockT advT; rw [if_neg (by omega)]; simp only; rw [if_neg (by omega), if_pos h1]; rfl
    rw [e]
    refine ⟨h1, h2, h3, h4, h5, ?_, ?_⟩
    · simp only; rw [h4, if_neg (by omega)]; omega
    · simp only
      rw [bitT_nat h7, h5, show (k + 1 + 3) / 4 = (k + 3) / 4 + 1 by omega]
      rfl
  · rw [if_neg hk] at h6
    have e : clockT s = { s with tim := s.tim - 1 } := by unfold clockT; rw [if_pos (by omega)]
    rw [e]
    refine ⟨h1, h2, h3, h4, h5, ?_, ?_⟩
    · simp only; rw [h6]; split <;> omega
    · simp only; rw [h7, show (k + 1 + 3) / 4 = (k + 3) / 4 by omega]
theorem NJ.roll {sh : Bool} {n b : Nat} {s : TS} (h : NJ sh (4 * n) b s) : NJ sh 0 (itN sh n b) s := by
  obtain ⟨h1, h2, h3, h4, h5, h6, h7⟩ := h
  refine ⟨h1, h2, h3, h4, h5, ?_, ?_⟩
  · rw [h6, if_pos (by omega), if_pos (by omega)]
  · rw [h7, show (4 * n + 3) / 4 = n by omega]; rfl
theorem NJ.out {sh : Bool} {b : Nat} {s : TS} (h : NJ sh 0 b s) : (b % 2 = 0 → outT s = 15) ∧ (b % 2 = 1 → outT s = 0) := by
  obtain ⟨h1, h2, h3, h4, h5, h6, h7⟩ := h
  have h7' : s.bits = (b : Int) := h7
  have hv : volT s = 15 := by unfold volT; rw [h2, if_pos (by decide)]; decide
  have ho : outT s = if s.len ≤ 0 ∨ s.bits % 2 ≠ 0 then 0 else volT s := by
    unfold outT; rw [if_neg (by omega), if_pos h1]
  rw [ho, hv, h7']
  exact ⟨fun h => by rw [if_neg (by omega)], fun h => by rw [if_pos (by omega)]⟩

set_option maxRecDepth 100000 in
set_option maxHeartbeats 400000 in
theorem walk11_any {w0 v : World} {m : Nat} {s : TS} {sh : Bool} {b : Nat} (n : Nat) (hT : TW w0 m s v) (hI : NJ sh 0 b s) (hn : n ≤ 70000) :
    Calls Tryd.prog 28 #[.pointer (some ⟨m, 0, none⟩), .int .i64 n] v fun e v' => e = .returned (.tuple #[]) ∧ ∃ s', TW w0 m s' v' ∧ NJ sh 0 (itN sh n b) s' := by
  go_enter Tryd.func28, Tryd.ntmps28
  go_upto_region 1 with (fail)
  go_loopw [6] (fun i wr => ∃ (k : Nat) (s : TS), k ≤ 4 * n ∧ i = .int .i64 k ∧ NJ sh k b s ∧ TW w0 m s wr) (fun i _ => 4 * n - (intOf i).toNat)
  case atStart => exact ⟨0, s, by omega, rfl, hI, hT⟩
  case round =>
    clear hI hT
    obtain ⟨k, s, hk, rfl, hI, hT⟩ := hrel
    by_cases h : k < 4 * n
    · have t1 : (k : Int) < 4 * (n : Int) := by omega
      have hN := hI.next
      go_wp2_with (go_at_call 22; refine hT.clock.mono ?_; clear hT; rintro e w5 ⟨rfl, hT⟩)
      go_roundw
      case rel => exact ⟨k + 1, clockT s, by omega, by go_num, hN, hT⟩
      case measure => simp [intOf]; omega
    · have t1 : ¬ (k : Int) < 4 * (n : Int) := by omega
      have hk2 : k = 4 * n := by omega
      subst hk2
      have hR := hI.roll
      go_wp2
      (first | refine bodyPost_end (results_none rfl _ _ _) rfl ?_ | refine bodyPost_ret (results_none rfl _ _ _) rfl ?_)
      exact ⟨rfl, s, hT, hR⟩

/-- what a window shows -/
def winN (sh : Bool) : Nat → Nat → Nat
  | 0, _ => 0
  | j + 1, b => winN sh j b * 2 + (1 - itN sh j b % 2)
theorem winN_lt (sh : Bool) (b : Nat) : ∀ j, j ≤ 30 → winN sh j b < 2 ^ j ∧ winN sh j b < 1073741824
  | 0, _ => ⟨by show (0 : Nat) < 1; decide, by show (0 : Nat) < _; decide⟩
  | j + 1, h => by
    have := winN_lt sh b j (by omega)
    have h2 : (2 : Nat) ^ (j + 1) = 2 * 2 ^ j := by rw [Nat.pow_succ, Nat.mul_comm]
    have h3 : (2 : Nat) ^ (j + 1) ≤ 2 ^ 30 := Nat.pow_le_pow_right (by decide) h
    have h4 : winN sh (j + 1) b = winN sh j b * 2 + (1 - itN sh j b % 2) := rfl
    have h5 : winN sh (j + 1) b < 2 ^ (j + 1) := by omega
    exact ⟨h5, Nat.lt_of_lt_of_le h5 h3⟩
theorem or_u64 (x c : Nat) (hx : x < 1073741824) (hc : c < 2) : bits .or .u64 ((x : Int) * 2) (c : Int) = (x : Int) * 2 + c := by
  rw [show (x : Int) * 2 = ((x * 2 : Nat) : Int) by omega, or_uns .u64 rfl (x * 2) c (by show x * 2 < 18446744073709551616; omega) (by show c < 18446744073709551616; omega),
    Nat.or_comm, show x * 2 = x * 2 ^ 1 from rfl, add_or c x 1 (by omega)]
  omega

set_option maxRecDepth 100000 in
set_option maxHeartbeats 400000 in
theorem window11_any {w0 v : World} {m : Nat} {s : TS} {sh : Bool} {b : Nat} (hT : TW w0 m s v) (hI : NJ sh 0 b s) :
    Calls Tryd.prog 27 #[.pointer (some ⟨m, 0, none⟩)] v fun e v' => e = .returned (.int .u64 (winN sh 30 b)) ∧ ∃ s', TW w0 m s' v' ∧ NJ sh 0 (itN sh 30 b) s' := by
  have z2 : bits .and .u8 15 1 = 1 := by decide
  have z3 : bits .and .u8 0 1 = 0 := by decide
  go_enter Tryd.func27, Tryd.ntmps27
  go_upto_region 3 with (fail)
  go_loopw [3, 4] (fun x i wr => ∃ (j : Nat) (s : TS), j ≤ 30 ∧ i = .int .i64 j ∧ x = .int .u64 (winN sh j b) ∧ NJ sh 0 (itN sh j b) s ∧ TW w0 m s wr) (fun _ i _ => 30 - (intOf i).toNat)
  case atStart => exact ⟨0, s, by omega, rfl, rfl, hI, hT⟩
  case round =>
    clear hI hT
    obtain ⟨j, s, hj, rfl, rfl, hI, hT⟩ := hrel
    obtain ⟨_, hw⟩ := winN_lt sh b j hj
    by_cases h : j < 30
    · have t1 : (j : Int) < 30 := by omega
      have hE : winN sh (j + 1) b = winN sh j b * 2 + (1 - itN sh j b % 2) := rfl
      have hO := hT.out
      obtain ⟨p0, p1⟩ := hI.out
      have FW := fun v (hT : TW w0 m s v) => walk11_any 1 hT hI (by decide)
      have hS : ∀ x, itN sh 1 x = nxN sh x := fun _ => rfl
      have z1 : IntKind.u64.wrap ((winN sh j b : Int) * 2) = (winN sh j b : Int) * 2 := by
        rw [show (winN sh j b : Int) * 2 = ((winN sh j b * 2 : Nat) : Int) by omega]
        exact wrap_uns .u64 rfl _ (by show winN sh j b * 2 < 18446744073709551616; omega)
      have z4 := or_u64 (winN sh j b) 0 hw (by decide)
      have z5 := or_u64 (winN sh j b) 1 hw (by decide)
      have hI2 : itN sh (j + 1) b = itN sh 1 (itN sh j b) := rfl
      generalize itN sh j b = c at *
      generalize winN sh j b = x at *
      simp only [Int.natCast_zero, Int.natCast_one, Int.add_zero] at z4 z5
      rcases Nat.mod_two_eq_zero_or_one c with hc | hc
      · rw [p0 hc] at hO
        rw [hc] at hE
        clear p0 p1 hc
        go_wp2_with (first
          | (go_at_call 29; refine hO.mono ?_; clear hO; rintro e w5 ⟨rfl, q, rfl⟩; replace hT := hT.drewN q)
          | (go_at_call 28; refine (FW _ hT).mono ?_; clear hT; rintro e w6 ⟨rfl, s', hT, hI'⟩))
        go_roundw
        case rel => exact ⟨j + 1, s', by omega, by go_num, by rw [hE]; push_cast; rfl, by rw [hI2]; exact hI', hT⟩
        case measure => simp [intOf]; omega
      · rw [p1 hc] at hO
        rw [hc] at hE
        clear p0 p1 hc
        go_wp2_with (first
          | (go_at_call 29; refine hO.mono ?_; clear hO; rintro e w5 ⟨rfl, q, rfl⟩; replace hT := hT.drewN q)
          | (go_at_call 28; refine (FW _ hT).mono ?_; clear hT; rintro e w6 ⟨rfl, s', hT, hI'⟩))
        go_roundw
        case rel => exact ⟨j + 1, s', by omega, by go_num, by rw [hE]; push_cast; simp, by rw [hI2]; exact hI', hT⟩
        case measure => simp [intOf]; omega
    · have t1 : ¬ (j : Int) < 30 := by omega
      have hj2 : j = 30 := by omega
      subst hj2
      go_wp2
      go_ret
      exact ⟨rfl, s, hT, hI⟩

end Go.Proofs.YtniclofgnmgmfaaDoor
