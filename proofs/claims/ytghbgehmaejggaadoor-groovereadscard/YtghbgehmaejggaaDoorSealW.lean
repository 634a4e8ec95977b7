/- Contracts of package seal: Step, Short, rollLong, Long, sealOf, little, number, Frame, Next. No law is claimed here. -/
import Derived.Test.YtghbgehmaejggaaDoorR1
import Derived.Test.YtghbgehmaejggaaDoorCrc
namespace Go.Proofs.YtghbgehmaejggaaDoor
open Go.RowKit

def StepsTo (k s b t : Nat) : Prop := stepK (8 - k) s b = t
theorem StepsTo.next {k s b t : Nat} (h : StepsTo k s b t) (hk : k < 8) : StepsTo (k + 1) (sbit s (b % 2)) (b / 2) t := by
  unfold StepsTo at *
  rw [show 8 - k = (8 - (k + 1)) + 1 from by omega] at h
  exact h
theorem StepsTo.done {k s b t : Nat} (h : StepsTo k s b t) (hk : ¬ k < 8) : s = t := by
  unfold StepsTo at *
  rw [show 8 - k = 0 from by omega] at h
  exact h
def MixesTo (k q t : Nat) : Prop := lmixK (8 - k) q = t
theorem MixesTo.next {k q t : Nat} (h : MixesTo k q t) (hk : k < 8) : MixesTo (k + 1) (lmix q) t := by
  unfold MixesTo at *
  rw [show 8 - k = (8 - (k + 1)) + 1 from by omega] at h
  exact h
theorem MixesTo.done {k q t : Nat} (h : MixesTo k q t) (hk : ¬ k < 8) : q = t := by
  unfold MixesTo at *
  rw [show 8 - k = 0 from by omega] at h
  exact h

set_option maxRecDepth 100000 in
set_option maxHeartbeats 400000 in
theorem sstep_any (s b : Int) (w : World) (hs : 0 ≤ s) (hs2 : s < 65536) (hb : 0 ≤ b) (hb2 : b < 256) :
    Calls Tryd.prog 39 #[.int .u16 s, .int .u8 b] w fun e w' => e = .returned (.int .u16 (stepN s.toNat b.toNat : Int)) ∧ w = w' := by
  generalize ht : stepN s.toNat b.toNat = t
  have HT := Lib.hid ht
  clear ht
  go_enter Tryd.func39, Tryd.ntmps39
  go_wp2
  go_loop [0, 1, 6] (fun s' b' i => ∃ (k : Nat) (s1 b1 : Int), k ≤ 8 ∧ i = .int .i64 k ∧ s' = .int .u16 s1 ∧ b' = .int .u8 b1 ∧ 0 ≤ s1 ∧ s1 < 65536 ∧ 0 ≤ b1 ∧ b1 < 256 ∧ StepsTo k s1.toNat b1.toNat t) (fun _ _ i => 8 - (intOf i).toNat)
  case atStart => exact ⟨0, s, b, by omega, rfl, rfl, rfl, by omega, by omega, by omega, by omega, HT.out⟩
  case round =>
    obtain ⟨k, s1, b1, hk, rfl, rfl, rfl, h0, h1, h2, h3, hK⟩ := hrel
    by_cases hlt : k < 8
    · go_wp2
      obtain ⟨s1, rfl⟩ := Int.eq_ofNat_of_zero_le h0
      obtain ⟨b1, rfl⟩ := Int.eq_ofNat_of_zero_le h2
      rw [sbit_walk s1 b1 (by omega) (by omega)]
      go_round
      case rel =>
        have hlt2 := sbit_lt s1 (b1 % 2) (by omega) (by omega)
        rw [Int.toNat_natCast, Int.toNat_natCast] at hK
        exact ⟨k + 1, (sbit s1 (b1 % 2) : Nat), (b1 / 2 : Nat), by omega, by go_num, rfl, by go_num, by omega, by omega, by omega, by omega, by rw [Int.toNat_natCast, Int.toNat_natCast]; exact hK.next hlt⟩
      case measure => simp [intOf]; omega
    · go_wp2
      go_ret
      have e := hK.done hlt
      subst e
      exact ⟨by rw [Int.toNat_of_nonneg h0]; rfl, rfl⟩

set_option maxRecDepth 100000 in
set_option maxHeartbeats 400000 in
theorem sshort_any (A : Option Addr) (n c B : Nat) (xs : List UInt8) (w : World) (hr : Rd bv w B A n c xs) (hn : n ≤ 9223372036854775807) :
    Calls Tryd.prog 28 #[.slice A n c] w fun e w' => e = .returned (.int .u16 (shortN xs : Int)) ∧ w = w' := by
  have HL := Lib.hid hr.len
  go_enter Tryd.func28, Tryd.ntmps28
  go_wp2
  go_loop [3, 8] (fun s i => ∃ (k r : Nat), k ≤ n ∧ i = .int .i64 k ∧ s = .int .u16 r ∧ (r : Int) < 65536 ∧ Hid (r = shortF 32768 (xs.take k))) (fun _ i => n - (intOf i).toNat)
  case atStart => exact ⟨0, 32768, by omega, rfl, rfl, by omega, rfl⟩
  case round =>
    obtain ⟨k, r, hk, rfl, rfl, hr1, hR⟩ := hrel
    by_cases hlt : k < n
    · obtain ⟨b, off, rfl, _, hc⟩ := hr.at_ k (by rw [HL.out]; exact hlt)
      have HS : Hid (shortF 32768 (xs.take (k + 1)) = stepN r (xs[k]'(by rw [HL.out]; exact hlt)).toNat) := by
        rw [List.take_succ_eq_append_getElem (by rw [HL.out]; exact hlt), shortF_snoc, ← hR.out]; rfl
      generalize xs[k]'(by rw [HL.out]; exact hlt) = x at *
      unfold bv at hc
      have hx := x.toNat_lt
      go_wp2_with (go_at_call 39; refine (sstep_any _ _ _ (by omega) (by omega) (by omega) (by omega)).mono ?_; rintro e w' ⟨rfl, rfl⟩)
      have hlt2 := stepN_lt r x.toNat (by omega)
      go_round
      case rel => exact ⟨k + 1, _, by omega, by go_num, rfl, by omega, HS.out.symm⟩
      case measure => simp [intOf]; omega
    · have HE : Hid (shortN xs = stepN (stepN r 0) 0) := by
        have := hR.out
        rw [List.take_of_length_le (by rw [HL.out]; omega)] at this
        rw [this]; rfl
      have h1 := stepN_lt r 0 (by omega)
      have h1' : (stepN r 0 : Int) < 65536 := by omega
      clear h1
      go_wp2_with fail
      refine (sstep_any _ _ _ (by omega) (by omega) (by omega) (by omega)).mono ?_
      rintro e w' ⟨rfl, rfl⟩
      rw [Int.toNat_natCast, Int.toNat_zero]
      go_wp2_with fail
      refine (sstep_any _ _ _ (by omega) (by omega) (by omega) (by omega)).mono ?_
      rintro e w' ⟨rfl, rfl⟩
      rw [Int.toNat_natCast, Int.toNat_zero]
      go_wp2
      go_ret
      rw [HE.out]
      exact ⟨rfl, rfl⟩

end Go.Proofs.YtghbgehmaejggaaDoor
