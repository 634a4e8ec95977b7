/- Contracts of package seal: Step, Short, rollLong, Long, sealOf, little, number, Frame, Next. No law is claimed here. -/
import Derived.Test.YtkgccoghdalniaaR1
import Derived.Test.YtkgccoghdalniaaCrc
namespace Go.Proofs.Ytkgccoghdalniaa
open Go.RowKit

def StepsTo (k s b t : Nat) : Prop := stepK (8 - k) s b = t
theorem StepsTo.next {k s b t : Nat} (h : StepsTo k s b t) (hk : k < 8) : StepsTo (k + 1) (sbit s (b % 2)) (b / 2) t := by
  unfold StepsTo at *
  rw [show 8 - k = (8 - (k + 1)) + 1 from by omega] at h
  exact h
theorem StepsTo.done {k s b t : Nat} (h : StepsTo k s b t) (hk : ¬ k < 8) : s = t := by
  unfold StepsTo at *
  rw [show 8 - k = 0 from by omega] at h
  exact h
def MixesTo (k q t : Nat) : Prop := lmixK (8 - k) q = t
theorem MixesTo.next {k q t : Nat} (h : MixesTo k q t) (hk : k < 8) : MixesTo (k + 1) (lmix q) t := by
  unfold MixesTo at *
  rw [show 8 - k = (8 - (k + 1)) + 1 from by omega] at h
  exact h
theorem MixesTo.done {k q t : Nat} (h : MixesTo k q t) (hk : ¬ k < 8) : q = t := by
  unfold MixesTo at *
  rw [show 8 - k = 0 from by omega] at h
  exact h

set_option maxRecDepth 100000 in
set_option maxHeartbeats 400000 in
theorem roll_any (s : Int) (A : Option Addr) (n c B : Nat) (xs : List UInt8) (w : World) (hs : 0 ≤ s) (hs2 : s < 4294967296) (hr : Rd bv w B A n c xs) (hn : n ≤ 9223372036854775807) :
    Calls Try.prog 42 #[.int .u32 s, .slice A n c] w fun e w' => e = .returned (.int .u32 (rollN s.toNat xs : Int)) ∧ w = w' := by
  have HL := Lib.hid hr.len
  go_enter Try.func42, Try.ntmps42
  go_wp2
  go_loop [0, 9] (fun s' i => ∃ (k : Nat) (r : Int), k ≤ n ∧ i = .int .i64 k ∧ s' = .int .u32 r ∧ 0 ≤ r ∧ r < 4294967296 ∧ Hid (r.toNat = rollN s.toNat (xs.take k))) (fun _ i => n - (intOf i).toNat)
  case atStart => exact ⟨0, s, by omega, rfl, rfl, by omega, by omega, rfl⟩
  case round =>
    obtain ⟨k, r, hk, rfl, rfl, hr0, hr1, hR⟩ := hrel
    by_cases hlt : k < n
    · obtain ⟨b, off, rfl, _, hc⟩ := hr.at_ k (by rw [HL.out]; exact hlt)
      have HS : Hid (rollN s.toNat (xs.take (k + 1)) = lbyte r.toNat (xs[k]'(by rw [HL.out]; exact hlt)).toNat) := by
        rw [List.take_succ_eq_append_getElem (by rw [HL.out]; exact hlt), rollN_snoc, ← hR.out]; rfl
      generalize xs[k]'(by rw [HL.out]; exact hlt) = x at *
      unfold bv at hc
      have hx := x.toNat_lt
      have HX : Hid (bits .xor .u32 r (x.toNat : Int) = ((r.toNat ^^^ x.toNat : Nat) : Int)) := by
        have := xor_u32 r.toNat x.toNat (by omega) (by omega)
        rw [Int.toNat_of_nonneg hr0] at this
        exact this
      have HY : Hid (r.toNat ^^^ x.toNat < 4294967296) := Nat.xor_lt_two_pow (n := 32) (by omega) (by omega)
      have HM : MixesTo 0 (r.toNat ^^^ x.toNat) (lbyte r.toNat x.toNat) := lmix_byte _ _ hx
      have hx' : (x.toNat : Int) < 256 := by omega
      clear hx
      generalize lbyte r.toNat x.toNat = t at *
      go_wp2
      rw [HX.out]
      generalize r.toNat ^^^ x.toNat = y0 at *
      obtain ⟨y, HE, hy0, hy1⟩ : ∃ y : Int, Hid (y0 = y.toNat) ∧ 0 ≤ y ∧ y < 4294967296 := ⟨y0, rfl, by omega, by have := HY.out; omega⟩
      have e : y0 = y.toNat := HE.out
      subst e
      rw [Int.toNat_of_nonneg hy0]
      clear hx' HX
      go_loop [0, 17] (fun s' i => ∃ (j : Nat) (q : Int), j ≤ 8 ∧ i = .int .i64 j ∧ s' = .int .u32 q ∧ 0 ≤ q ∧ q < 4294967296 ∧ MixesTo j q.toNat t) (fun _ i => 8 - (intOf i).toNat)
      case atStart => exact ⟨0, y, by omega, rfl, rfl, hy0, hy1, HM⟩
      case round =>
        obtain ⟨j, q, hj, rfl, rfl, hq0, hq, hQ⟩ := hrel
        by_cases hj8 : j < 8
        · go_wp2
          obtain ⟨q, rfl⟩ := Int.eq_ofNat_of_zero_le hq0
          rw [lmix_walk q (by omega)]
          go_round
          case rel =>
            have hl2 := lmix_lt q (by omega)
            rw [Int.toNat_natCast] at hQ
            exact ⟨j + 1, (lmix q : Nat), by omega, by go_num, rfl, by omega, by omega, by rw [Int.toNat_natCast]; exact hQ.next hj8⟩
          case measure => simp [intOf]; omega
        · go_wp2
          go_round
          case rel =>
            exact ⟨k + 1, q, by omega, by go_num, rfl, hq0, hq, (hQ.done hj8).trans HS.out.symm⟩
          case measure => simp [intOf]; omega
    · go_wp2
      go_ret
      have := hR.out
      rw [List.take_of_length_le (by rw [HL.out]; omega)] at this
      rw [← this, Int.toNat_of_nonneg hr0]
      exact ⟨rfl, rfl⟩

end Go.Proofs.Ytkgccoghdalniaa
