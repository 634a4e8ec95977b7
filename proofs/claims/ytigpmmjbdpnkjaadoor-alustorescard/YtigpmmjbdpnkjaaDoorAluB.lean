/- Sums (walk). No law is claimed here. -/
import Derived.Test.YtigpmmjbdpnkjaaDoorAluA
namespace Go.Proofs.YtigpmmjbdpnkjaaDoor
open Go.RowKit

theorem adcA (u : Un) (m : Int) : (adcU u m).a = (u.a + m + bits .and .u8 u.p 1) % 256 := rfl
theorem adcX (u : Un) (m : Int) : (adcU u m).x = u.x := rfl
theorem adcY (u : Un) (m : Int) : (adcU u m).y = u.y := rfl
theorem adcS (u : Un) (m : Int) : (adcU u m).s = u.s := rfl
theorem adcC (u : Un) (m : Int) : bits .and .u8 (adcU u m).p 1 = if 255 < u.a + m + bits .and .u8 u.p 1 then 1 else 0 := by
  show bits .and .u8 (fl (fl (fl (fl u.p 1 _) 64 _) 128 _) 2 _) 1 = _
  rw [fl_and_other _ _ _ _ rfl, fl_and_other _ _ _ _ rfl, fl_and_other _ _ _ _ rfl, fl_and _ _ _ (by omega)]
  simp only [decide_eq_true_eq]
theorem adcO (u : Un) (m : Int) : bits .and .u8 (adcU u m).p 64 = if (bits .and .u8 u.a 128 == bits .and .u8 m 128) && (bits .and .u8 u.a 128 != bits .and .u8 ((u.a + m + bits .and .u8 u.p 1) % 256) 128) then 64 else 0 := by
  show bits .and .u8 (fl (fl (fl (fl u.p 1 _) 64 _) 128 _) 2 _) 64 = _
  rw [fl_and_other _ _ _ _ rfl, fl_and_other _ _ _ _ rfl, fl_and _ _ _ (by omega)]
theorem and128 : ∀ n : Fin 256, bits .and .u8 (n.val : Int) 128 = if 128 ≤ n.val then 128 else 0 := by decide +kernel
theorem and1 : ∀ n : Fin 256, bits .and .u8 (n.val : Int) 1 = ((n.val % 2 : Nat) : Int) := by decide +kernel
theorem top_bit (n : Int) (h : 0 ≤ n ∧ n < 256) : bits .and .u8 n 128 = if 128 ≤ n then 128 else 0 := by
  obtain ⟨k, rfl⟩ : ∃ k : Nat, n = (k : Int) := ⟨n.toNat, by omega⟩
  rw [and128 ⟨k, by omega⟩]
  by_cases h : 128 ≤ k
  · rw [if_pos h, if_pos (by omega)]
  · rw [if_neg h, if_neg (by omega)]
theorem low_bit (n : Int) (h : 0 ≤ n ∧ n < 256) : bits .and .u8 n 1 = n % 2 := by
  obtain ⟨k, rfl⟩ : ∃ k : Nat, n = (k : Int) := ⟨n.toNat, by omega⟩
  rw [and1 ⟨k, by omega⟩]; show ((k % 2 : Nat) : Int) = _; omega
theorem i8_in (n : Int) (h : 0 ≤ n ∧ n < 256) : IntKind.i8.wrap n = if 128 ≤ n then n - 256 else n := by
  obtain ⟨k, rfl⟩ : ∃ k : Nat, n = (k : Int) := ⟨n.toNat, by omega⟩
  have : ∀ n : Fin 256, IntKind.i8.wrap (n.val : Int) = if 128 ≤ n.val then (n.val : Int) - 256 else n.val := by decide +kernel
  rw [this ⟨k, by omega⟩]
  by_cases h : 128 ≤ k
  · rw [if_pos h, if_pos (by omega)]
  · rw [if_neg h, if_neg (by omega)]

/-- the sum with signs is no byte just where the signs say so -/
theorem over_iff (a m c : Int) (ha : 0 ≤ a ∧ a < 256) (hm : 0 ≤ m ∧ m < 256) (hc : 0 ≤ c ∧ c < 2) :
    (((if (bits .and .u8 a 128 == bits .and .u8 m 128) && (bits .and .u8 a 128 != bits .and .u8 ((a + m + c) % 256) 128) then (64 : Int) else 0) != 0) ==
      (IntKind.i8.wrap a + IntKind.i8.wrap m + c != IntKind.i8.wrap ((a + m + c) % 256))) = true := by
  rw [top_bit a ha, top_bit m hm, top_bit ((a + m + c) % 256) (by omega), i8_in a ha, i8_in m hm, i8_in ((a + m + c) % 256) (by omega)]
  by_cases h1 : 128 ≤ a <;> by_cases h2 : 128 ≤ m <;> by_cases h3 : 128 ≤ (a + m + c) % 256 <;> simp [h1, h2, h3] <;> omega

end Go.Proofs.YtigpmmjbdpnkjaaDoor
