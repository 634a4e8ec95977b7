/- The document's numbers of layer 8: signs, sums, differences (kotatsuref08). No law is claimed here. -/
import Derived.Test.YtigpmmjbdpnkjaaDoorRU1
namespace Go.Proofs.YtigpmmjbdpnkjaaDoor
open Go.RowKit

theorem flU_u8 (u : Un) (f : Int) (b : Bool) : 0 ≤ (flU u f b).p ∧ (flU u f b).p < 256 := fl_u8 _ _ _
theorem sgU_u8 (u : Un) (m : Int) : 0 ≤ (sgU u m).p ∧ (sgU u m).p < 256 := flU_u8 _ _ _
/-- the flags that there are -/
def isF (f : Int) : Bool := f == 1 || f == 2 || f == 4 || f == 8 || f == 64 || f == 128
theorem num1 : ∀ (p : Fin 256) (b : Bool), (p.val : Int) + ((if b then 1 else 0) - (p.val : Int) / 1 % 2) * 1 = fl p.val 1 b := by decide +kernel
theorem num2 : ∀ (p : Fin 256) (b : Bool), (p.val : Int) + ((if b then 1 else 0) - (p.val : Int) / 2 % 2) * 2 = fl p.val 2 b := by decide +kernel
theorem num4 : ∀ (p : Fin 256) (b : Bool), (p.val : Int) + ((if b then 1 else 0) - (p.val : Int) / 4 % 2) * 4 = fl p.val 4 b := by decide +kernel
theorem num8 : ∀ (p : Fin 256) (b : Bool), (p.val : Int) + ((if b then 1 else 0) - (p.val : Int) / 8 % 2) * 8 = fl p.val 8 b := by decide +kernel
theorem num64 : ∀ (p : Fin 256) (b : Bool), (p.val : Int) + ((if b then 1 else 0) - (p.val : Int) / 64 % 2) * 64 = fl p.val 64 b := by decide +kernel
theorem num128 : ∀ (p : Fin 256) (b : Bool), (p.val : Int) + ((if b then 1 else 0) - (p.val : Int) / 128 % 2) * 128 = fl p.val 128 b := by decide +kernel
theorem fl_num (p f on : Int) (hp : 0 ≤ p) (hp2 : p < 256) (hf : isF f = true) (ho : 0 ≤ on) (ho2 : on ≤ 1) : p + (on - p / f % 2) * f = fl p f (on == 1) := by
  obtain ⟨k, rfl⟩ : ∃ k : Nat, p = (k : Int) := ⟨p.toNat, by omega⟩
  obtain ⟨b, rfl⟩ : ∃ b : Bool, on = if b then 1 else 0 := by
    by_cases h : on = 1
    · exact ⟨true, by rw [if_pos rfl]; exact h⟩
    · exact ⟨false, by rw [if_neg (by decide)]; omega⟩
  have hb : (((if b then 1 else 0 : Int)) == 1) = b := by cases b <;> rfl
  rw [hb]
  unfold isF at hf
  simp only [Bool.or_eq_true, beq_iff_eq] at hf
  rcases hf with ((((rfl | rfl) | rfl) | rfl) | rfl) | rfl
  · exact num1 ⟨k, by omega⟩ b
  · exact num2 ⟨k, by omega⟩ b
  · exact num4 ⟨k, by omega⟩ b
  · exact num8 ⟨k, by omega⟩ b
  · exact num64 ⟨k, by omega⟩ b
  · exact num128 ⟨k, by omega⟩ b
theorem yes0 (b : Bool) : 0 ≤ yesN b := by cases b <;> decide
theorem yes1 (b : Bool) : yesN b ≤ 1 := by cases b <;> decide
theorem yesB (b : Bool) : (yesN b == 1) = b := by cases b <;> rfl

theorem div128 (m : Int) (h : 0 ≤ m) (h2 : m < 256) : (m / 128 == 1) = decide (128 ≤ m) := by
  by_cases k : 128 ≤ m
  · rw [decide_eq_true k, beq_iff_eq]; omega
  · rw [decide_eq_false k, beq_eq_false_iff_ne]; omega

end Go.Proofs.YtigpmmjbdpnkjaaDoor
