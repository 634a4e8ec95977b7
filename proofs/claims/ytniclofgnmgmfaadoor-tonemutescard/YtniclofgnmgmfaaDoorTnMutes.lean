/- A pulse that is heard or not: counts. No law is claimed here. -/
import Derived.Test.YtniclofgnmgmfaaDoorTn13
namespace Go.Proofs.YtniclofgnmgmfaaDoor
open Go.RowKit

/-- a pulse behind k clocks of its step j -/
structure MI (K X sw p : Int) (j : Nat) (k : Int) (s : TS) : Prop where
  kind : s.kind = K
  ctl : s.ctl = X
  len : 0 < s.len
  sreg : s.sreg = sw
  per : s.per = p
  at_ : (k = 0 ∧ s.stp = (j : Int) % 8 ∧ s.tim = 0) ∨ (1 ≤ k ∧ k ≤ p + 1 ∧ s.stp = ((j : Int) + 1) % 8 ∧ s.tim = p + 1 - k)
theorem MI.next {K X sw p k : Int} {j : Nat} {s : TS} (h : MI K X sw p j k s) (hK : 0 ≤ K ∧ K < 2) (hk : k < p + 1) (_hp : 0 ≤ p) : MI K X sw p j (k + 1) (clockT s) := by
  obtain ⟨h1, h2, h3, h4, h5, h6⟩ := h
  by_cases t0 : 0 < s.tim
  · have e : clockT s = { s with tim := s.tim - 1 } := by unfold clockT; rw [if_pos t0]
    rw [e]
    refine ⟨h1, h2, h3, h4, h5, .inr ?_⟩
    rcases h6 with ⟨a, b, c⟩ | ⟨a, b, c, d⟩
    · omega
    · exact ⟨by omega, by omega, c, by simp only; omega⟩
  · have e : clockT s = { s with tim := s.per, stp := (s.stp + 1) % 8 } := by
      unfold clockT advT; rw [if_neg t0]; simp only; rw [if_neg (by omega), if_neg (by omega)]
    rw [e]
    refine ⟨h1, h2, h3, h4, h5, .inr ?_⟩
    rcases h6 with ⟨a, b, c⟩ | ⟨a, b, c, d⟩
    · exact ⟨by omega, by omega, by simp only; omega, by simp only; omega⟩
    · omega
theorem MI.roll {K X sw p : Int} {j : Nat} {s : TS} (h : MI K X sw p j (p + 1) s) (hp : 0 ≤ p) : MI K X sw p (j + 1) 0 s := by
  obtain ⟨h1, h2, h3, h4, h5, h6⟩ := h
  refine ⟨h1, h2, h3, h4, h5, .inl ?_⟩
  rcases h6 with ⟨a, b, c⟩ | ⟨a, b, c, d⟩
  · omega
  · exact ⟨rfl, by push_cast; exact c, by omega⟩

/-- where the law thinks that the sweep leads; what is muted -/
def tgtM (sw p : Int) : Int := if sw / 8 % 2 = 0 then p + p / 2 ^ (sw % 8).toNat else 0
def mutM (sw p : Int) : Bool := decide (p < 8) || decide (2047 < tgtM sw p)
theorem MI.mut {K X sw p k : Int} {j : Nat} {s : TS} (h : MI K X sw p j k s) (hp : 0 ≤ p ∧ p < 2048) : mutT s = mutM sw p := by
  obtain ⟨h1, h2, h3, h4, h5, h6⟩ := h
  have hc : 0 ≤ p / 2 ^ (sw % 8).toNat := Int.ediv_nonneg hp.1 (Int.pow_nonneg (by decide))
  unfold mutT mutM
  rw [h5]
  congr 1
  unfold targT tgtM
  rw [h4, h5, h1]
  by_cases e : sw / 8 % 2 = 0
  · rw [if_pos e, if_pos e]
  · rw [if_neg e, if_neg e]
    generalize p / 2 ^ (sw % 8).toNat = c at *
    have : ¬ 2047 < p - min (c + if K = 0 then 1 else 0) p := by split <;> omega
    simp [this]

def lsum (a : Int) : Nat → Int
  | 0 => 0
  | j + 1 => lsum a j + at0 dutL (a * 8 + j)
theorem lsum_8 (a : Int) (h : 0 ≤ a ∧ a < 4) : (a = 0 → lsum a 8 = 1) ∧ (a = 1 → lsum a 8 = 2) ∧ (a = 2 → lsum a 8 = 4) ∧ (a = 3 → lsum a 8 = 6) := by
  rcases (by omega : a = 0 ∨ a = 1 ∨ a = 2 ∨ a = 3) with rfl | rfl | rfl | rfl <;> decide
theorem dut_01 (k : Int) (h : 0 ≤ k ∧ k < 32) : at0 dutL k = 0 ∨ at0 dutL k = 1 := by
  have q : ∀ n : Fin 32, at0 dutL (n.val : Int) = 0 ∨ at0 dutL (n.val : Int) = 1 := by decide
  have := q ⟨k.toNat, by omega⟩; rwa [show ((⟨k.toNat, by omega⟩ : Fin 32).val : Int) = k from Int.toNat_of_nonneg h.1] at this
/-- how often it was heard -/
def loudI (Z : Bool) (a : Int) (j : Nat) : Int := if Z then 0 else lsum a j
theorem MI.out {K a V sw p : Int} {j : Nat} {s : TS} (h : MI K (a * 64 + 48 + V) sw p j 0 s) (hK : 0 ≤ K ∧ K < 2) (ha : 0 ≤ a ∧ a < 4) (hV : 0 ≤ V ∧ V < 16) (hp : 0 ≤ p ∧ p < 2048) (hj : j < 8) :
    (outT s = 0 ∧ loudI (mutM sw p || decide (V = 0)) a (j + 1) = loudI (mutM sw p || decide (V = 0)) a j) ∨
    (outT s = V ∧ V ≠ 0 ∧ loudI (mutM sw p || decide (V = 0)) a (j + 1) = loudI (mutM sw p || decide (V = 0)) a j + 1) := by
  have hm := h.mut hp
  obtain ⟨h1, h2, h3, h4, h5, h6⟩ := h
  have hs : s.stp = j := by
    rcases h6 with ⟨_, b, _⟩ | ⟨b, _, _⟩
    · omega
    · omega
  have ho : outT s = if at0 dutL (s.ctl / 64 * 8 + s.stp) = 0 ∨ s.len ≤ 0 ∨ mutT s = true then 0 else volT s := by
    unfold outT; rw [if_neg (by omega), if_neg (by omega)]
  have hv : volT s = V := by
    unfold volT
    rw [h2, if_pos (by omega)]; omega
  have hc : s.ctl / 64 = a := by rw [h2]; omega
  rw [hv, hm, hc, hs] at ho
  rw [ho]
  have hd := dut_01 (a * 8 + j) (by omega)
  unfold loudI
  have hl : lsum a (j + 1) = lsum a j + at0 dutL (a * 8 + j) := rfl
  rw [hl]
  cases hM : mutM sw p
  · by_cases hV0 : V = 0
    · left
      simp only [hV0, Bool.false_or, decide_true, if_true]
      simp
    · have hz : (false || decide (V = 0)) = false := by simp [hV0]
      rw [hz]
      rcases hd with hd | hd
      · left; rw [hd]; simp
      · right
        rw [hd]
        refine ⟨?_, hV0, by simp⟩
        rw [if_neg]
        rintro (k | k | k) <;> first | (revert k; decide) | omega
  · left; simp

def mutS (K X sw lo hi : Int) : TS := putT (putT (putT (putT (enT (newT K) true) 0 X) 1 sw) 2 lo) 3 hi
theorem mutS_is (K X sw p : Int) (hK : 0 ≤ K ∧ K < 2) (hp : 0 ≤ p ∧ p < 2048) : MI K X sw p 0 0 (mutS K X sw (p % 256) (p / 256)) := by
  have e : mutS K X sw (p % 256) (p / 256) = ⟨K, true, X, 10, 0, p, 0, 0, 0, true, sw, 0, true, 0, false, if K = 3 then 1 else 0, false⟩ := by
    unfold mutS enT putT put2 put3 newT
    simp only [if_true, if_false, show ¬ ((1 : Int) = 0) by decide, show ¬ ((2 : Int) = 0) by decide, show ¬ ((2 : Int) = 1) by decide, show ¬ ((3 : Int) = 0) by decide, show ¬ ((3 : Int) = 1) by decide, show ¬ ((3 : Int) = 2) by decide,
      show ¬ (K = 3) by omega, show ¬ (K = 2) by omega]
    have : p / 256 / 8 = 0 := by omega
    rw [this]
    apply ts_ext <;> first | rfl | (simp only; omega)
  rw [e]
  exact ⟨rfl, rfl, by show (0 : Int) < 10; decide, rfl, rfl, .inl ⟨rfl, rfl, rfl⟩⟩
theorem orX (a V : Int) (ha : 0 ≤ a ∧ a < 4) (hV : 0 ≤ V ∧ V < 16) : bits .or .u8 (a * 64) 48 = a * 64 + 48 ∧ bits .or .u8 (a * 64 + 48) V = a * 64 + 48 + V := by
  have k : ∀ n : Fin 4, ∀ m : Fin 16, bits .or .u8 ((n.val : Int) * 64) 48 = (n.val : Int) * 64 + 48 ∧ bits .or .u8 ((n.val : Int) * 64 + 48) (m.val : Int) = (n.val : Int) * 64 + 48 + (m.val : Int) := by decide +kernel
  have := k ⟨a.toNat, by omega⟩ ⟨V.toNat, by omega⟩
  rwa [show ((⟨a.toNat, by omega⟩ : Fin 4).val : Int) = a from Int.toNat_of_nonneg ha.1, show ((⟨V.toNat, by omega⟩ : Fin 16).val : Int) = V from Int.toNat_of_nonneg hV.1] at this
theorem l3 (c : Int) (h : 0 ≤ c ∧ c < 256) : bits .and .u8 c 3 = c % 4 := by
  have k : ∀ n : Fin 256, bits .and .u8 (n.val : Int) 3 = (n.val : Int) % 4 := by decide +kernel
  have := k ⟨c.toNat, by omega⟩; rwa [show ((⟨c.toNat, by omega⟩ : Fin 256).val : Int) = c from Int.toNat_of_nonneg h.1] at this

end Go.Proofs.YtniclofgnmgmfaaDoor
