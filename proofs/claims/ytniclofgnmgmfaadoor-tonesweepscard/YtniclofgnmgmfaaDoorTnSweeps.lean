/- ToneSweeps' walk. No law is claimed here. -/
import Derived.Test.YtniclofgnmgmfaaDoorTn13
namespace Go.Proofs.YtniclofgnmgmfaaDoor
open Go.RowKit

/-- a swept pulse that is heard, behind n counts -/
structure SWI (T K n : Int) (s : TS) : Prop where
  kind : s.kind = K
  ctl : s.ctl = 191
  len : 0 < s.len
  sreg : s.sreg = 8
  per : s.per = T
  tim : 0 ≤ s.tim ∧ s.tim ≤ T
  stp : 1 ≤ s.stp ∧ s.stp ≤ 5
  cnt : n + s.tim + 1 = s.stp * (T + 1)
  fin : s.stp = 5 → s.tim = T
theorem SWI.outs {T K n : Int} {s : TS} (h : SWI T K n s) (hT : 8 ≤ T) (hK : 0 ≤ K ∧ K < 2) : (s.stp ≤ 4 → outT s = 15) ∧ (s.stp = 5 → outT s = 0) := by
  obtain ⟨h1, h2, h3, h4, h5, h6, h7, h8, h9⟩ := h
  have ht : targT s = 0 := by
    unfold targT
    rw [h4, h5, if_neg (by decide)]
    have : T / 2 ^ ((8 : Int) % 8).toNat = T := by simp
    rw [this]
    split <;> omega
  have hm : mutT s = false := by unfold mutT; rw [ht, h5]; simp; omega
  have hv : volT s = 15 := by unfold volT; rw [h2, if_pos (by decide)]; decide
  have ho : outT s = if at0 dutL (s.ctl / 64 * 8 + s.stp) = 0 ∨ s.len ≤ 0 ∨ mutT s = true then 0 else volT s := by
    unfold outT; rw [if_neg (by omega), if_neg (by omega)]
  rw [ho, hv, hm, h2]
  constructor
  · intro h
    rw [if_neg]
    rcases (by omega : s.stp = 1 ∨ s.stp = 2 ∨ s.stp = 3 ∨ s.stp = 4) with e | e | e | e <;> rw [e] <;> (rintro (k | k | k) <;> first | (revert k; decide) | omega)
  · intro h
    rw [if_pos]
    left; rw [h]; decide
theorem SWI.next {T K n : Int} {s : TS} (h : SWI T K n s) (hK : 0 ≤ K ∧ K < 2) (h4 : s.stp ≤ 4) : SWI T K (n + 1) (clockT s) := by
  obtain ⟨h1, h2, h3, h4', h5, h6, h7, h8, h9⟩ := h
  by_cases t0 : 0 < s.tim
  · have e : clockT s = { s with tim := s.tim - 1 } := by unfold clockT; rw [if_pos t0]
    rw [e]
    exact ⟨h1, h2, h3, h4', h5, by simp only; omega, h7, by simp only; omega, fun k => by simp only at k; omega⟩
  · have e : clockT s = { s with tim := s.per, stp := (s.stp + 1) % 8 } := by
      unfold clockT advT; rw [if_neg t0]; simp only; rw [if_neg (by omega), if_neg (by omega)]
    rw [e]
    have e2 : (s.stp + 1) % 8 = s.stp + 1 := by omega
    refine ⟨h1, h2, h3, h4', h5, by simp only; omega, by simp only; omega, ?_, fun _ => h5⟩
    simp only [e2]
    rw [Int.add_mul, Int.one_mul]
    omega

def swS (K r lo hi : Int) : TS := clockT (putT (halfT (putT (putT (putT (putT (enT (newT K) true) 0 191) 1 r) 2 lo) 3 hi)) 1 8)
/-- the pulse ahead of its sweep -/
def swM (K r p : Int) : TS := ⟨K, true, 191, 10, 0, p, 0, 0, 0, true, r, 0, true, 0, false, if K = 3 then 1 else 0, false⟩
/-- where the sweep leads -/
def swT (K p c : Int) (down : Bool) : Int := if down then p - (c + if K = 0 then 1 else 0) else p + c
theorem swS_is (K r p by_ c : Int) (down : Bool) (hK : 0 ≤ K ∧ K < 2) (hp : 64 ≤ p ∧ p < 964) (hb : 1 ≤ by_ ∧ by_ < 7) (hr : r = 128 + by_ + if down then 8 else 0)
    (hc : p / 2 ^ by_.toNat = c) (hc2 : 0 ≤ c ∧ 2 * c ≤ p) : SWI (swT K p c down) K 0 (swS K r (p % 256) (p / 256)) := by
  have hT : 8 ≤ swT K p c down ∧ swT K p c down ≤ 2047 := by unfold swT; cases down <;> (repeat' split) <;> omega
  have r8 : r % 8 = by_ := by rw [hr]; cases down <;> simp <;> omega
  have rb : 128 ≤ r ∧ r < 144 := by rw [hr]; cases down <;> simp <;> omega
  have e1 : putT (putT (putT (putT (enT (newT K) true) 0 191) 1 r) 2 (p % 256)) 3 (p / 256) = swM K r p := by
    unfold enT putT put2 put3 newT swM
    simp only [if_true, if_false, show ¬ ((1 : Int) = 0) by decide, show ¬ ((2 : Int) = 0) by decide, show ¬ ((2 : Int) = 1) by decide, show ¬ ((3 : Int) = 0) by decide, show ¬ ((3 : Int) = 1) by decide, show ¬ ((3 : Int) = 2) by decide,
      show ¬ (K = 3) by omega, show ¬ (K = 2) by omega]
    have : p / 256 / 8 = 0 := by omega
    rw [this]
    apply ts_ext <;> first | rfl | (simp only; omega)
  have hl : lenT (swM K r p) = swM K r p := by
    unfold lenT
    rw [if_neg]
    have : haltT (swM K r p) = true := by
      unfold haltT; rw [if_neg (show ¬ (swM K r p).kind = 2 from fun k => by have k' : K = 2 := k; omega)]; rfl
    rw [this]; simp
  have ht : targT (swM K r p) = swT K p c down := by
    have k1 : (swM K r p).sreg = r := rfl
    have k2 : (swM K r p).per = p := rfl
    have k3 : (swM K r p).kind = K := rfl
    unfold targT swT
    rw [k1, k2, k3, r8, hc]
    cases down
    · rw [if_pos (by simp at hr; omega), if_neg (by decide)]
    · rw [if_neg (by simp at hr; omega), if_pos rfl]; split <;> omega
  have hdue : dueT (swM K r p) = true := by
    have d1 : (decide (128 ≤ r)) = true := by simp; omega
    have d2 : (decide (r % 8 ≠ 0)) = true := by rw [r8]; simp; omega
    show (decide ((0 : Int) = 0) && decide (128 ≤ r) && decide (r % 8 ≠ 0)) = true
    rw [d1, d2]; rfl
  have hmut : mutT (swM K r p) = false := by
    have d3 : (decide (p < 8)) = false := by simp; omega
    have d4 : (decide (2047 < swT K p c down)) = false := by simp; omega
    unfold mutT
    rw [ht, d4, show (swM K r p).per = p from rfl, d3]; rfl
  have e2 : halfT (swM K r p) = { swM K r (swT K p c down) with swr := false } := by
    unfold halfT
    rw [hl, if_pos (show (swM K r p).kind < 2 from hK.2)]
    unfold sweepT
    rw [hdue, hmut, ht]
    have : r / 16 % 8 = 0 := by omega
    apply ts_ext <;> first | rfl | (show (if (0 : Int) = 0 ∨ true = true then r / 16 % 8 else 0 - 1) = 0; rw [if_pos (.inl rfl)]; exact this)
  have e3 : clockT (putT { swM K r (swT K p c down) with swr := false } 1 8) = { swM K 8 (swT K p c down) with stp := 1, tim := swT K p c down } := by
    unfold putT clockT advT swM
    simp only [if_true, if_false, show ¬ ((1 : Int) = 0) by decide, show ¬ ((0 : Int) < 0) by decide, show ¬ (K = 3) by omega, show ¬ (K = 2) by omega]
    rfl
  unfold swS
  rw [e1, e2, e3]
  exact ⟨rfl, rfl, by show (0 : Int) < 10; decide, rfl, rfl, ⟨by show 0 ≤ swT K p c down; omega, Int.le_refl _⟩, by show (1 : Int) ≤ 1 ∧ (1 : Int) ≤ 5; decide, by show 0 + swT K p c down + 1 = 1 * (swT K p c down + 1); omega, fun k => by simp only at k; omega⟩

end Go.Proofs.YtniclofgnmgmfaaDoor
