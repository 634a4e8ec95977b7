/- The noise's register: its rounds. No law is claimed here. -/
import Derived.Test.YtniclofgnmgmfaaDoorTn13
namespace Go.Proofs.YtniclofgnmgmfaaDoor
open Go.RowKit

def nxN (sh : Bool) (x : Nat) : Nat := x / 2 + (x % 2 + (if sh then x / 64 % 2 else x / 2 % 2)) % 2 * 16384
def itN (sh : Bool) : Nat → Nat → Nat
  | 0, x => x
  | n + 1, x => nxN sh (itN sh n x)
theorem itN_add (sh : Bool) (a : Nat) : ∀ (c x : Nat), itN sh (a + c) x = itN sh c (itN sh a x)
  | 0, _ => rfl
  | c + 1, x => congrArg (nxN sh) (itN_add sh a c x)
/-- so many steps, 0 if it came by 1 -/
def runN (n : Nat) : Nat → Nat := Nat.rec (motive := fun _ => Nat → Nat) (fun x => x) (fun _ ih x => cond (Nat.beq x 1) 0 (ih (nxN false x))) n
theorem runN_0 (n : Nat) : runN n 0 = 0 := by
  induction n with
  | zero => rfl
  | succ n ih => exact ih
theorem runN_is (n : Nat) : ∀ x, runN n x ≠ 0 → itN false n x = runN n x ∧ ∀ j, j < n → itN false j x ≠ 1 := by
  induction n with
  | zero => intro x _; exact ⟨rfl, fun j hj => by omega⟩
  | succ n ih =>
    intro x h
    have e : runN (n + 1) x = cond (Nat.beq x 1) 0 (runN n (nxN false x)) := rfl
    cases hb : Nat.beq x 1 with
    | true => rw [e, hb] at h; exact absurd rfl h
    | false =>
      rw [e, hb] at h ⊢
      obtain ⟨h1, h2⟩ := ih (nxN false x) h
      have hs : ∀ m, itN false (m + 1) x = itN false m (nxN false x) := fun m => by rw [Nat.add_comm]; exact itN_add false 1 m x
      refine ⟨(hs n).trans h1, fun j hj => ?_⟩
      cases j with
      | zero => intro k; have : x = 1 := k; rw [this] at hb; exact absurd hb (by decide)
      | succ j => rw [hs]; exact h2 j (by omega)
/-- a piece of the round -/
theorem run_on {n x y N : Nat} (h : runN n x = y) (hy : y ≠ 0) (hx : itN false N (nxN false 1) = x) (hp : ∀ j, j < N → itN false j (nxN false 1) ≠ 1) :
    itN false (N + n) (nxN false 1) = y ∧ ∀ j, j < N + n → itN false j (nxN false 1) ≠ 1 := by
  obtain ⟨h1, h2⟩ := runN_is n x (by rw [h]; exact hy)
  refine ⟨by rw [itN_add, hx, h1, h], fun j hj => ?_⟩
  by_cases hj2 : j < N
  · exact hp j hj2
  · obtain ⟨i, rfl⟩ : ∃ i, j = N + i := ⟨j - N, by omega⟩
    rw [itN_add, hx]
    exact h2 i (by omega)
theorem run_0 : runN 1000 16384 = 32533 := by decide +kernel
theorem run_1 : runN 1000 32533 = 22119 := by decide +kernel
theorem run_2 : runN 1000 22119 = 4211 := by decide +kernel
theorem run_3 : runN 1000 4211 = 30831 := by decide +kernel
theorem run_4 : runN 1000 30831 = 6637 := by decide +kernel
theorem run_5 : runN 1000 6637 = 15119 := by decide +kernel
theorem run_6 : runN 1000 15119 = 20220 := by decide +kernel
theorem run_7 : runN 1000 20220 = 27135 := by decide +kernel
theorem run_8 : runN 1000 27135 = 21973 := by decide +kernel
theorem run_9 : runN 1000 21973 = 31222 := by decide +kernel
theorem run_10 : runN 1000 31222 = 24005 := by decide +kernel
theorem run_11 : runN 1000 24005 = 5611 := by decide +kernel
theorem run_12 : runN 1000 5611 = 15772 := by decide +kernel
theorem run_13 : runN 1000 15772 = 16033 := by decide +kernel
theorem run_14 : runN 1000 16033 = 14735 := by decide +kernel
theorem run_15 : runN 1000 14735 = 12026 := by decide +kernel
theorem run_16 : runN 1000 12026 = 28640 := by decide +kernel
theorem run_17 : runN 1000 28640 = 14198 := by decide +kernel
theorem run_18 : runN 1000 14198 = 17093 := by decide +kernel
theorem run_19 : runN 1000 17093 = 10809 := by decide +kernel
theorem run_20 : runN 1000 10809 = 15429 := by decide +kernel
theorem run_21 : runN 1000 15429 = 13686 := by decide +kernel
theorem run_22 : runN 1000 13686 = 15677 := by decide +kernel
theorem run_23 : runN 1000 15677 = 30858 := by decide +kernel
theorem run_24 : runN 1000 30858 = 5318 := by decide +kernel
theorem run_25 : runN 1000 5318 = 22197 := by decide +kernel
theorem run_26 : runN 1000 22197 = 20978 := by decide +kernel
theorem run_27 : runN 1000 20978 = 22866 := by decide +kernel
theorem run_28 : runN 1000 22866 = 7857 := by decide +kernel
theorem run_29 : runN 1000 7857 = 22010 := by decide +kernel
theorem run_30 : runN 1000 22010 = 12124 := by decide +kernel
theorem run_31 : runN 1000 12124 = 28317 := by decide +kernel
theorem run_32 : runN 766 28317 = 1 := by decide +kernel
theorem pos_0 : itN false 0 (nxN false 1) = 16384 ∧ ∀ j, j < 0 → itN false j (nxN false 1) ≠ 1 := ⟨rfl, fun j hj => by omega⟩
theorem pos_1 : itN false 1000 (nxN false 1) = 32533 ∧ ∀ j, j < 1000 → itN false j (nxN false 1) ≠ 1 := run_on (n := 1000) (N := 0) run_0 (by decide) pos_0.1 pos_0.2
theorem pos_2 : itN false 2000 (nxN false 1) = 22119 ∧ ∀ j, j < 2000 → itN false j (nxN false 1) ≠ 1 := run_on (n := 1000) (N := 1000) run_1 (by decide) pos_1.1 pos_1.2
theorem pos_3 : itN false 3000 (nxN false 1) = 4211 ∧ ∀ j, j < 3000 → itN false j (nxN false 1) ≠ 1 := run_on (n := 1000) (N := 2000) run_2 (by decide) pos_2.1 pos_2.2
theorem pos_4 : itN false 4000 (nxN false 1) = 30831 ∧ ∀ j, j < 4000 → itN false j (nxN false 1) ≠ 1 := run_on (n := 1000) (N := 3000) run_3 (by decide) pos_3.1 pos_3.2
theorem pos_5 : itN false 5000 (nxN false 1) = 6637 ∧ ∀ j, j < 5000 → itN false j (nxN false 1) ≠ 1 := run_on (n := 1000) (N := 4000) run_4 (by decide) pos_4.1 pos_4.2
theorem pos_6 : itN false 6000 (nxN false 1) = 15119 ∧ ∀ j, j < 6000 → itN false j (nxN false 1) ≠ 1 := run_on (n := 1000) (N := 5000) run_5 (by decide) pos_5.1 pos_5.2
theorem pos_7 : itN false 7000 (nxN false 1) = 20220 ∧ ∀ j, j < 7000 → itN false j (nxN false 1) ≠ 1 := run_on (n := 1000) (N := 6000) run_6 (by decide) pos_6.1 pos_6.2
theorem pos_8 : itN false 8000 (nxN false 1) = 27135 ∧ ∀ j, j < 8000 → itN false j (nxN false 1) ≠ 1 := run_on (n := 1000) (N := 7000) run_7 (by decide) pos_7.1 pos_7.2
theorem pos_9 : itN false 9000 (nxN false 1) = 21973 ∧ ∀ j, j < 9000 → itN false j (nxN false 1) ≠ 1 := run_on (n := 1000) (N := 8000) run_8 (by decide) pos_8.1 pos_8.2
theorem pos_10 : itN false 10000 (nxN false 1) = 31222 ∧ ∀ j, j < 10000 → itN false j (nxN false 1) ≠ 1 := run_on (n := 1000) (N := 9000) run_9 (by decide) pos_9.1 pos_9.2
theorem pos_11 : itN false 11000 (nxN false 1) = 24005 ∧ ∀ j, j < 11000 → itN false j (nxN false 1) ≠ 1 := run_on (n := 1000) (N := 10000) run_10 (by decide) pos_10.1 pos_10.2
theorem pos_12 : itN false 12000 (nxN false 1) = 5611 ∧ ∀ j, j < 12000 → itN false j (nxN false 1) ≠ 1 := run_on (n := 1000) (N := 11000) run_11 (by decide) pos_11.1 pos_11.2
theorem pos_13 : itN false 13000 (nxN false 1) = 15772 ∧ ∀ j, j < 13000 → itN false j (nxN false 1) ≠ 1 := run_on (n := 1000) (N := 12000) run_12 (by decide) pos_12.1 pos_12.2
theorem pos_14 : itN false 14000 (nxN false 1) = 16033 ∧ ∀ j, j < 14000 → itN false j (nxN false 1) ≠ 1 := run_on (n := 1000) (N := 13000) run_13 (by decide) pos_13.1 pos_13.2
theorem pos_15 : itN false 15000 (nxN false 1) = 14735 ∧ ∀ j, j < 15000 → itN false j (nxN false 1) ≠ 1 := run_on (n := 1000) (N := 14000) run_14 (by decide) pos_14.1 pos_14.2
theorem pos_16 : itN false 16000 (nxN false 1) = 12026 ∧ ∀ j, j < 16000 → itN false j (nxN false 1) ≠ 1 := run_on (n := 1000) (N := 15000) run_15 (by decide) pos_15.1 pos_15.2
theorem pos_17 : itN false 17000 (nxN false 1) = 28640 ∧ ∀ j, j < 17000 → itN false j (nxN false 1) ≠ 1 := run_on (n := 1000) (N := 16000) run_16 (by decide) pos_16.1 pos_16.2
theorem pos_18 : itN false 18000 (nxN false 1) = 14198 ∧ ∀ j, j < 18000 → itN false j (nxN false 1) ≠ 1 := run_on (n := 1000) (N := 17000) run_17 (by decide) pos_17.1 pos_17.2
theorem pos_19 : itN false 19000 (nxN false 1) = 17093 ∧ ∀ j, j < 19000 → itN false j (nxN false 1) ≠ 1 := run_on (n := 1000) (N := 18000) run_18 (by decide) pos_18.1 pos_18.2
theorem pos_20 : itN false 20000 (nxN false 1) = 10809 ∧ ∀ j, j < 20000 → itN false j (nxN false 1) ≠ 1 := run_on (n := 1000) (N := 19000) run_19 (by decide) pos_19.1 pos_19.2
theorem pos_21 : itN false 21000 (nxN false 1) = 15429 ∧ ∀ j, j < 21000 → itN false j (nxN false 1) ≠ 1 := run_on (n := 1000) (N := 20000) run_20 (by decide) pos_20.1 pos_20.2
theorem pos_22 : itN false 22000 (nxN false 1) = 13686 ∧ ∀ j, j < 22000 → itN false j (nxN false 1) ≠ 1 := run_on (n := 1000) (N := 21000) run_21 (by decide) pos_21.1 pos_21.2
theorem pos_23 : itN false 23000 (nxN false 1) = 15677 ∧ ∀ j, j < 23000 → itN false j (nxN false 1) ≠ 1 := run_on (n := 1000) (N := 22000) run_22 (by decide) pos_22.1 pos_22.2
theorem pos_24 : itN false 24000 (nxN false 1) = 30858 ∧ ∀ j, j < 24000 → itN false j (nxN false 1) ≠ 1 := run_on (n := 1000) (N := 23000) run_23 (by decide) pos_23.1 pos_23.2
theorem pos_25 : itN false 25000 (nxN false 1) = 5318 ∧ ∀ j, j < 25000 → itN false j (nxN false 1) ≠ 1 := run_on (n := 1000) (N := 24000) run_24 (by decide) pos_24.1 pos_24.2
theorem pos_26 : itN false 26000 (nxN false 1) = 22197 ∧ ∀ j, j < 26000 → itN false j (nxN false 1) ≠ 1 := run_on (n := 1000) (N := 25000) run_25 (by decide) pos_25.1 pos_25.2
theorem pos_27 : itN false 27000 (nxN false 1) = 20978 ∧ ∀ j, j < 27000 → itN false j (nxN false 1) ≠ 1 := run_on (n := 1000) (N := 26000) run_26 (by decide) pos_26.1 pos_26.2
theorem pos_28 : itN false 28000 (nxN false 1) = 22866 ∧ ∀ j, j < 28000 → itN false j (nxN false 1) ≠ 1 := run_on (n := 1000) (N := 27000) run_27 (by decide) pos_27.1 pos_27.2
theorem pos_29 : itN false 29000 (nxN false 1) = 7857 ∧ ∀ j, j < 29000 → itN false j (nxN false 1) ≠ 1 := run_on (n := 1000) (N := 28000) run_28 (by decide) pos_28.1 pos_28.2
theorem pos_30 : itN false 30000 (nxN false 1) = 22010 ∧ ∀ j, j < 30000 → itN false j (nxN false 1) ≠ 1 := run_on (n := 1000) (N := 29000) run_29 (by decide) pos_29.1 pos_29.2
theorem pos_31 : itN false 31000 (nxN false 1) = 12124 ∧ ∀ j, j < 31000 → itN false j (nxN false 1) ≠ 1 := run_on (n := 1000) (N := 30000) run_30 (by decide) pos_30.1 pos_30.2
theorem pos_32 : itN false 32000 (nxN false 1) = 28317 ∧ ∀ j, j < 32000 → itN false j (nxN false 1) ≠ 1 := run_on (n := 1000) (N := 31000) run_31 (by decide) pos_31.1 pos_31.2
theorem pos_33 : itN false 32766 (nxN false 1) = 1 ∧ ∀ j, j < 32766 → itN false j (nxN false 1) ≠ 1 := run_on (n := 766) (N := 32000) run_32 (by decide) pos_32.1 pos_32.2
/-- the whole round, and no less -/
theorem round_long : itN false 32767 1 = 1 ∧ ∀ j, 0 < j → j < 32767 → itN false j 1 ≠ 1 := by
  have hs : ∀ m, itN false (m + 1) 1 = itN false m (nxN false 1) := fun m => by rw [Nat.add_comm]; exact itN_add false 1 m 1
  refine ⟨(hs 32766).trans pos_33.1, fun j h0 hj => ?_⟩
  obtain ⟨i, rfl⟩ : ∃ i, j = i + 1 := ⟨j - 1, by omega⟩
  rw [hs]
  exact pos_33.2 i (by omega)
theorem round_short : itN true 93 1 = 1 := by decide +kernel

end Go.Proofs.YtniclofgnmgmfaaDoor
