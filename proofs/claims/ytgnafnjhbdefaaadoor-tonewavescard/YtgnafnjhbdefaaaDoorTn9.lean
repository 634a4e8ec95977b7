/- A tone's methods. No law is claimed here. -/
import Derived.Test.YtgnafnjhbdefaaaDoorTn8
import Derived.StillTailTactics
namespace Go.Proofs.YtgnafnjhbdefaaaDoor
open Go.RowKit

theorem TOk.targ0 {s : TS} (ok : TOk s) : 0 ≤ targT s := by
  have o1 := ok.per
  have : 0 ≤ s.per / 2 ^ (s.sreg % 8).toNat := Int.ediv_nonneg o1.1 (Int.pow_nonneg (by decide))
  unfold targT
  (repeat' split) <;> omega
theorem TOk.targ {s : TS} (ok : TOk s) (hp : s.kind ≠ 3) (hm : mutT s = false) : TOk { s with per := targT s } := by
  have h0 := ok.targ0
  have h1 : ¬ 2047 < targT s := by unfold mutT at hm; simp at hm; omega
  have h2 := hp
  exact ⟨ok.kind, ok.ctl, ok.len, ok.tim, ⟨h0, by show targT s < 4096; omega⟩, fun _ => by show targT s < 2048; omega, ok.stp, ok.st8, ok.lev, ok.div, ok.sreg, ok.sdiv, ok.lin, ok.bits⟩

set_option maxRecDepth 100000 in
set_option maxHeartbeats 1000000 in
theorem thalfSweep_any (w : World) (n : Nat) (s : TS)  (h : n < w.heap.size) (ok : TOk s) (hp : s.kind ≠ 3) :
    Calls Tryd.prog 42 #[.pointer (some ⟨n, 0, none⟩)] (stT w n s) fun e w' => e = .returned (.tuple #[]) ∧ ∃ q, w' = stT (w.drewN q) n (sweepT s) := by
  obtain ⟨c0, c1, c2, c3, c4, c5, c6, c7, c8, c9, c10, c11, c12, c13, c14, c15, c16, fz⟩ := stT_cf w n s h
  have FD := tdue_any w n s h ok
  have FM := tmuted_any w n s h ok hp
  have FT := fun q => ttarget_any (w.drewN q) n s h ok hp
  have FC := fun q => tcount_any (w.drewN q) n s h ok
  have FC0 := tcount_any w n s h ok
  have FC2 := fun (k : mutT s = false) q => tcount_any (w.drewN q) n { s with per := targT s } h (ok.targ hp k)
  simp only [← st5] at FC2
  simp only [← stT_drewN] at FT FC FC2
  generalize hv : stT w n s = v at *
  rcases Bool.eq_false_or_eq_true (dueT s) with h1 | h1 <;> rcases Bool.eq_false_or_eq_true (mutT s) with h2 | h2
  all_goals
    go_enter Tryd.func42, Tryd.ntmps42
    go_wp2_with (first | (go_at_call 51; refine FD.mono ?_; rintro e w' ⟨rfl, rfl⟩) | (go_at_call 52; refine FM.mono ?_; rintro e w' ⟨rfl, q1, rfl⟩) | (go_at_call 53; refine (FT _).mono ?_; rintro e w' ⟨rfl, q2, rfl⟩) | (go_at_call 54; refine (FC _).mono ?_; rintro e w' ⟨rfl, hw⟩) | (go_at_call 54; refine FC0.mono ?_; rintro e w' ⟨rfl, hw⟩) | (go_at_call 54; refine (FC2 (by assumption) _).mono ?_; rintro e w' ⟨rfl, hw⟩))
    (first | refine bodyPost_end (results_none rfl _ _ _) rfl ?_ | refine bodyPost_ret (results_none rfl _ _ _) rfl ?_)
    refine ⟨rfl, ?_⟩
    subst hv
    (repeat (first | rw [st0] | rw [st1] | rw [st2] | rw [st3] | rw [st4] | rw [st5] | rw [st6] | rw [st7] | rw [st8] | rw [st9] | rw [st10] | rw [st11] | rw [st12] | rw [st13] | rw [st14] | rw [st15] | rw [st16]))
    all_goals first | exact wr_of (by simp [sweepT, h1, h2]) _ | exact wr_of0 (by simp [sweepT, h1])

set_option maxRecDepth 100000 in
set_option maxHeartbeats 1000000 in
theorem thalf_any (w : World) (n : Nat) (s : TS)  (h : n < w.heap.size) (ok : TOk s) :
    Calls Tryd.prog 26 #[.pointer (some ⟨n, 0, none⟩)] (stT w n s) fun e w' => e = .returned (.tuple #[]) ∧ ∃ q, w' = stT (w.drewN q) n (halfT s) := by
  obtain ⟨c0, c1, c2, c3, c4, c5, c6, c7, c8, c9, c10, c11, c12, c13, c14, c15, c16, fz⟩ := stT_cf w n s h
  have o1 := ok.kind
  have o2 := ok.len
  have FH := thalted_any w n s h ok
  have FS := fun (k : s.kind ≠ 3) => thalfSweep_any w n s h ok k
  have FS2 := fun (k : 0 < s.len) (k2 : s.kind ≠ 3) => thalfSweep_any w n { s with len := s.len - 1 } h ⟨ok.kind, ok.ctl, ⟨by show 0 ≤ s.len - 1; omega, by show s.len - 1 < 256; omega⟩, ok.tim, ok.per, ok.pulse, ok.stp, ok.st8, ok.lev, ok.div, ok.sreg, ok.sdiv, ok.lin, ok.bits⟩ k2
  rw [← st3] at FS2
  generalize hv : stT w n s = v at *
  rcases (by omega : s.len = 0 ∨ 0 < s.len) with h1 | h1 <;> rcases Bool.eq_false_or_eq_true (haltT s) with h2 | h2 <;> rcases (by omega : s.kind = 0 ∨ s.kind = 1 ∨ s.kind = 2 ∨ s.kind = 3) with h3 | h3 | h3 | h3
  all_goals
    go_enter Tryd.func26, Tryd.ntmps26
    go_wp2_with (first | (go_at_call 41; refine FH.mono ?_; rintro e w' ⟨rfl, rfl⟩) | (go_at_call 42; refine (FS2 (by assumption) (by omega)).mono ?_; rintro e w' ⟨rfl, q1, hw⟩) | (go_at_call 42; refine (FS (by omega)).mono ?_; rintro e w' ⟨rfl, q1, hw⟩))
    (first | refine bodyPost_end (results_none rfl _ _ _) rfl ?_ | refine bodyPost_ret (results_none rfl _ _ _) rfl ?_)
    refine ⟨rfl, ?_⟩
    subst hv
    (repeat (first | rw [st0] | rw [st1] | rw [st2] | rw [st3] | rw [st4] | rw [st5] | rw [st6] | rw [st7] | rw [st8] | rw [st9] | rw [st10] | rw [st11] | rw [st12] | rw [st13] | rw [st14] | rw [st15] | rw [st16]))
    all_goals first | exact ⟨_, congrArg (stT _ n) (by simp [halfT, lenT, h1, h2, h3])⟩ | exact wr_of0 (by simp [halfT, lenT, h1, h2, h3])

end Go.Proofs.YtgnafnjhbdefaaaDoor
