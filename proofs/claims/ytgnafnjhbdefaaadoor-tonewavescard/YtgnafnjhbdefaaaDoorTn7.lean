/- A tone's methods. No law is claimed here. -/
import Derived.Test.YtgnafnjhbdefaaaDoorTn6
import Derived.StillTailTactics
namespace Go.Proofs.YtgnafnjhbdefaaaDoor
open Go.RowKit

theorem tadv_any (w : World) (n : Nat) (s : TS) (h : n < w.heap.size) (ok : TOk s) :
    Calls Tryd.prog 40 #[.pointer (some ⟨n, 0, none⟩)] (stT w n s) fun e w' => e = .returned (.tuple #[]) ∧ w' = stT w n (advT s) := by
  by_cases k2 : s.kind = 2
  · exact tadv2 w n s h ok k2
  · by_cases k3 : s.kind = 3
    · exact tadv3 w n s h ok k3
    · exact tadv1 w n s h ok k2 k3
theorem tout_any (w : World) (n : Nat) (s : TS) (h : n < w.heap.size) (ok : TOk s) (hg : gl w) (h3n : 2 < n) :
    Calls Tryd.prog 29 #[.pointer (some ⟨n, 0, none⟩)] (stT w n s) fun e w' => e = .returned (.int .u8 (outT s)) ∧ ∃ q, w' = (stT w n s).drewN q := by
  by_cases k2 : s.kind = 2
  · exact tout2 w n s h ok k2
  · by_cases k3 : s.kind = 3
    · exact tout3 w n s h ok k3
    · exact tout1 w n s h ok k2 k3 hg h3n

set_option maxRecDepth 100000 in
set_option maxHeartbeats 1000000 in
theorem tclock_any (w : World) (n : Nat) (s : TS)  (h : n < w.heap.size) (ok : TOk s) :
    Calls Tryd.prog 22 #[.pointer (some ⟨n, 0, none⟩)] (stT w n s) fun e w' => e = .returned (.tuple #[]) ∧ w' = stT w n (clockT s) := by
  obtain ⟨c0, c1, c2, c3, c4, c5, c6, c7, c8, c9, c10, c11, c12, c13, c14, c15, c16, fz⟩ := stT_cf w n s h
  have o1 := ok.tim
  have ok' : TOk { s with tim := s.per } := ⟨ok.kind, ok.ctl, ok.len, ok.per, ok.per, ok.pulse, ok.stp, ok.st8, ok.lev, ok.div, ok.sreg, ok.sdiv, ok.lin, ok.bits⟩
  have F0 := tadv_any w n { s with tim := s.per } h ok'
  rw [← st4] at F0
  generalize hv : stT w n s = v at *
  rcases (by omega : s.tim = 0 ∨ 0 < s.tim) with h1 | h1
  all_goals
    go_enter Tryd.func22, Tryd.ntmps22
    go_wp2_with (go_at_call 40; refine F0.mono ?_; rintro e w' ⟨rfl, hw⟩)
    (first | refine bodyPost_end (results_none rfl _ _ _) rfl ?_ | refine bodyPost_ret (results_none rfl _ _ _) rfl ?_)
    refine ⟨rfl, ?_⟩
    subst hv
    (repeat (first | rw [st0] | rw [st1] | rw [st2] | rw [st3] | rw [st4] | rw [st5] | rw [st6] | rw [st7] | rw [st8] | rw [st9] | rw [st10] | rw [st11] | rw [st12] | rw [st13] | rw [st14] | rw [st15] | rw [st16]))
    all_goals first | exact congrArg (stT w n) (by unfold clockT; rw [if_pos h1]) | exact (congrArg (stT w n) (show advT { s with tim := s.per } = clockT s by unfold clockT; rw [if_neg (show ¬ 0 < s.tim by omega)]))

set_option maxRecDepth 100000 in
set_option maxHeartbeats 1000000 in
theorem tput2_3 (w : World) (n : Nat) (s : TS) (b : Int) (h : n < w.heap.size) (hg : gl w) (h3n : 2 < n) (hb : 0 ≤ b ∧ b < 256) :
    Calls Tryd.prog 31 #[.pointer (some ⟨n, 0, none⟩), .int .u8 b] (stT w n s) fun e w' => e = .returned (.tuple #[]) ∧ w' = stT w n (putN s b) := by
  obtain ⟨c0, c1, c2, c3, c4, c5, c6, c7, c8, c9, c10, c11, c12, c13, c14, c15, c16, fz⟩ := stT_cf w n s h
  have z1 := l15 b hb
  obtain ⟨i, hi⟩ := nat_of (b % 16) (by omega)
  have i1 : i < 16 := by omega
  have i3 : (i : Int) < 16 := by omega
  have hd : (stT w n s).cell? ⟨0, i, none⟩ = some (.int .u16 (at0 noiL (b % 16))) := by
    have := hg.noi i (by omega)
    unfold stT; rw [rowT_cellFar _ _ _ _ _ (by show 0 ≠ n; omega), this, hi]
  have z2 := noiL_pos (b % 16) (by omega)
  generalize hD : at0 noiL (b % 16) = D at *
  generalize hv : stT w n s = v at *
  rcases b128 b hb with ⟨h1, h2⟩ | ⟨h1, h2⟩
  all_goals
    go_enter Tryd.func31, Tryd.ntmps31
    go_wp2
    (first | refine bodyPost_end (results_none rfl _ _ _) rfl ?_ | refine bodyPost_ret (results_none rfl _ _ _) rfl ?_)
    refine ⟨rfl, ?_⟩
    subst hv
    (repeat (first | rw [st0] | rw [st1] | rw [st2] | rw [st3] | rw [st4] | rw [st5] | rw [st6] | rw [st7] | rw [st8] | rw [st9] | rw [st10] | rw [st11] | rw [st12] | rw [st13] | rw [st14] | rw [st15] | rw [st16]))
    all_goals exact congrArg (stT w n) (by apply ts_ext <;> first | rfl | (simp [putN, hD, h1]; done) | (simp [putN]; omega))

end Go.Proofs.YtgnafnjhbdefaaaDoor
