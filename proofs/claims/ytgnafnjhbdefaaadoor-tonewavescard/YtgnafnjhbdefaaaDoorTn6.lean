/- A tone's methods. No law is claimed here. -/
import Derived.Test.YtgnafnjhbdefaaaDoorTn5
import Derived.StillTailTactics
namespace Go.Proofs.YtgnafnjhbdefaaaDoor
open Go.RowKit

set_option maxRecDepth 100000 in
set_option maxHeartbeats 1000000 in
theorem toutNoise_any (w : World) (n : Nat) (s : TS)  (h : n < w.heap.size) (ok : TOk s) (hk : s.kind = 3) :
    Calls Tryd.prog 44 #[.pointer (some ⟨n, 0, none⟩)] (stT w n s) fun e w' => e = .returned (.int .u8 (outT s)) ∧ w' = stT w n s := by
  obtain ⟨c0, c1, c2, c3, c4, c5, c6, c7, c8, c9, c10, c11, c12, c13, c14, c15, c16, fz⟩ := stT_cf w n s h
  have F0 := tlive_any w n s h
  have F1 := tvolume_any w n s h ok
  have o1 := ok.len
  have o2 := ok.bits
  have z1 := w1 s.bits ⟨o2.1, by omega⟩
  generalize hv : stT w n s = v at *
  rcases (by omega : s.len = 0 ∨ 0 < s.len) with h1 | h1 <;> rcases (by omega : s.bits % 2 = 0 ∨ s.bits % 2 = 1) with h2 | h2
  all_goals
    go_enter Tryd.func44, Tryd.ntmps44
    go_wp2_with (first | (go_at_call 25; refine F0.mono ?_; rintro e w' ⟨rfl, rfl⟩) | (go_at_call 55; refine F1.mono ?_; rintro e w' ⟨rfl, rfl⟩))
    go_ret
    refine ⟨?_, ?_⟩
    · first | (simp [outT, hk, h1, h2]; done) | (have h1x : ¬ s.len ≤ 0 := (by omega); simp [outT, hk, h1x, h2])
    · rfl

set_option maxRecDepth 100000 in
set_option maxHeartbeats 1000000 in
theorem tout2 (w : World) (n : Nat) (s : TS)  (h : n < w.heap.size) (ok : TOk s) (hk : s.kind = 2) :
    Calls Tryd.prog 29 #[.pointer (some ⟨n, 0, none⟩)] (stT w n s) fun e w' => e = .returned (.int .u8 (outT s)) ∧ ∃ q, w' = (stT w n s).drewN q := by
  obtain ⟨c0, c1, c2, c3, c4, c5, c6, c7, c8, c9, c10, c11, c12, c13, c14, c15, c16, fz⟩ := stT_cf w n s h
  have F0 := toutTri_any w n s h ok hk
  generalize hv : stT w n s = v at *
  go_enter Tryd.func29, Tryd.ntmps29
  go_wp2_with (go_at_call 43; refine F0.mono ?_; rintro e w' ⟨rfl, rfl⟩)
  all_goals
    go_ret
    refine ⟨?_, ?_⟩
    · rfl
    · (repeat (first | refine dr_n ?_ _ | refine dr_1 ?_)); exact dr_0 _

set_option maxRecDepth 100000 in
set_option maxHeartbeats 1000000 in
theorem tout3 (w : World) (n : Nat) (s : TS)  (h : n < w.heap.size) (ok : TOk s) (hk : s.kind = 3) :
    Calls Tryd.prog 29 #[.pointer (some ⟨n, 0, none⟩)] (stT w n s) fun e w' => e = .returned (.int .u8 (outT s)) ∧ ∃ q, w' = (stT w n s).drewN q := by
  obtain ⟨c0, c1, c2, c3, c4, c5, c6, c7, c8, c9, c10, c11, c12, c13, c14, c15, c16, fz⟩ := stT_cf w n s h
  have F0 := toutNoise_any w n s h ok hk
  generalize hv : stT w n s = v at *
  go_enter Tryd.func29, Tryd.ntmps29
  go_wp2_with (go_at_call 44; refine F0.mono ?_; rintro e w' ⟨rfl, rfl⟩)
  all_goals
    go_ret
    refine ⟨?_, ?_⟩
    · rfl
    · (repeat (first | refine dr_n ?_ _ | refine dr_1 ?_)); exact dr_0 _

set_option maxRecDepth 100000 in
set_option maxHeartbeats 1000000 in
theorem tout1 (w : World) (n : Nat) (s : TS)  (h : n < w.heap.size) (ok : TOk s) (hk : s.kind ≠ 2) (hp : s.kind ≠ 3) (hg : gl w) (h3n : 2 < n) :
    Calls Tryd.prog 29 #[.pointer (some ⟨n, 0, none⟩)] (stT w n s) fun e w' => e = .returned (.int .u8 (outT s)) ∧ ∃ q, w' = (stT w n s).drewN q := by
  obtain ⟨c0, c1, c2, c3, c4, c5, c6, c7, c8, c9, c10, c11, c12, c13, c14, c15, c16, fz⟩ := stT_cf w n s h
  have F0 := toutPulse_any w n s h ok hk hp hg h3n
  generalize hv : stT w n s = v at *
  go_enter Tryd.func29, Tryd.ntmps29
  go_wp2_with (go_at_call 45; refine F0.mono ?_; rintro e w' ⟨rfl, q, rfl⟩)
  all_goals
    go_ret
    refine ⟨?_, ?_⟩
    · rfl
    · (repeat (first | refine dr_n ?_ _ | refine dr_1 ?_)); exact dr_0 _

set_option maxRecDepth 100000 in
set_option maxHeartbeats 1000000 in
theorem tadvTri_any (w : World) (n : Nat) (s : TS)  (h : n < w.heap.size) (ok : TOk s) :
    Calls Tryd.prog 49 #[.pointer (some ⟨n, 0, none⟩)] (stT w n s) fun e w' => e = .returned (.tuple #[]) ∧ w' = stT w n { s with stp := triT s } := by
  obtain ⟨c0, c1, c2, c3, c4, c5, c6, c7, c8, c9, c10, c11, c12, c13, c14, c15, c16, fz⟩ := stT_cf w n s h
  have F0 := tlive_any w n s h
  have o1 := ok.len
  have o2 := ok.lin
  have o3 := ok.stp
  generalize hv : stT w n s = v at *
  rcases (by omega : s.len = 0 ∨ 0 < s.len) with h1 | h1 <;> rcases (by omega : s.lin = 0 ∨ 0 < s.lin) with h2 | h2
  all_goals
    go_enter Tryd.func49, Tryd.ntmps49
    go_wp2_with (go_at_call 25; refine F0.mono ?_; rintro e w' ⟨rfl, rfl⟩)
    (first | refine bodyPost_end (results_none rfl _ _ _) rfl ?_ | refine bodyPost_ret (results_none rfl _ _ _) rfl ?_)
    refine ⟨rfl, ?_⟩
    subst hv
    (repeat (first | rw [st0] | rw [st1] | rw [st2] | rw [st3] | rw [st4] | rw [st5] | rw [st6] | rw [st7] | rw [st8] | rw [st9] | rw [st10] | rw [st11] | rw [st12] | rw [st13] | rw [st14] | rw [st15] | rw [st16]))
    all_goals exact congrArg (stT w n) (by apply ts_ext <;> first | rfl | (simp [triT, h1, h2]; done) | (simp [triT, h1, h2]; omega))

set_option maxRecDepth 100000 in
set_option maxHeartbeats 1000000 in
theorem tadv2 (w : World) (n : Nat) (s : TS)  (h : n < w.heap.size) (ok : TOk s) (hk : s.kind = 2) :
    Calls Tryd.prog 40 #[.pointer (some ⟨n, 0, none⟩)] (stT w n s) fun e w' => e = .returned (.tuple #[]) ∧ w' = stT w n (advT s) := by
  obtain ⟨c0, c1, c2, c3, c4, c5, c6, c7, c8, c9, c10, c11, c12, c13, c14, c15, c16, fz⟩ := stT_cf w n s h
  have F0 := tadvTri_any w n s h ok
  generalize hv : stT w n s = v at *
  go_enter Tryd.func40, Tryd.ntmps40
  go_wp2_with (go_at_call 49; refine F0.mono ?_; rintro e w' ⟨rfl, rfl⟩)
  (first | refine bodyPost_end (results_none rfl _ _ _) rfl ?_ | refine bodyPost_ret (results_none rfl _ _ _) rfl ?_)
  refine ⟨rfl, ?_⟩
  subst hv
  (repeat (first | rw [st0] | rw [st1] | rw [st2] | rw [st3] | rw [st4] | rw [st5] | rw [st6] | rw [st7] | rw [st8] | rw [st9] | rw [st10] | rw [st11] | rw [st12] | rw [st13] | rw [st14] | rw [st15] | rw [st16]))
  exact congrArg (stT w n) (by unfold advT; rw [if_pos hk]; unfold triT; split <;> (apply ts_ext <;> first | rfl | exact hk.symm))

set_option maxRecDepth 100000 in
set_option maxHeartbeats 1000000 in
theorem tadv3 (w : World) (n : Nat) (s : TS)  (h : n < w.heap.size) (ok : TOk s) (hk : s.kind = 3) :
    Calls Tryd.prog 40 #[.pointer (some ⟨n, 0, none⟩)] (stT w n s) fun e w' => e = .returned (.tuple #[]) ∧ w' = stT w n (advT s) := by
  obtain ⟨c0, c1, c2, c3, c4, c5, c6, c7, c8, c9, c10, c11, c12, c13, c14, c15, c16, fz⟩ := stT_cf w n s h
  have F0 := tshadv_any w n s h ok
  generalize hv : stT w n s = v at *
  go_enter Tryd.func40, Tryd.ntmps40
  go_wp2_with (go_at_call 50; refine F0.mono ?_; rintro e w' ⟨rfl, rfl⟩)
  (first | refine bodyPost_end (results_none rfl _ _ _) rfl ?_ | refine bodyPost_ret (results_none rfl _ _ _) rfl ?_)
  refine ⟨rfl, ?_⟩
  subst hv
  (repeat (first | rw [st0] | rw [st1] | rw [st2] | rw [st3] | rw [st4] | rw [st5] | rw [st6] | rw [st7] | rw [st8] | rw [st9] | rw [st10] | rw [st11] | rw [st12] | rw [st13] | rw [st14] | rw [st15] | rw [st16]))
  all_goals exact congrArg (stT w n) (by apply ts_ext <;> first | rfl | (simp [advT, hk]; done) | (simp [advT, hk]; omega))

set_option maxRecDepth 100000 in
set_option maxHeartbeats 1000000 in
theorem tadv1 (w : World) (n : Nat) (s : TS)  (h : n < w.heap.size) (ok : TOk s) (hk : s.kind ≠ 2) (hp : s.kind ≠ 3) :
    Calls Tryd.prog 40 #[.pointer (some ⟨n, 0, none⟩)] (stT w n s) fun e w' => e = .returned (.tuple #[]) ∧ w' = stT w n (advT s) := by
  obtain ⟨c0, c1, c2, c3, c4, c5, c6, c7, c8, c9, c10, c11, c12, c13, c14, c15, c16, fz⟩ := stT_cf w n s h
  have o3 := ok.stp
  generalize hv : stT w n s = v at *
  go_enter Tryd.func40, Tryd.ntmps40
  go_wp2
  (first | refine bodyPost_end (results_none rfl _ _ _) rfl ?_ | refine bodyPost_ret (results_none rfl _ _ _) rfl ?_)
  refine ⟨rfl, ?_⟩
  subst hv
  (repeat (first | rw [st0] | rw [st1] | rw [st2] | rw [st3] | rw [st4] | rw [st5] | rw [st6] | rw [st7] | rw [st8] | rw [st9] | rw [st10] | rw [st11] | rw [st12] | rw [st13] | rw [st14] | rw [st15] | rw [st16]))
  all_goals exact congrArg (stT w n) (by apply ts_ext <;> first | rfl | (simp [advT, hk, hp]; done) | (simp [advT, hk, hp]; omega))

end Go.Proofs.YtgnafnjhbdefaaaDoor
