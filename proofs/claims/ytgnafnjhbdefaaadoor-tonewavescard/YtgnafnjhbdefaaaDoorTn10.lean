/- A tone's methods. No law is claimed here. -/
import Derived.Test.YtgnafnjhbdefaaaDoorTn9
import Derived.StillTailTactics
namespace Go.Proofs.YtgnafnjhbdefaaaDoor
open Go.RowKit

theorem tqua_any (w : World) (n : Nat) (s : TS) (h : n < w.heap.size) (ok : TOk s) :
    Calls Tryd.prog 20 #[.pointer (some ⟨n, 0, none⟩)] (stT w n s) fun e w' => e = .returned (.tuple #[]) ∧ ∃ q, w' = stT (w.drewN q) n (quaT s) := by
  by_cases k2 : s.kind = 2
  · exact tqua_2 w n s h ok k2
  · exact tqua_1 w n s h ok k2
theorem tputR2_any (w : World) (n : Nat) (s : TS) (b : Int) (h : n < w.heap.size) (ok : TOk s) (hg : gl w) (h3n : 2 < n) (hb : 0 ≤ b ∧ b < 256) :
    Calls Tryd.prog 36 #[.pointer (some ⟨n, 0, none⟩), .int .u8 b] (stT w n s) fun e w' => e = .returned (.tuple #[]) ∧ w' = stT w n (put2 s b) := by
  by_cases k3 : s.kind = 3
  · exact tputR2_3 w n s b h k3 hg h3n hb
  · exact tputR2_1 w n s b h k3 ok hb

set_option maxRecDepth 100000 in
set_option maxHeartbeats 1000000 in
theorem tput_0 (w : World) (n : Nat) (s : TS) (b : Int) (h : n < w.heap.size) :
    Calls Tryd.prog 18 #[.pointer (some ⟨n, 0, none⟩), .int .u8 0, .int .u8 b] (stT w n s) fun e w' => e = .returned (.tuple #[]) ∧ w' = stT w n (putT s 0 b) := by
  obtain ⟨c0, c1, c2, c3, c4, c5, c6, c7, c8, c9, c10, c11, c12, c13, c14, c15, c16, fz⟩ := stT_cf w n s h
  generalize hv : stT w n s = v at *
  go_enter Tryd.func18, Tryd.ntmps18
  go_wp2
  (first | refine bodyPost_end (results_none rfl _ _ _) rfl ?_ | refine bodyPost_ret (results_none rfl _ _ _) rfl ?_)
  refine ⟨rfl, ?_⟩
  subst hv
  (repeat (first | rw [st0] | rw [st1] | rw [st2] | rw [st3] | rw [st4] | rw [st5] | rw [st6] | rw [st7] | rw [st8] | rw [st9] | rw [st10] | rw [st11] | rw [st12] | rw [st13] | rw [st14] | rw [st15] | rw [st16]))
  all_goals rfl

set_option maxRecDepth 100000 in
set_option maxHeartbeats 1000000 in
theorem tput_1 (w : World) (n : Nat) (s : TS) (b : Int) (h : n < w.heap.size) :
    Calls Tryd.prog 18 #[.pointer (some ⟨n, 0, none⟩), .int .u8 1, .int .u8 b] (stT w n s) fun e w' => e = .returned (.tuple #[]) ∧ w' = stT w n (putT s 1 b) := by
  obtain ⟨c0, c1, c2, c3, c4, c5, c6, c7, c8, c9, c10, c11, c12, c13, c14, c15, c16, fz⟩ := stT_cf w n s h
  have F0 := tsput_any w n s b h
  generalize hv : stT w n s = v at *
  go_enter Tryd.func18, Tryd.ntmps18
  go_wp2_with (go_at_call 35; refine F0.mono ?_; rintro e w' ⟨rfl, hw⟩)
  (first | refine bodyPost_end (results_none rfl _ _ _) rfl ?_ | refine bodyPost_ret (results_none rfl _ _ _) rfl ?_)
  refine ⟨rfl, ?_⟩
  subst hv
  (repeat (first | rw [st0] | rw [st1] | rw [st2] | rw [st3] | rw [st4] | rw [st5] | rw [st6] | rw [st7] | rw [st8] | rw [st9] | rw [st10] | rw [st11] | rw [st12] | rw [st13] | rw [st14] | rw [st15] | rw [st16]))
  all_goals rfl

set_option maxRecDepth 100000 in
set_option maxHeartbeats 1000000 in
theorem tput_2 (w : World) (n : Nat) (s : TS) (b : Int) (h : n < w.heap.size) (ok : TOk s) (hg : gl w) (h3n : 2 < n) (hb : 0 ≤ b ∧ b < 256) :
    Calls Tryd.prog 18 #[.pointer (some ⟨n, 0, none⟩), .int .u8 2, .int .u8 b] (stT w n s) fun e w' => e = .returned (.tuple #[]) ∧ w' = stT w n (putT s 2 b) := by
  obtain ⟨c0, c1, c2, c3, c4, c5, c6, c7, c8, c9, c10, c11, c12, c13, c14, c15, c16, fz⟩ := stT_cf w n s h
  have F0 := tputR2_any w n s b h ok hg h3n hb
  generalize hv : stT w n s = v at *
  go_enter Tryd.func18, Tryd.ntmps18
  go_wp2_with (go_at_call 36; refine F0.mono ?_; rintro e w' ⟨rfl, hw⟩)
  (first | refine bodyPost_end (results_none rfl _ _ _) rfl ?_ | refine bodyPost_ret (results_none rfl _ _ _) rfl ?_)
  refine ⟨rfl, ?_⟩
  subst hv
  (repeat (first | rw [st0] | rw [st1] | rw [st2] | rw [st3] | rw [st4] | rw [st5] | rw [st6] | rw [st7] | rw [st8] | rw [st9] | rw [st10] | rw [st11] | rw [st12] | rw [st13] | rw [st14] | rw [st15] | rw [st16]))
  all_goals rfl

set_option maxRecDepth 100000 in
set_option maxHeartbeats 1000000 in
theorem tput_3 (w : World) (n : Nat) (s : TS) (b : Int) (h : n < w.heap.size) (ok : TOk s) (hg : gl w) (h3n : 2 < n) (hb : 0 ≤ b ∧ b < 256) :
    Calls Tryd.prog 18 #[.pointer (some ⟨n, 0, none⟩), .int .u8 3, .int .u8 b] (stT w n s) fun e w' => e = .returned (.tuple #[]) ∧ w' = stT w n (putT s 3 b) := by
  obtain ⟨c0, c1, c2, c3, c4, c5, c6, c7, c8, c9, c10, c11, c12, c13, c14, c15, c16, fz⟩ := stT_cf w n s h
  have F0 := tputR3_any w n s b h ok hg h3n hb
  generalize hv : stT w n s = v at *
  go_enter Tryd.func18, Tryd.ntmps18
  go_wp2_with (go_at_call 37; refine F0.mono ?_; rintro e w' ⟨rfl, hw⟩)
  (first | refine bodyPost_end (results_none rfl _ _ _) rfl ?_ | refine bodyPost_ret (results_none rfl _ _ _) rfl ?_)
  refine ⟨rfl, ?_⟩
  subst hv
  (repeat (first | rw [st0] | rw [st1] | rw [st2] | rw [st3] | rw [st4] | rw [st5] | rw [st6] | rw [st7] | rw [st8] | rw [st9] | rw [st10] | rw [st11] | rw [st12] | rw [st13] | rw [st14] | rw [st15] | rw [st16]))
  all_goals rfl

set_option maxRecDepth 100000 in
set_option maxHeartbeats 1000000 in
theorem tput_x (w : World) (n : Nat) (s : TS) (r b : Int) (h : n < w.heap.size) (hr : 4 ≤ r) :
    Calls Tryd.prog 18 #[.pointer (some ⟨n, 0, none⟩), .int .u8 r, .int .u8 b] (stT w n s) fun e w' => e = .returned (.tuple #[]) ∧ w' = stT w n (putT s r b) := by
  obtain ⟨c0, c1, c2, c3, c4, c5, c6, c7, c8, c9, c10, c11, c12, c13, c14, c15, c16, fz⟩ := stT_cf w n s h
  have t0 : (r == 0) = false := by rw [beq_eq_false_iff_ne]; omega
  have t1 : (r == 1) = false := by rw [beq_eq_false_iff_ne]; omega
  have t2 : (r == 2) = false := by rw [beq_eq_false_iff_ne]; omega
  have t3 : (r == 3) = false := by rw [beq_eq_false_iff_ne]; omega
  generalize hv : stT w n s = v at *
  go_enter Tryd.func18, Tryd.ntmps18
  go_wp2
  (first | refine bodyPost_end (results_none rfl _ _ _) rfl ?_ | refine bodyPost_ret (results_none rfl _ _ _) rfl ?_)
  refine ⟨rfl, ?_⟩
  subst hv
  (repeat (first | rw [st0] | rw [st1] | rw [st2] | rw [st3] | rw [st4] | rw [st5] | rw [st6] | rw [st7] | rw [st8] | rw [st9] | rw [st10] | rw [st11] | rw [st12] | rw [st13] | rw [st14] | rw [st15] | rw [st16]))
  all_goals exact congrArg (stT w n) (by unfold putT; rw [if_neg (by omega), if_neg (by omega), if_neg (by omega), if_neg (by omega)])

end Go.Proofs.YtgnafnjhbdefaaaDoor
