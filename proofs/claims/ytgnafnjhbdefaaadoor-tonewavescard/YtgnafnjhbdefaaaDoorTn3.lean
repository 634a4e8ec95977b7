/- A tone's methods. No law is claimed here. -/
import Derived.Test.YtgnafnjhbdefaaaDoorTn2
import Derived.StillTailTactics
namespace Go.Proofs.YtgnafnjhbdefaaaDoor
open Go.RowKit

set_option maxRecDepth 100000 in
set_option maxHeartbeats 1000000 in
theorem tlive_any (w : World) (n : Nat) (s : TS)  (h : n < w.heap.size) :
    Calls Tryd.prog 25 #[.pointer (some ⟨n, 0, none⟩)] (stT w n s) fun e w' => e = .returned (.bool (decide (0 < s.len))) ∧ w' = stT w n s := by
  obtain ⟨c0, c1, c2, c3, c4, c5, c6, c7, c8, c9, c10, c11, c12, c13, c14, c15, c16, fz⟩ := stT_cf w n s h
  generalize hv : stT w n s = v at *
  go_enter Tryd.func25, Tryd.ntmps25
  go_wp2
  go_ret
  refine ⟨?_, ?_⟩
  · rfl
  · rfl

set_option maxRecDepth 100000 in
set_option maxHeartbeats 1000000 in
theorem tshadv_any (w : World) (n : Nat) (s : TS)  (h : n < w.heap.size) (ok : TOk s) :
    Calls Tryd.prog 50 #[.pointer (some ⟨n, 15, none⟩)] (stT w n s) fun e w' => e = .returned (.tuple #[]) ∧ w' = stT w n { s with bits := bitT s } := by
  obtain ⟨c0, c1, c2, c3, c4, c5, c6, c7, c8, c9, c10, c11, c12, c13, c14, c15, c16, fz⟩ := stT_cf w n s h
  have z1 := wnoise s.bits (s.bits / 2) ok.bits (by have := ok.bits; omega)
  have z2 := wnoise s.bits (s.bits / 64) ok.bits (by have := ok.bits; omega)
  generalize hv : stT w n s = v at *
  rcases Bool.eq_false_or_eq_true s.short with hs | hs
  all_goals
    go_enter Tryd.func50, Tryd.ntmps50
    go_wp2
    (first | refine bodyPost_end (results_none rfl _ _ _) rfl ?_ | refine bodyPost_ret (results_none rfl _ _ _) rfl ?_)
    refine ⟨rfl, ?_⟩
    subst hv
    (repeat (first | rw [st0] | rw [st1] | rw [st2] | rw [st3] | rw [st4] | rw [st5] | rw [st6] | rw [st7] | rw [st8] | rw [st9] | rw [st10] | rw [st11] | rw [st12] | rw [st13] | rw [st14] | rw [st15] | rw [st16]))
    exact congrArg (stT w n) (by simp [bitT, hs])

set_option maxRecDepth 100000 in
set_option maxHeartbeats 1000000 in
theorem tsput_any (w : World) (n : Nat) (s : TS) (b : Int) (h : n < w.heap.size) :
    Calls Tryd.prog 35 #[.pointer (some ⟨n, 10, none⟩), .int .u8 b] (stT w n s) fun e w' => e = .returned (.tuple #[]) ∧ w' = stT w n { s with sreg := b, swr := true } := by
  obtain ⟨c0, c1, c2, c3, c4, c5, c6, c7, c8, c9, c10, c11, c12, c13, c14, c15, c16, fz⟩ := stT_cf w n s h
  generalize hv : stT w n s = v at *
  go_enter Tryd.func35, Tryd.ntmps35
  go_wp2
  (first | refine bodyPost_end (results_none rfl _ _ _) rfl ?_ | refine bodyPost_ret (results_none rfl _ _ _) rfl ?_)
  refine ⟨rfl, ?_⟩
  subst hv
  (repeat (first | rw [st0] | rw [st1] | rw [st2] | rw [st3] | rw [st4] | rw [st5] | rw [st6] | rw [st7] | rw [st8] | rw [st9] | rw [st10] | rw [st11] | rw [st12] | rw [st13] | rw [st14] | rw [st15] | rw [st16]))
  skip

set_option maxRecDepth 100000 in
set_option maxHeartbeats 1000000 in
theorem tvolume_any (w : World) (n : Nat) (s : TS)  (h : n < w.heap.size) (ok : TOk s) :
    Calls Tryd.prog 55 #[.pointer (some ⟨n, 0, none⟩)] (stT w n s) fun e w' => e = .returned (.int .u8 (volT s)) ∧ w' = stT w n s := by
  obtain ⟨c0, c1, c2, c3, c4, c5, c6, c7, c8, c9, c10, c11, c12, c13, c14, c15, c16, fz⟩ := stT_cf w n s h
  have z1 := l15 s.ctl ok.ctl
  generalize hv : stT w n s = v at *
  rcases b16 s.ctl ok.ctl with ⟨h1, h2⟩ | ⟨h1, h2⟩
  all_goals
    go_enter Tryd.func55, Tryd.ntmps55
    go_wp2
    go_ret
    refine ⟨?_, ?_⟩
    · simp [volT, h1]
    · rfl

set_option maxRecDepth 100000 in
set_option maxHeartbeats 1000000 in
theorem toutTri_any (w : World) (n : Nat) (s : TS)  (h : n < w.heap.size) (ok : TOk s) (hk : s.kind = 2) :
    Calls Tryd.prog 43 #[.pointer (some ⟨n, 0, none⟩)] (stT w n s) fun e w' => e = .returned (.int .u8 (outT s)) ∧ w' = stT w n s := by
  obtain ⟨c0, c1, c2, c3, c4, c5, c6, c7, c8, c9, c10, c11, c12, c13, c14, c15, c16, fz⟩ := stT_cf w n s h
  have o1 := ok.stp
  generalize hv : stT w n s = v at *
  rcases (by omega : s.stp < 16 ∨ ¬ s.stp < 16) with h1 | h1
  all_goals
    go_enter Tryd.func43, Tryd.ntmps43
    go_wp2
    go_ret
    refine ⟨?_, ?_⟩
    · simp [outT, hk, h1]; try omega
    · rfl

set_option maxRecDepth 100000 in
set_option maxHeartbeats 1000000 in
theorem tlq_any (w : World) (n : Nat) (s : TS)  (h : n < w.heap.size) (ok : TOk s) :
    Calls Tryd.prog 38 #[.pointer (some ⟨n, 13, none⟩), .int .u8 s.ctl] (stT w n s) fun e w' => e = .returned (.tuple #[]) ∧ w' = stT w n (linT s) := by
  obtain ⟨c0, c1, c2, c3, c4, c5, c6, c7, c8, c9, c10, c11, c12, c13, c14, c15, c16, fz⟩ := stT_cf w n s h
  have o1 := ok.lin
  have z1 := l127 s.ctl ok.ctl
  generalize hv : stT w n s = v at *
  rcases Bool.eq_false_or_eq_true s.pend with h1 | h1 <;> rcases (by omega : s.lin = 0 ∨ 0 < s.lin) with h2 | h2 <;> rcases b128 s.ctl ok.ctl with ⟨h3, h4⟩ | ⟨h3, h4⟩
  all_goals
    go_enter Tryd.func38, Tryd.ntmps38
    go_wp2
    (first | refine bodyPost_end (results_none rfl _ _ _) rfl ?_ | refine bodyPost_ret (results_none rfl _ _ _) rfl ?_)
    refine ⟨rfl, ?_⟩
    subst hv
    (repeat (first | rw [st0] | rw [st1] | rw [st2] | rw [st3] | rw [st4] | rw [st5] | rw [st6] | rw [st7] | rw [st8] | rw [st9] | rw [st10] | rw [st11] | rw [st12] | rw [st13] | rw [st14] | rw [st15] | rw [st16]))
    all_goals exact congrArg (stT w n) (by apply ts_ext <;> first | rfl | (simp [linT, h1, h2, h3]; done) | (simp [linT, h1, h2, h3]; omega))

set_option maxRecDepth 100000 in
set_option maxHeartbeats 1000000 in
theorem tfade_any (w : World) (n : Nat) (s : TS) (b : Bool) (h : n < w.heap.size) (ok : TOk s) :
    Calls Tryd.prog 48 #[.pointer (some ⟨n, 7, none⟩), .bool b] (stT w n s) fun e w' => e = .returned (.tuple #[]) ∧ w' = stT w n { s with lev := fadeL s.lev b } := by
  obtain ⟨c0, c1, c2, c3, c4, c5, c6, c7, c8, c9, c10, c11, c12, c13, c14, c15, c16, fz⟩ := stT_cf w n s h
  have o1 := ok.lev
  generalize hv : stT w n s = v at *
  cases b <;> rcases (by omega : s.lev = 0 ∨ 0 < s.lev) with h1 | h1
  all_goals
    go_enter Tryd.func48, Tryd.ntmps48
    go_wp2
    (first | refine bodyPost_end (results_none rfl _ _ _) rfl ?_ | refine bodyPost_ret (results_none rfl _ _ _) rfl ?_)
    refine ⟨rfl, ?_⟩
    subst hv
    (repeat (first | rw [st0] | rw [st1] | rw [st2] | rw [st3] | rw [st4] | rw [st5] | rw [st6] | rw [st7] | rw [st8] | rw [st9] | rw [st10] | rw [st11] | rw [st12] | rw [st13] | rw [st14] | rw [st15] | rw [st16]))
    all_goals exact congrArg (stT w n) (by apply ts_ext <;> first | rfl | (simp [fadeL, h1]; done) | (simp [fadeL, h1]; omega))

set_option maxRecDepth 100000 in
set_option maxHeartbeats 1000000 in
theorem teq_any (w : World) (n : Nat) (s : TS)  (h : n < w.heap.size) (ok : TOk s) :
    Calls Tryd.prog 39 #[.pointer (some ⟨n, 7, none⟩), .int .u8 s.ctl] (stT w n s) fun e w' => e = .returned (.tuple #[]) ∧ w' = stT w n (envT s) := by
  obtain ⟨c0, c1, c2, c3, c4, c5, c6, c7, c8, c9, c10, c11, c12, c13, c14, c15, c16, fz⟩ := stT_cf w n s h
  have o1 := ok.div
  have z1 := l15 s.ctl ok.ctl
  have F0 := fun b => tfade_any w n { s with div := s.ctl % 16 } b (by assumption) (by obtain ⟨_, _, _, _, _, _, _, _, _, _, _, _, _, _⟩ := ok; constructor <;> first | assumption | (show 0 ≤ s.ctl % 16 ∧ s.ctl % 16 < 16; omega))
  rw [← st8] at F0
  generalize hv : stT w n s = v at *
  rcases Bool.eq_false_or_eq_true s.rst with h1 | h1 <;> rcases (by omega : s.div = 0 ∨ 0 < s.div) with h2 | h2 <;> rcases b32 s.ctl ok.ctl with ⟨h3, h4⟩ | ⟨h3, h4⟩
  all_goals
    go_enter Tryd.func39, Tryd.ntmps39
    go_wp2_with (go_at_call 48; refine (F0 _).mono ?_; rintro e w' ⟨rfl, hw⟩)
    skip
    (first | refine bodyPost_end (results_none rfl _ _ _) rfl ?_ | refine bodyPost_ret (results_none rfl _ _ _) rfl ?_)
    refine ⟨rfl, ?_⟩
    subst hv
    (repeat (first | rw [st0] | rw [st1] | rw [st2] | rw [st3] | rw [st4] | rw [st5] | rw [st6] | rw [st7] | rw [st8] | rw [st9] | rw [st10] | rw [st11] | rw [st12] | rw [st13] | rw [st14] | rw [st15] | rw [st16]))
    all_goals exact congrArg (stT w n) (by apply ts_ext <;> first | rfl | (simp [envT, h1, h2, h3]; done) | (simp [envT, h1, h2, h3]; omega))

set_option maxRecDepth 100000 in
set_option maxHeartbeats 1000000 in
theorem thalted_any (w : World) (n : Nat) (s : TS)  (h : n < w.heap.size) (ok : TOk s) :
    Calls Tryd.prog 41 #[.pointer (some ⟨n, 0, none⟩)] (stT w n s) fun e w' => e = .returned (.bool (haltT s)) ∧ w' = stT w n s := by
  obtain ⟨c0, c1, c2, c3, c4, c5, c6, c7, c8, c9, c10, c11, c12, c13, c14, c15, c16, fz⟩ := stT_cf w n s h
  generalize hv : stT w n s = v at *
  rcases (by omega : s.kind = 2 ∨ s.kind ≠ 2) with h1 | h1 <;> rcases b128 s.ctl ok.ctl with ⟨h2, h3⟩ | ⟨h2, h3⟩ <;> rcases b32 s.ctl ok.ctl with ⟨h4, h5⟩ | ⟨h4, h5⟩
  all_goals
    go_enter Tryd.func41, Tryd.ntmps41
    go_wp2
    go_ret
    refine ⟨?_, ?_⟩
    · simp [haltT, h1, h2, h4]
    · rfl

set_option maxRecDepth 100000 in
set_option maxHeartbeats 1000000 in
theorem tdue_any (w : World) (n : Nat) (s : TS)  (h : n < w.heap.size) (ok : TOk s) :
    Calls Tryd.prog 51 #[.pointer (some ⟨n, 10, none⟩)] (stT w n s) fun e w' => e = .returned (.bool (dueT s)) ∧ w' = stT w n s := by
  obtain ⟨c0, c1, c2, c3, c4, c5, c6, c7, c8, c9, c10, c11, c12, c13, c14, c15, c16, fz⟩ := stT_cf w n s h
  have o1 := ok.sdiv
  have z1 := l7 s.sreg ok.sreg
  generalize hv : stT w n s = v at *
  rcases (by omega : s.sdiv = 0 ∨ 0 < s.sdiv) with h1 | h1 <;> rcases b128 s.sreg ok.sreg with ⟨h2, h3⟩ | ⟨h2, h3⟩ <;> rcases (by omega : s.sreg % 8 = 0 ∨ s.sreg % 8 ≠ 0) with h4 | h4
  all_goals
    go_enter Tryd.func51, Tryd.ntmps51
    go_wp2
    go_ret
    refine ⟨?_, ?_⟩
    · first | (simp [dueT, h1, h2, h4]; done) | (simp [dueT, h2, h4]; omega)
    · rfl

set_option maxRecDepth 100000 in
set_option maxHeartbeats 1000000 in
theorem tcount_any (w : World) (n : Nat) (s : TS)  (h : n < w.heap.size) (ok : TOk s) :
    Calls Tryd.prog 54 #[.pointer (some ⟨n, 10, none⟩)] (stT w n s) fun e w' => e = .returned (.tuple #[]) ∧ w' = stT w n (countT s) := by
  obtain ⟨c0, c1, c2, c3, c4, c5, c6, c7, c8, c9, c10, c11, c12, c13, c14, c15, c16, fz⟩ := stT_cf w n s h
  have o1 := ok.sdiv
  have z1 := l112 s.sreg ok.sreg
  have z2 : s.sreg / 16 % 8 * 16 / 16 = s.sreg / 16 % 8 := by omega
  generalize hv : stT w n s = v at *
  rcases (by omega : s.sdiv = 0 ∨ s.sdiv ≠ 0) with h1 | h1 <;> rcases Bool.eq_false_or_eq_true s.swr with h2 | h2
  all_goals
    go_enter Tryd.func54, Tryd.ntmps54
    go_wp2
    (first | refine bodyPost_end (results_none rfl _ _ _) rfl ?_ | refine bodyPost_ret (results_none rfl _ _ _) rfl ?_)
    refine ⟨rfl, ?_⟩
    subst hv
    (repeat (first | rw [st0] | rw [st1] | rw [st2] | rw [st3] | rw [st4] | rw [st5] | rw [st6] | rw [st7] | rw [st8] | rw [st9] | rw [st10] | rw [st11] | rw [st12] | rw [st13] | rw [st14] | rw [st15] | rw [st16]))
    all_goals exact congrArg (stT w n) (by apply ts_ext <;> first | rfl | (simp [countT, h1, h2]; done) | (simp [countT, h1, h2]; omega))

end Go.Proofs.YtgnafnjhbdefaaaDoor
