/- A sound unit in memory and its methods. No law is claimed here. -/
import Derived.Test.YtghldekcnanciaaDoorSd1
import Derived.StillTailTactics
namespace Go.Proofs.YtghldekcnanciaaDoor
open Go.RowKit

set_option maxRecDepth 100000 in
set_option maxHeartbeats 1000000 in
theorem sdbegin_any (w : World) (n : Nat) (p : Nat → Nat) (s : SS)  (h : n < w.heap.size) (b2 : 0 ≤ s.r2 ∧ s.r2 < 256) (b3 : 0 ≤ s.r3 ∧ s.r3 < 256) :
    Calls Tryd.prog 77 #[.pointer (some ⟨n, 4, none⟩)] (stS w n p s) fun e w' => e = .returned (.tuple #[]) ∧ w' = stS w n p (begS s) := by
  have cs := stS_cs w n p s h
  have c_r2 := cs.r2
  have c_r3 := cs.r3
  have c_adr := cs.adr
  have c_rem := cs.rem
  have fz := cs.fz
  have y1 : IntKind.u16.wrap s.r2 = s.r2 := by rw [wrap_u16_mod]; omega
  have y2 : IntKind.u16.wrap (64 * s.r2) = 64 * s.r2 := by rw [wrap_u16_mod]; omega
  have y3 : IntKind.u16.wrap (49152 + 64 * s.r2) = 49152 + 64 * s.r2 := by rw [wrap_u16_mod]; omega
  clear cs
  generalize hv : stS w n p s = v at *
  go_enter Tryd.func77, Tryd.ntmps77
  go_wp2
  (first | refine bodyPost_end (results_none rfl _ _ _) rfl ?_ | refine bodyPost_ret (results_none rfl _ _ _) rfl ?_)
  refine ⟨?_, ?_⟩
  · first | rfl | (simp; done)
  subst hv
  (repeat (first | rw [ss_r0] | rw [ss_r1] | rw [ss_r2] | rw [ss_r3] | rw [ss_lev] | rw [ss_tim] | rw [ss_buf] | rw [ss_full] | rw [ss_shf] | rw [ss_bits] | rw [ss_sil] | rw [ss_adr] | rw [ss_rem] | rw [ss_req] | rw [ss_cnt] | rw [ss_sec] | rw [ss_inh] | rw [ss_frq] | rw [ss_odd]))
  all_goals rfl

set_option maxRecDepth 100000 in
set_option maxHeartbeats 1000000 in
theorem sdput_0 (w : World) (n : Nat) (p : Nat → Nat) (s : SS) (b : Int) (h : n < w.heap.size) (hb : 0 ≤ b ∧ b < 256) :
    Calls Tryd.prog 34 #[.pointer (some ⟨n, 4, none⟩), .int .u16 0, .int .u8 b] (stS w n p s) fun e w' => e = .returned (.tuple #[]) ∧ w' = stS w n p (putS0 s b) := by
  have cs := stS_cs w n p s h
  have c_r0 := cs.r0
  have c_req := cs.req
  have fz := cs.fz
  clear cs
  generalize hv : stS w n p s = v at *
  rcases b128 b hb with ⟨h1, h2⟩ | ⟨h1, h2⟩
  all_goals
    go_enter Tryd.func34, Tryd.ntmps34
    go_wp2
    (first | refine bodyPost_end (results_none rfl _ _ _) rfl ?_ | refine bodyPost_ret (results_none rfl _ _ _) rfl ?_)
    refine ⟨?_, ?_⟩
    · first | rfl | (simp; done)
    subst hv
    (repeat (first | rw [ss_r0] | rw [ss_r1] | rw [ss_r2] | rw [ss_r3] | rw [ss_lev] | rw [ss_tim] | rw [ss_buf] | rw [ss_full] | rw [ss_shf] | rw [ss_bits] | rw [ss_sil] | rw [ss_adr] | rw [ss_rem] | rw [ss_req] | rw [ss_cnt] | rw [ss_sec] | rw [ss_inh] | rw [ss_frq] | rw [ss_odd]))
    all_goals exact congrArg (stS w n p) (by apply ss_ext <;> first | rfl | (simp [putS0, h1]; done) | (simp [putS0]; omega))

set_option maxRecDepth 100000 in
set_option maxHeartbeats 1000000 in
theorem sdput_1 (w : World) (n : Nat) (p : Nat → Nat) (s : SS) (b : Int) (h : n < w.heap.size) (hb : 0 ≤ b ∧ b < 256) :
    Calls Tryd.prog 34 #[.pointer (some ⟨n, 4, none⟩), .int .u16 1, .int .u8 b] (stS w n p s) fun e w' => e = .returned (.tuple #[]) ∧ w' = stS w n p (putS1 s b) := by
  have cs := stS_cs w n p s h
  have c_r1 := cs.r1
  have c_lev := cs.lev
  have fz := cs.fz
  have z1 := l127 b hb
  clear cs
  generalize hv : stS w n p s = v at *
  go_enter Tryd.func34, Tryd.ntmps34
  go_wp2
  (first | refine bodyPost_end (results_none rfl _ _ _) rfl ?_ | refine bodyPost_ret (results_none rfl _ _ _) rfl ?_)
  refine ⟨?_, ?_⟩
  · first | rfl | (simp; done)
  subst hv
  (repeat (first | rw [ss_r0] | rw [ss_r1] | rw [ss_r2] | rw [ss_r3] | rw [ss_lev] | rw [ss_tim] | rw [ss_buf] | rw [ss_full] | rw [ss_shf] | rw [ss_bits] | rw [ss_sil] | rw [ss_adr] | rw [ss_rem] | rw [ss_req] | rw [ss_cnt] | rw [ss_sec] | rw [ss_inh] | rw [ss_frq] | rw [ss_odd]))
  all_goals rfl

set_option maxRecDepth 100000 in
set_option maxHeartbeats 1000000 in
theorem sdput_2 (w : World) (n : Nat) (p : Nat → Nat) (s : SS) (b : Int) (h : n < w.heap.size)  :
    Calls Tryd.prog 34 #[.pointer (some ⟨n, 4, none⟩), .int .u16 2, .int .u8 b] (stS w n p s) fun e w' => e = .returned (.tuple #[]) ∧ w' = stS w n p { s with r2 := b } := by
  have cs := stS_cs w n p s h
  have c_r2 := cs.r2
  have fz := cs.fz
  clear cs
  generalize hv : stS w n p s = v at *
  go_enter Tryd.func34, Tryd.ntmps34
  go_wp2
  (first | refine bodyPost_end (results_none rfl _ _ _) rfl ?_ | refine bodyPost_ret (results_none rfl _ _ _) rfl ?_)
  refine ⟨?_, ?_⟩
  · first | rfl | (simp; done)
  subst hv
  (repeat (first | rw [ss_r0] | rw [ss_r1] | rw [ss_r2] | rw [ss_r3] | rw [ss_lev] | rw [ss_tim] | rw [ss_buf] | rw [ss_full] | rw [ss_shf] | rw [ss_bits] | rw [ss_sil] | rw [ss_adr] | rw [ss_rem] | rw [ss_req] | rw [ss_cnt] | rw [ss_sec] | rw [ss_inh] | rw [ss_frq] | rw [ss_odd]))
  all_goals rfl

set_option maxRecDepth 100000 in
set_option maxHeartbeats 1000000 in
theorem sdput_3 (w : World) (n : Nat) (p : Nat → Nat) (s : SS) (b : Int) (h : n < w.heap.size)  :
    Calls Tryd.prog 34 #[.pointer (some ⟨n, 4, none⟩), .int .u16 3, .int .u8 b] (stS w n p s) fun e w' => e = .returned (.tuple #[]) ∧ w' = stS w n p { s with r3 := b } := by
  have cs := stS_cs w n p s h
  have c_r3 := cs.r3
  have fz := cs.fz
  clear cs
  generalize hv : stS w n p s = v at *
  go_enter Tryd.func34, Tryd.ntmps34
  go_wp2
  (first | refine bodyPost_end (results_none rfl _ _ _) rfl ?_ | refine bodyPost_ret (results_none rfl _ _ _) rfl ?_)
  refine ⟨?_, ?_⟩
  · first | rfl | (simp; done)
  subst hv
  (repeat (first | rw [ss_r0] | rw [ss_r1] | rw [ss_r2] | rw [ss_r3] | rw [ss_lev] | rw [ss_tim] | rw [ss_buf] | rw [ss_full] | rw [ss_shf] | rw [ss_bits] | rw [ss_sil] | rw [ss_adr] | rw [ss_rem] | rw [ss_req] | rw [ss_cnt] | rw [ss_sec] | rw [ss_inh] | rw [ss_frq] | rw [ss_odd]))
  all_goals rfl

set_option maxRecDepth 100000 in
set_option maxHeartbeats 1000000 in
theorem sdask_any (w : World) (n : Nat) (p : Nat → Nat) (s : SS)  (h : n < w.heap.size)  :
    Calls Tryd.prog 53 #[.pointer (some ⟨n, 4, none⟩)] (stS w n p s) fun e w' => e = .returned (.bool (askS s)) ∧ w' = stS w n p s := by
  have cs := stS_cs w n p s h
  have c_full := cs.full
  have c_rem := cs.rem
  have fz := cs.fz
  clear cs
  generalize hv : stS w n p s = v at *
  rcases Bool.eq_false_or_eq_true s.full with h1 | h1 <;> rcases (by omega : 0 < s.rem ∨ s.rem ≤ 0) with h2 | h2
  all_goals
    go_enter Tryd.func53, Tryd.ntmps53
    go_wp2
    go_ret
    refine ⟨?_, ?_⟩
    · first | rfl | (simp [askS, h1]; done) | (simp [askS, h1]; omega)
    subst hv
    (repeat (first | rw [ss_r0] | rw [ss_r1] | rw [ss_r2] | rw [ss_r3] | rw [ss_lev] | rw [ss_tim] | rw [ss_buf] | rw [ss_full] | rw [ss_shf] | rw [ss_bits] | rw [ss_sil] | rw [ss_adr] | rw [ss_rem] | rw [ss_req] | rw [ss_cnt] | rw [ss_sec] | rw [ss_inh] | rw [ss_frq] | rw [ss_odd]))
    all_goals rfl

set_option maxRecDepth 100000 in
set_option maxHeartbeats 1000000 in
theorem sdply_any (w : World) (n : Nat) (p : Nat → Nat) (s : SS)  (h : n < w.heap.size) (b1 : 0 ≤ s.lev ∧ s.lev < 128) (b2 : 0 ≤ s.shf ∧ s.shf < 256) :
    Calls Tryd.prog 72 #[.pointer (some ⟨n, 4, none⟩)] (stS w n p s) fun e w' => e = .returned (.tuple #[]) ∧ w' = stS w n p (plyS s) := by
  have cs := stS_cs w n p s h
  have c_lev := cs.lev
  have c_shf := cs.shf
  have fz := cs.fz
  clear cs
  generalize hv : stS w n p s = v at *
  rcases b1u s.shf b2 with ⟨h1, h2⟩ | ⟨h1, h2⟩ <;> rcases (by omega : s.lev < 2 ∨ (2 ≤ s.lev ∧ s.lev ≤ 125) ∨ (2 ≤ s.lev ∧ 125 < s.lev)) with h3 | ⟨h3, h4⟩ | ⟨h3, h4⟩
  all_goals
    go_enter Tryd.func72, Tryd.ntmps72
    go_wp2
    (first | refine bodyPost_end (results_none rfl _ _ _) rfl ?_ | refine bodyPost_ret (results_none rfl _ _ _) rfl ?_)
    refine ⟨?_, ?_⟩
    · first | rfl | (simp; done)
    subst hv
    (repeat (first | rw [ss_r0] | rw [ss_r1] | rw [ss_r2] | rw [ss_r3] | rw [ss_lev] | rw [ss_tim] | rw [ss_buf] | rw [ss_full] | rw [ss_shf] | rw [ss_bits] | rw [ss_sil] | rw [ss_adr] | rw [ss_rem] | rw [ss_req] | rw [ss_cnt] | rw [ss_sec] | rw [ss_inh] | rw [ss_frq] | rw [ss_odd]))
    all_goals exact congrArg (stS w n p) (by apply ss_ext <;> first | rfl | (dsimp only [plyS]; unfold levS; (repeat' split) <;> omega))

set_option maxRecDepth 100000 in
set_option maxHeartbeats 1000000 in
theorem sdref_any (w : World) (n : Nat) (p : Nat → Nat) (s : SS)  (h : n < w.heap.size)  :
    Calls Tryd.prog 73 #[.pointer (some ⟨n, 4, none⟩)] (stS w n p s) fun e w' => e = .returned (.tuple #[]) ∧ w' = stS w n p (refS s) := by
  have cs := stS_cs w n p s h
  have c_bits := cs.bits
  have c_full := cs.full
  have c_sil := cs.sil
  have c_buf := cs.buf
  have c_shf := cs.shf
  have fz := cs.fz
  clear cs
  generalize hv : stS w n p s = v at *
  rcases Bool.eq_false_or_eq_true s.full with h1 | h1
  all_goals
    go_enter Tryd.func73, Tryd.ntmps73
    go_wp2
    (first | refine bodyPost_end (results_none rfl _ _ _) rfl ?_ | refine bodyPost_ret (results_none rfl _ _ _) rfl ?_)
    refine ⟨?_, ?_⟩
    · first | rfl | (simp; done)
    subst hv
    (repeat (first | rw [ss_r0] | rw [ss_r1] | rw [ss_r2] | rw [ss_r3] | rw [ss_lev] | rw [ss_tim] | rw [ss_buf] | rw [ss_full] | rw [ss_shf] | rw [ss_bits] | rw [ss_sil] | rw [ss_adr] | rw [ss_rem] | rw [ss_req] | rw [ss_cnt] | rw [ss_sec] | rw [ss_inh] | rw [ss_frq] | rw [ss_odd]))
    all_goals exact congrArg (stS w n p) (by apply ss_ext <;> first | rfl | (simp [refS, h1]; done) | (simp [refS]; omega))

set_option maxRecDepth 100000 in
set_option maxHeartbeats 1000000 in
theorem sdfrp_any (w : World) (n : Nat) (p : Nat → Nat) (s : SS) (b : Int) (h : n < w.heap.size) (hb : 0 ≤ b ∧ b < 256) :
    Calls Tryd.prog 63 #[.pointer (some ⟨n, 18, none⟩), .int .u8 b] (stS w n p s) fun e w' => e = .returned (.tuple #[]) ∧ w' = stS w n p (frpS s b) := by
  have cs := stS_cs w n p s h
  have c_cnt := cs.cnt
  have c_sec := cs.sec
  have c_inh := cs.inh
  have c_frq := cs.frq
  have fz := cs.fz
  clear cs
  generalize hv : stS w n p s = v at *
  rcases b128 b hb with ⟨h1, h2⟩ | ⟨h1, h2⟩ <;> rcases b64 b hb with ⟨h3, h4⟩ | ⟨h3, h4⟩
  all_goals
    go_enter Tryd.func63, Tryd.ntmps63
    go_wp2
    (first | refine bodyPost_end (results_none rfl _ _ _) rfl ?_ | refine bodyPost_ret (results_none rfl _ _ _) rfl ?_)
    refine ⟨?_, ?_⟩
    · first | rfl | (simp; done)
    subst hv
    (repeat (first | rw [ss_r0] | rw [ss_r1] | rw [ss_r2] | rw [ss_r3] | rw [ss_lev] | rw [ss_tim] | rw [ss_buf] | rw [ss_full] | rw [ss_shf] | rw [ss_bits] | rw [ss_sil] | rw [ss_adr] | rw [ss_rem] | rw [ss_req] | rw [ss_cnt] | rw [ss_sec] | rw [ss_inh] | rw [ss_frq] | rw [ss_odd]))
    all_goals exact congrArg (stS w n p) (by apply ss_ext <;> first | rfl | (simp [frpS, h1, h3]; done) | (simp [frpS, h3]; omega))

set_option maxRecDepth 100000 in
set_option maxHeartbeats 1000000 in
theorem sdlast_any (w : World) (n : Nat) (p : Nat → Nat) (s : SS)  (h : n < w.heap.size)  :
    Calls Tryd.prog 66 #[.pointer (some ⟨n, 18, none⟩)] (stS w n p s) fun e w' => e = .returned (.int .i64 (lastS s)) ∧ w' = stS w n p s := by
  have cs := stS_cs w n p s h
  have c_sec := cs.sec
  have fz := cs.fz
  clear cs
  generalize hv : stS w n p s = v at *
  rcases Bool.eq_false_or_eq_true s.sec with h1 | h1
  all_goals
    go_enter Tryd.func66, Tryd.ntmps66
    go_wp2
    go_ret
    refine ⟨?_, ?_⟩
    · first | rfl | (simp [lastS, h1]; done)
    subst hv
    (repeat (first | rw [ss_r0] | rw [ss_r1] | rw [ss_r2] | rw [ss_r3] | rw [ss_lev] | rw [ss_tim] | rw [ss_buf] | rw [ss_full] | rw [ss_shf] | rw [ss_bits] | rw [ss_sil] | rw [ss_adr] | rw [ss_rem] | rw [ss_req] | rw [ss_cnt] | rw [ss_sec] | rw [ss_inh] | rw [ss_frq] | rw [ss_odd]))
    all_goals rfl

end Go.Proofs.YtghldekcnanciaaDoor
