/- A tone's methods. No law is claimed here. -/
import Derived.Test.YtgnafnjhbdefaaaDoorTn7
import Derived.StillTailTactics
namespace Go.Proofs.YtgnafnjhbdefaaaDoor
open Go.RowKit

set_option maxRecDepth 100000 in
set_option maxHeartbeats 1000000 in
theorem tputR2_3 (w : World) (n : Nat) (s : TS) (b : Int) (h : n < w.heap.size) (hk : s.kind = 3) (hg : gl w) (h3n : 2 < n) (hb : 0 ≤ b ∧ b < 256) :
    Calls Tryd.prog 36 #[.pointer (some ⟨n, 0, none⟩), .int .u8 b] (stT w n s) fun e w' => e = .returned (.tuple #[]) ∧ w' = stT w n (put2 s b) := by
  obtain ⟨c0, c1, c2, c3, c4, c5, c6, c7, c8, c9, c10, c11, c12, c13, c14, c15, c16, fz⟩ := stT_cf w n s h
  have F0 := tput2_3 w n s b h hg h3n hb
  generalize hv : stT w n s = v at *
  go_enter Tryd.func36, Tryd.ntmps36
  go_wp2_with (go_at_call 31; refine F0.mono ?_; rintro e w' ⟨rfl, rfl⟩)
  (first | refine bodyPost_end (results_none rfl _ _ _) rfl ?_ | refine bodyPost_ret (results_none rfl _ _ _) rfl ?_)
  refine ⟨rfl, ?_⟩
  subst hv
  (repeat (first | rw [st0] | rw [st1] | rw [st2] | rw [st3] | rw [st4] | rw [st5] | rw [st6] | rw [st7] | rw [st8] | rw [st9] | rw [st10] | rw [st11] | rw [st12] | rw [st13] | rw [st14] | rw [st15] | rw [st16]))
  all_goals exact congrArg (stT w n) (by unfold put2; rw [if_pos hk])

set_option maxRecDepth 100000 in
set_option maxHeartbeats 1000000 in
theorem tputR2_1 (w : World) (n : Nat) (s : TS) (b : Int) (h : n < w.heap.size) (hk : s.kind ≠ 3) (ok : TOk s) (hb : 0 ≤ b ∧ b < 256) :
    Calls Tryd.prog 36 #[.pointer (some ⟨n, 0, none⟩), .int .u8 b] (stT w n s) fun e w' => e = .returned (.tuple #[]) ∧ w' = stT w n (put2 s b) := by
  obtain ⟨c0, c1, c2, c3, c4, c5, c6, c7, c8, c9, c10, c11, c12, c13, c14, c15, c16, fz⟩ := stT_cf w n s h
  have o1 := ok.per
  have z1 := w1792 s.per (by omega)
  have z2 : IntKind.u16.wrap b = b := by rw [wrap_u16_mod]; omega
  have z3 := wor b (s.per / 256 % 8) hb (by omega)
  generalize hv : stT w n s = v at *
  go_enter Tryd.func36, Tryd.ntmps36
  go_wp2
  (first | refine bodyPost_end (results_none rfl _ _ _) rfl ?_ | refine bodyPost_ret (results_none rfl _ _ _) rfl ?_)
  refine ⟨rfl, ?_⟩
  subst hv
  (repeat (first | rw [st0] | rw [st1] | rw [st2] | rw [st3] | rw [st4] | rw [st5] | rw [st6] | rw [st7] | rw [st8] | rw [st9] | rw [st10] | rw [st11] | rw [st12] | rw [st13] | rw [st14] | rw [st15] | rw [st16]))
  all_goals exact congrArg (stT w n) (by unfold put2; rw [if_neg hk])

set_option maxRecDepth 100000 in
set_option maxHeartbeats 1000000 in
theorem tputR3_any (w : World) (n : Nat) (s : TS) (b : Int) (h : n < w.heap.size) (ok : TOk s) (hg : gl w) (h3n : 2 < n) (hb : 0 ≤ b ∧ b < 256) :
    Calls Tryd.prog 37 #[.pointer (some ⟨n, 0, none⟩), .int .u8 b] (stT w n s) fun e w' => e = .returned (.tuple #[]) ∧ w' = stT w n (put3 s b) := by
  obtain ⟨c0, c1, c2, c3, c4, c5, c6, c7, c8, c9, c10, c11, c12, c13, c14, c15, c16, fz⟩ := stT_cf w n s h
  have o1 := ok.per
  have z1 := w255 s.per (by omega)
  have z4 := l7 b hb
  have z2 : IntKind.u16.wrap (b % 8) = b % 8 := by rw [wrap_u16_mod]; omega
  have z5 : IntKind.u16.wrap (b % 8 * 256) = b % 8 * 256 := by rw [wrap_u16_mod]; omega
  have z3 := wor' (s.per % 256) (b % 8) (by omega) (by omega)
  obtain ⟨i, hi⟩ := nat_of (b / 8) (by omega)
  have i1 : i < 32 := by omega
  have i3 : (i : Int) < 32 := by omega
  have hd : (stT w n s).cell? ⟨1, i, none⟩ = some (.int .u8 (at0 lenL (b / 8))) := by
    have := hg.len i (by omega)
    unfold stT; rw [rowT_cellFar _ _ _ _ _ (by show 1 ≠ n; omega), this, hi]
  generalize hD : at0 lenL (b / 8) = D at *
  generalize hv : stT w n s = v at *
  rcases Bool.eq_false_or_eq_true s.en with h1 | h1 <;> rcases (by omega : s.kind = 2 ∨ s.kind = 3 ∨ (s.kind ≠ 2 ∧ s.kind ≠ 3)) with h2 | h2 | ⟨h2, h3⟩
  all_goals
    go_enter Tryd.func37, Tryd.ntmps37
    go_wp2
    (first | refine bodyPost_end (results_none rfl _ _ _) rfl ?_ | refine bodyPost_ret (results_none rfl _ _ _) rfl ?_)
    refine ⟨rfl, ?_⟩
    subst hv
    (repeat (first | rw [st0] | rw [st1] | rw [st2] | rw [st3] | rw [st4] | rw [st5] | rw [st6] | rw [st7] | rw [st8] | rw [st9] | rw [st10] | rw [st11] | rw [st12] | rw [st13] | rw [st14] | rw [st15] | rw [st16]))
    all_goals exact congrArg (stT w n) (by apply ts_ext <;> first | rfl | (simp [put3, hD, h1, h2]; done) | (simp [put3, hD, h1, h2, h3]; done))

set_option maxRecDepth 100000 in
set_option maxHeartbeats 1000000 in
theorem ten_any (w : World) (n : Nat) (s : TS) (on : Bool) (h : n < w.heap.size) :
    Calls Tryd.prog 16 #[.pointer (some ⟨n, 0, none⟩), .bool on] (stT w n s) fun e w' => e = .returned (.tuple #[]) ∧ w' = stT w n (enT s on) := by
  obtain ⟨c0, c1, c2, c3, c4, c5, c6, c7, c8, c9, c10, c11, c12, c13, c14, c15, c16, fz⟩ := stT_cf w n s h
  generalize hv : stT w n s = v at *
  cases on
  all_goals
    go_enter Tryd.func16, Tryd.ntmps16
    go_wp2
    (first | refine bodyPost_end (results_none rfl _ _ _) rfl ?_ | refine bodyPost_ret (results_none rfl _ _ _) rfl ?_)
    refine ⟨rfl, ?_⟩
    subst hv
    (repeat (first | rw [st0] | rw [st1] | rw [st2] | rw [st3] | rw [st4] | rw [st5] | rw [st6] | rw [st7] | rw [st8] | rw [st9] | rw [st10] | rw [st11] | rw [st12] | rw [st13] | rw [st14] | rw [st15] | rw [st16]))
    all_goals exact congrArg (stT w n) (by apply ts_ext <;> first | rfl | (simp [enT]; done))

set_option maxRecDepth 100000 in
set_option maxHeartbeats 1000000 in
theorem tqua_2 (w : World) (n : Nat) (s : TS)  (h : n < w.heap.size) (ok : TOk s) (hk : s.kind = 2) :
    Calls Tryd.prog 20 #[.pointer (some ⟨n, 0, none⟩)] (stT w n s) fun e w' => e = .returned (.tuple #[]) ∧ ∃ q, w' = stT (w.drewN q) n (quaT s) := by
  obtain ⟨c0, c1, c2, c3, c4, c5, c6, c7, c8, c9, c10, c11, c12, c13, c14, c15, c16, fz⟩ := stT_cf w n s h
  have F0 := fun q => tlq_any (w.drewN q) n s h ok
  simp only [← stT_drewN] at F0
  generalize hv : stT w n s = v at *
  go_enter Tryd.func20, Tryd.ntmps20
  go_upto_region 2 with (fail)
  go_still_tail 7, (by kernel_rfl)
  go_wp2_with (go_at_call 38; refine (F0 1).mono ?_; rintro e w' ⟨rfl, hw⟩)
  (first | refine bodyPost_end (results_none rfl _ _ _) rfl ?_ | refine bodyPost_ret (results_none rfl _ _ _) rfl ?_)
  refine ⟨rfl, ?_⟩
  subst hv
  (repeat (first | rw [st0] | rw [st1] | rw [st2] | rw [st3] | rw [st4] | rw [st5] | rw [st6] | rw [st7] | rw [st8] | rw [st9] | rw [st10] | rw [st11] | rw [st12] | rw [st13] | rw [st14] | rw [st15] | rw [st16]))
  exact ⟨1, by rw [stT_drewN]; exact congrArg (stT _ n) (by unfold quaT; rw [if_pos hk])⟩

set_option maxRecDepth 100000 in
set_option maxHeartbeats 1000000 in
theorem tqua_1 (w : World) (n : Nat) (s : TS)  (h : n < w.heap.size) (ok : TOk s) (hk : s.kind ≠ 2) :
    Calls Tryd.prog 20 #[.pointer (some ⟨n, 0, none⟩)] (stT w n s) fun e w' => e = .returned (.tuple #[]) ∧ ∃ q, w' = stT (w.drewN q) n (quaT s) := by
  obtain ⟨c0, c1, c2, c3, c4, c5, c6, c7, c8, c9, c10, c11, c12, c13, c14, c15, c16, fz⟩ := stT_cf w n s h
  have F0 := fun q => teq_any (w.drewN q) n s h ok
  simp only [← stT_drewN] at F0
  generalize hv : stT w n s = v at *
  go_enter Tryd.func20, Tryd.ntmps20
  go_upto_region 3 with (fail)
  go_still_tail 7, (by kernel_rfl)
  go_wp2_with (go_at_call 39; refine (F0 1).mono ?_; rintro e w' ⟨rfl, hw⟩)
  (first | refine bodyPost_end (results_none rfl _ _ _) rfl ?_ | refine bodyPost_ret (results_none rfl _ _ _) rfl ?_)
  refine ⟨rfl, ?_⟩
  subst hv
  (repeat (first | rw [st0] | rw [st1] | rw [st2] | rw [st3] | rw [st4] | rw [st5] | rw [st6] | rw [st7] | rw [st8] | rw [st9] | rw [st10] | rw [st11] | rw [st12] | rw [st13] | rw [st14] | rw [st15] | rw [st16]))
  exact ⟨1, by rw [stT_drewN]; exact congrArg (stT _ n) (by unfold quaT; rw [if_neg hk])⟩

end Go.Proofs.YtgnafnjhbdefaaaDoor
