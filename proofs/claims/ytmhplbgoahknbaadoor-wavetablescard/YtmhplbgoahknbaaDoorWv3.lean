/- A wave's methods. No law is claimed here. -/
import Derived.Test.YtmhplbgoahknbaaDoorWv2
import Derived.StillTailTactics
namespace Go.Proofs.YtmhplbgoahknbaaDoor
open Go.RowKit

theorem wdr_0 (v : World) : ∃ q, v = v.drewN q := ⟨0, rfl⟩
theorem dr_0 (v : World) : ∃ q, v = v.drewN q := ⟨0, rfl⟩
theorem dr_n {v a : World} (h : ∃ q, a = v.drewN q) (k : Nat) : ∃ q, a.drewN k = v.drewN q := by
  obtain ⟨q, rfl⟩ := h
  exact ⟨q + k, by simp⟩
theorem dr_1 {v a : World} (h : ∃ q, a = v.drewN q) : ∃ q, a.drew = v.drewN q := dr_n h 1

set_option maxRecDepth 100000 in
set_option maxHeartbeats 1000000 in
theorem whas_7_128 (w : World) (n : Nat) (s : WS)  (h : n < w.heap.size) (br : 0 ≤ s.reg 7 ∧ s.reg 7 < 256) :
    Calls Tryd.prog 35 #[.pointer (some ⟨n, 0, none⟩), .int .i64 7, .int .u8 128] (stW w n s) fun e w' => e = .returned (.bool (decide (128 ≤ s.reg 7))) ∧ w' = stW w n s := by
  have cw := stW_cw w n s h
  have cr7 := cw.reg 7 (by decide)
  have fz := cw.fz
  clear cw
  generalize hv : stW w n s = v at *
  rcases c128 (s.reg 7) br with ⟨h1, h2⟩ | ⟨h1, h2⟩
  all_goals
    go_enter Tryd.func35, Tryd.ntmps35
    go_wp2
    all_goals
      go_ret
      refine ⟨?_, ?_⟩
      · first | (have h3 : ¬ 128 ≤ s.reg 7 := (by omega); simp [h3]; done) | (simp [h1]; done)
      · rfl

set_option maxRecDepth 100000 in
set_option maxHeartbeats 1000000 in
theorem whas_9_128 (w : World) (n : Nat) (s : WS)  (h : n < w.heap.size) (br : 0 ≤ s.reg 9 ∧ s.reg 9 < 256) :
    Calls Tryd.prog 35 #[.pointer (some ⟨n, 0, none⟩), .int .i64 9, .int .u8 128] (stW w n s) fun e w' => e = .returned (.bool (decide (128 ≤ s.reg 9))) ∧ w' = stW w n s := by
  have cw := stW_cw w n s h
  have cr9 := cw.reg 9 (by decide)
  have fz := cw.fz
  clear cw
  generalize hv : stW w n s = v at *
  rcases c128 (s.reg 9) br with ⟨h1, h2⟩ | ⟨h1, h2⟩
  all_goals
    go_enter Tryd.func35, Tryd.ntmps35
    go_wp2
    all_goals
      go_ret
      refine ⟨?_, ?_⟩
      · first | (have h3 : ¬ 128 ≤ s.reg 9 := (by omega); simp [h3]; done) | (simp [h1]; done)
      · rfl

set_option maxRecDepth 100000 in
set_option maxHeartbeats 1000000 in
theorem whas_3_128 (w : World) (n : Nat) (s : WS)  (h : n < w.heap.size) (br : 0 ≤ s.reg 3 ∧ s.reg 3 < 256) :
    Calls Tryd.prog 35 #[.pointer (some ⟨n, 0, none⟩), .int .i64 3, .int .u8 128] (stW w n s) fun e w' => e = .returned (.bool (decide (128 ≤ s.reg 3))) ∧ w' = stW w n s := by
  have cw := stW_cw w n s h
  have cr3 := cw.reg 3 (by decide)
  have fz := cw.fz
  clear cw
  generalize hv : stW w n s = v at *
  rcases c128 (s.reg 3) br with ⟨h1, h2⟩ | ⟨h1, h2⟩
  all_goals
    go_enter Tryd.func35, Tryd.ntmps35
    go_wp2
    all_goals
      go_ret
      refine ⟨?_, ?_⟩
      · first | (have h3 : ¬ 128 ≤ s.reg 3 := (by omega); simp [h3]; done) | (simp [h1]; done)
      · rfl

set_option maxRecDepth 100000 in
set_option maxHeartbeats 1000000 in
theorem whas_3_192 (w : World) (n : Nat) (s : WS)  (h : n < w.heap.size) (br : 0 ≤ s.reg 3 ∧ s.reg 3 < 256) :
    Calls Tryd.prog 35 #[.pointer (some ⟨n, 0, none⟩), .int .i64 3, .int .u8 192] (stW w n s) fun e w' => e = .returned (.bool (decide (64 ≤ s.reg 3))) ∧ w' = stW w n s := by
  have cw := stW_cw w n s h
  have cr3 := cw.reg 3 (by decide)
  have fz := cw.fz
  clear cw
  generalize hv : stW w n s = v at *
  rcases c192 (s.reg 3) br with ⟨h1, h2⟩ | ⟨h1, h2⟩
  all_goals
    go_enter Tryd.func35, Tryd.ntmps35
    go_wp2
    all_goals
      go_ret
      refine ⟨?_, ?_⟩
      · first | (have h3 : ¬ 64 ≤ s.reg 3 := (by omega); simp [h3]; done) | (simp [h1]; done)
      · rfl

set_option maxRecDepth 100000 in
set_option maxHeartbeats 1000000 in
theorem wheld_any (w : World) (n : Nat) (s : WS)  (h : n < w.heap.size) (br : 0 ≤ s.reg 9 ∧ s.reg 9 < 256) :
    Calls Tryd.prog 27 #[.pointer (some ⟨n, 0, none⟩)] (stW w n s) fun e w' => e = .returned (.bool (decide (128 ≤ s.reg 9))) ∧ w' = stW w n s := by
  have cw := stW_cw w n s h
  have cr9 := cw.reg 9 (by decide)
  have fz := cw.fz
  have F0 := whas_9_128 w n s h br
  clear cw
  generalize hv : stW w n s = v at *
  go_enter Tryd.func27, Tryd.ntmps27
  go_wp2_with (go_at_call 35; refine F0.mono ?_; rintro e w' ⟨rfl, rfl⟩)
  all_goals
    go_ret
    refine ⟨?_, ?_⟩
    · rfl
    · rfl

set_option maxRecDepth 100000 in
set_option maxHeartbeats 1000000 in
theorem wtwelve_2 (w : World) (n : Nat) (s : WS)  (h : n < w.heap.size) (b1 : 0 ≤ s.reg 3 ∧ s.reg 3 < 256) (b2 : 0 ≤ s.reg 2 ∧ s.reg 2 < 256) :
    Calls Tryd.prog 38 #[.pointer (some ⟨n, 0, none⟩), .int .i64 2, .int .i64 3] (stW w n s) fun e w' => e = .returned (.int .i64 (s.reg 3 % 16 * 256 + s.reg 2)) ∧ ∃ q, w' = (stW w n s).drewN q := by
  have cw := stW_cw w n s h
  have cr2 := cw.reg 2 (by decide)
  have cr3 := cw.reg 3 (by decide)
  have fz := cw.fz
  have z1 := m15 (s.reg 3) b1
  have z2 := o12 (s.reg 3 % 16) (s.reg 2) (by omega) b2
  clear cw
  generalize hv : stW w n s = v at *
  go_enter Tryd.func38, Tryd.ntmps38
  go_upto_region 1 with (fail)
  go_quiet (fail)
  go_wp2
  all_goals
    go_ret
    refine ⟨?_, ?_⟩
    · rfl
    · (repeat (first | refine dr_n ?_ _ | refine dr_1 ?_)); exact dr_0 _

set_option maxRecDepth 100000 in
set_option maxHeartbeats 1000000 in
theorem wtwelve_6 (w : World) (n : Nat) (s : WS)  (h : n < w.heap.size) (b1 : 0 ≤ s.reg 7 ∧ s.reg 7 < 256) (b2 : 0 ≤ s.reg 6 ∧ s.reg 6 < 256) :
    Calls Tryd.prog 38 #[.pointer (some ⟨n, 0, none⟩), .int .i64 6, .int .i64 7] (stW w n s) fun e w' => e = .returned (.int .i64 (s.reg 7 % 16 * 256 + s.reg 6)) ∧ ∃ q, w' = (stW w n s).drewN q := by
  have cw := stW_cw w n s h
  have cr6 := cw.reg 6 (by decide)
  have cr7 := cw.reg 7 (by decide)
  have fz := cw.fz
  have z1 := m15 (s.reg 7) b1
  have z2 := o12 (s.reg 7 % 16) (s.reg 6) (by omega) b2
  clear cw
  generalize hv : stW w n s = v at *
  go_enter Tryd.func38, Tryd.ntmps38
  go_upto_region 1 with (fail)
  go_quiet (fail)
  go_wp2
  all_goals
    go_ret
    refine ⟨?_, ?_⟩
    · rfl
    · (repeat (first | refine dr_n ?_ _ | refine dr_1 ?_)); exact dr_0 _

set_option maxRecDepth 100000 in
set_option maxHeartbeats 1000000 in
theorem wadd_place (w : World) (n : Nat) (s : WS) (x : Int) (h : n < w.heap.size) (b1 : 0 ≤ s.sum ∧ s.sum < 65536) (hx : 0 ≤ x ∧ x < 65536) :
    Calls Tryd.prog 39 #[.pointer (some ⟨n, 75, none⟩), .int .i64 x] (stW w n s) fun e w' => e = .returned (.bool (decide (65536 ≤ s.sum + x))) ∧ w' = stW w n { s with sum := addS s.sum x } := by
  have cw := stW_cw w n s h
  have c1 := cw.sum
  have fz := cw.fz
  clear cw
  obtain ⟨D, hD⟩ : ∃ D, decide (65536 ≤ s.sum + x) = D := ⟨_, rfl⟩
  rw [hD]
  generalize hv : stW w n s = v at *
  rcases (by omega : s.sum + x < 65536 ∨ ¬ s.sum + x < 65536) with h1 | h1
  all_goals
    go_enter Tryd.func39, Tryd.ntmps39
    go_wp2
    go_ret
    refine ⟨by rw [← hD]; simp; omega, ?_⟩
    subst hv
    (repeat (first | rw [sw_sum]))
    exact congrArg (stW w n) (by apply ws_ext <;> first | rfl | (dsimp only; unfold addS; split <;> omega))

set_option maxRecDepth 100000 in
set_option maxHeartbeats 1000000 in
theorem wstep_place (w : World) (n : Nat) (s : WS)  (h : n < w.heap.size) (b1 : 0 ≤ s.pos ∧ s.pos < 64) :
    Calls Tryd.prog 40 #[.pointer (some ⟨n, 75, none⟩), .int .i64 1] (stW w n s) fun e w' => e = .returned (.tuple #[]) ∧ w' = stW w n { s with pos := (s.pos + 1) % 64 } := by
  have cw := stW_cw w n s h
  have c_pos := cw.pos
  have fz := cw.fz
  clear cw
  generalize hv : stW w n s = v at *
  go_enter Tryd.func40, Tryd.ntmps40
  go_wp2
  (first | refine bodyPost_end (results_none rfl _ _ _) rfl ?_ | refine bodyPost_ret (results_none rfl _ _ _) rfl ?_)
  refine ⟨rfl, ?_⟩
  subst hv
  (repeat (first | rw [sw_sum] | rw [sw_pos] | rw [sw_vg] | rw [sw_vs] | rw [sw_vc] | rw [sw_dg] | rw [sw_ds] | rw [sw_dc] | rw [sw_ms] | rw [sw_mp] | rw [sw_mc] | rw [sw_cyc] | rw [sw_held]))
  all_goals rfl

set_option maxRecDepth 100000 in
set_option maxHeartbeats 1000000 in
theorem wadd_mplace (w : World) (n : Nat) (s : WS) (x : Int) (h : n < w.heap.size) (b1 : 0 ≤ s.ms ∧ s.ms < 65536) (hx : 0 ≤ x ∧ x < 65536) :
    Calls Tryd.prog 39 #[.pointer (some ⟨n, 147, none⟩), .int .i64 x] (stW w n s) fun e w' => e = .returned (.bool (decide (65536 ≤ s.ms + x))) ∧ w' = stW w n { s with ms := addS s.ms x } := by
  have cw := stW_cw w n s h
  have c1 := cw.ms
  have fz := cw.fz
  clear cw
  obtain ⟨D, hD⟩ : ∃ D, decide (65536 ≤ s.ms + x) = D := ⟨_, rfl⟩
  rw [hD]
  generalize hv : stW w n s = v at *
  rcases (by omega : s.ms + x < 65536 ∨ ¬ s.ms + x < 65536) with h1 | h1
  all_goals
    go_enter Tryd.func39, Tryd.ntmps39
    go_wp2
    go_ret
    refine ⟨by rw [← hD]; simp; omega, ?_⟩
    subst hv
    (repeat (first | rw [sw_ms]))
    exact congrArg (stW w n) (by apply ws_ext <;> first | rfl | (dsimp only; unfold addS; split <;> omega))

set_option maxRecDepth 100000 in
set_option maxHeartbeats 1000000 in
theorem wstep_mplace (w : World) (n : Nat) (s : WS)  (h : n < w.heap.size) (b1 : 0 ≤ s.mp ∧ s.mp < 64) :
    Calls Tryd.prog 40 #[.pointer (some ⟨n, 147, none⟩), .int .i64 1] (stW w n s) fun e w' => e = .returned (.tuple #[]) ∧ w' = stW w n { s with mp := (s.mp + 1) % 64 } := by
  have cw := stW_cw w n s h
  have c_mp := cw.mp
  have fz := cw.fz
  clear cw
  generalize hv : stW w n s = v at *
  go_enter Tryd.func40, Tryd.ntmps40
  go_wp2
  (first | refine bodyPost_end (results_none rfl _ _ _) rfl ?_ | refine bodyPost_ret (results_none rfl _ _ _) rfl ?_)
  refine ⟨rfl, ?_⟩
  subst hv
  (repeat (first | rw [sw_sum] | rw [sw_pos] | rw [sw_vg] | rw [sw_vs] | rw [sw_vc] | rw [sw_dg] | rw [sw_ds] | rw [sw_dc] | rw [sw_ms] | rw [sw_mp] | rw [sw_mc] | rw [sw_cyc] | rw [sw_held]))
  all_goals rfl

set_option maxRecDepth 100000 in
set_option maxHeartbeats 1000000 in
theorem weput_v (w : World) (n : Nat) (s : WS) (b : Int) (h : n < w.heap.size) (hb : 0 ≤ b ∧ b < 256) :
    Calls Tryd.prog 41 #[.pointer (some ⟨n, 77, none⟩), .int .u8 b] (stW w n s) fun e w' => e = .returned (.tuple #[]) ∧ w' = stW w n (evW s b) := by
  have cw := stW_cw w n s h
  have c_vg := cw.vg
  have c_vs := cw.vs
  have c_vc := cw.vc
  have fz := cw.fz
  have z1 := m63 b hb
  clear cw
  generalize hv : stW w n s = v at *
  rcases c128 b hb with ⟨h1, h2⟩ | ⟨h1, h2⟩
  all_goals
    go_enter Tryd.func41, Tryd.ntmps41
    go_wp2
    (first | refine bodyPost_end (results_none rfl _ _ _) rfl ?_ | refine bodyPost_ret (results_none rfl _ _ _) rfl ?_)
    refine ⟨rfl, ?_⟩
    subst hv
    (repeat (first | rw [sw_sum] | rw [sw_pos] | rw [sw_vg] | rw [sw_vs] | rw [sw_vc] | rw [sw_dg] | rw [sw_ds] | rw [sw_dc] | rw [sw_ms] | rw [sw_mp] | rw [sw_mc] | rw [sw_cyc] | rw [sw_held]))
    all_goals exact congrArg (stW w n) (by apply ws_ext <;> first | rfl | (dsimp only [evW]; split <;> omega))

set_option maxRecDepth 100000 in
set_option maxHeartbeats 1000000 in
theorem wchg_v (w : World) (n : Nat) (s : WS) (up : Bool) (h : n < w.heap.size) (b1 : 0 ≤ s.vg ∧ s.vg < 64) :
    Calls Tryd.prog 44 #[.pointer (some ⟨n, 77, none⟩), .bool up] (stW w n s) fun e w' => e = .returned (.tuple #[]) ∧ w' = stW w n { s with vg := chgW s.vg up } := by
  have cw := stW_cw w n s h
  have c_vg := cw.vg
  have fz := cw.fz
  clear cw
  generalize hv : stW w n s = v at *
  cases up <;> rcases (by omega : s.vg = 0 ∨ (0 < s.vg ∧ s.vg < 32) ∨ 32 ≤ s.vg) with h1 | ⟨h1, h2⟩ | h1
  all_goals
    go_enter Tryd.func44, Tryd.ntmps44
    go_wp2
    (first | refine bodyPost_end (results_none rfl _ _ _) rfl ?_ | refine bodyPost_ret (results_none rfl _ _ _) rfl ?_)
    refine ⟨rfl, ?_⟩
    subst hv
    (repeat (first | rw [sw_sum] | rw [sw_pos] | rw [sw_vg] | rw [sw_vs] | rw [sw_vc] | rw [sw_dg] | rw [sw_ds] | rw [sw_dc] | rw [sw_ms] | rw [sw_mp] | rw [sw_mc] | rw [sw_cyc] | rw [sw_held]))
    all_goals exact congrArg (stW w n) (by apply ws_ext <;> first | rfl | (dsimp only; unfold chgW; (repeat' split) <;> first | omega | contradiction))

set_option maxRecDepth 100000 in
set_option maxHeartbeats 1000000 in
theorem weclk_v (w : World) (n : Nat) (s : WS) (r m : Int) (h : n < w.heap.size) (b1 : 0 ≤ s.vc ∧ s.vc < 131072) (b2 : 0 ≤ s.vs ∧ s.vs < 64) (b0 : 0 ≤ s.vg ∧ s.vg < 64) (hr : 0 ≤ r ∧ r < 256) (hm : 0 ≤ m ∧ m < 256) :
    Calls Tryd.prog 36 #[.pointer (some ⟨n, 77, none⟩), .int .u8 r, .int .u8 m] (stW w n s) fun e w' => e = .returned (.tuple #[]) ∧ ∃ q, w' = stW (w.drewN q) n { s with vg := envG r m s.vg s.vs s.vc, vc := envC r m s.vs s.vc } := by
  have cw := stW_cw w n s h
  have c1 := cw.vc
  have c2 := cw.vs
  have fz := cw.fz
  clear cw
  by_cases h1 : 128 ≤ r
  · have h2 : bits .and .u8 r 128 = 128 := by rcases c128 r hr with ⟨a, _⟩ | ⟨_, b⟩ <;> omega
    have he : stW w n s = stW w n { s with vg := envG r m s.vg s.vs s.vc, vc := envC r m s.vs s.vc } := congrArg (stW w n) (by apply ws_ext <;> first | rfl | (simp [envG, envC, h1]; done))
    generalize hv : stW w n s = v at *
    go_enter Tryd.func36, Tryd.ntmps36
    go_wp2
    (first | refine bodyPost_end (results_none rfl _ _ _) rfl ?_ | refine bodyPost_ret (results_none rfl _ _ _) rfl ?_)
    exact ⟨rfl, 0, by first | rfl | (subst hv; exact he)⟩
  · have h1' : r < 128 := by omega
    have h2 : bits .and .u8 r 128 = 0 := by rcases c128 r hr with ⟨_, b⟩ | ⟨a, _⟩ <;> omega
    obtain ⟨q1, q2⟩ := lim_b s.vs m b2 hm
    obtain ⟨L, hL⟩ : ∃ L, limW s.vs m = L := ⟨_, rfl⟩
    have bL : 0 ≤ L ∧ L ≤ 131072 := by rw [← hL, limW_eq]; omega
    have hL2 : 8 * (s.vs + 1) * (m + 1) = L := hL
    have hL3 : IntKind.i64.wrap (8 * (s.vs + 1)) = 8 * (s.vs + 1) := IntWalk.i64_in _ ⟨by omega, by omega⟩
    have hL4 : IntKind.i64.wrap L = L := IntWalk.i64_in _ ⟨by omega, by omega⟩
    clear q1 q2
    have FC := fun q up => wchg_v (w.drewN q) n { s with vc := 0 } up h b0
    generalize hv : stW w n s = v at *
    rcases (by omega : s.vc + 1 < L ∨ L ≤ s.vc + 1) with h3 | h3 <;> rcases c64 r hr with ⟨h4, h5⟩ | ⟨h4, h5⟩
    all_goals
      go_enter Tryd.func36, Tryd.ntmps36
      go_upto_region 2 with (fail)
      go_quiet (fail)
      go_wp2_with (go_at_call 44; subst hv; (repeat (first | rw [stW_drewN] | rw [sw_vc])); refine (FC _ _).mono ?_; rintro e w' ⟨rfl, rfl⟩)
      (first | refine bodyPost_end (results_none rfl _ _ _) rfl ?_ | refine bodyPost_ret (results_none rfl _ _ _) rfl ?_)
      refine ⟨rfl, ?_⟩
      (try subst hv)
      (repeat (first | rw [stW_drewN] | rw [sw_vc]))
      have k1 : ¬ 128 ≤ r := by omega
      exact ⟨_, congrArg (stW _ n) (by apply ws_ext <;> first | rfl | (simp [envG, envC, hL, k1, h3, h4]; done) | (have h7 : ¬ s.vc + 1 < L := (by omega); simp [envG, envC, hL, k1, h7, h4]; done))⟩

set_option maxRecDepth 100000 in
set_option maxHeartbeats 1000000 in
theorem weput_d (w : World) (n : Nat) (s : WS) (b : Int) (h : n < w.heap.size) (hb : 0 ≤ b ∧ b < 256) :
    Calls Tryd.prog 41 #[.pointer (some ⟨n, 80, none⟩), .int .u8 b] (stW w n s) fun e w' => e = .returned (.tuple #[]) ∧ w' = stW w n (edW s b) := by
  have cw := stW_cw w n s h
  have c_dg := cw.dg
  have c_ds := cw.ds
  have c_dc := cw.dc
  have fz := cw.fz
  have z1 := m63 b hb
  clear cw
  generalize hv : stW w n s = v at *
  rcases c128 b hb with ⟨h1, h2⟩ | ⟨h1, h2⟩
  all_goals
    go_enter Tryd.func41, Tryd.ntmps41
    go_wp2
    (first | refine bodyPost_end (results_none rfl _ _ _) rfl ?_ | refine bodyPost_ret (results_none rfl _ _ _) rfl ?_)
    refine ⟨rfl, ?_⟩
    subst hv
    (repeat (first | rw [sw_sum] | rw [sw_pos] | rw [sw_vg] | rw [sw_vs] | rw [sw_vc] | rw [sw_dg] | rw [sw_ds] | rw [sw_dc] | rw [sw_ms] | rw [sw_mp] | rw [sw_mc] | rw [sw_cyc] | rw [sw_held]))
    all_goals exact congrArg (stW w n) (by apply ws_ext <;> first | rfl | (dsimp only [edW]; split <;> omega))

set_option maxRecDepth 100000 in
set_option maxHeartbeats 1000000 in
theorem wchg_d (w : World) (n : Nat) (s : WS) (up : Bool) (h : n < w.heap.size) (b1 : 0 ≤ s.dg ∧ s.dg < 64) :
    Calls Tryd.prog 44 #[.pointer (some ⟨n, 80, none⟩), .bool up] (stW w n s) fun e w' => e = .returned (.tuple #[]) ∧ w' = stW w n { s with dg := chgW s.dg up } := by
  have cw := stW_cw w n s h
  have c_dg := cw.dg
  have fz := cw.fz
  clear cw
  generalize hv : stW w n s = v at *
  cases up <;> rcases (by omega : s.dg = 0 ∨ (0 < s.dg ∧ s.dg < 32) ∨ 32 ≤ s.dg) with h1 | ⟨h1, h2⟩ | h1
  all_goals
    go_enter Tryd.func44, Tryd.ntmps44
    go_wp2
    (first | refine bodyPost_end (results_none rfl _ _ _) rfl ?_ | refine bodyPost_ret (results_none rfl _ _ _) rfl ?_)
    refine ⟨rfl, ?_⟩
    subst hv
    (repeat (first | rw [sw_sum] | rw [sw_pos] | rw [sw_vg] | rw [sw_vs] | rw [sw_vc] | rw [sw_dg] | rw [sw_ds] | rw [sw_dc] | rw [sw_ms] | rw [sw_mp] | rw [sw_mc] | rw [sw_cyc] | rw [sw_held]))
    all_goals exact congrArg (stW w n) (by apply ws_ext <;> first | rfl | (dsimp only; unfold chgW; (repeat' split) <;> first | omega | contradiction))

set_option maxRecDepth 100000 in
set_option maxHeartbeats 1000000 in
theorem weclk_d (w : World) (n : Nat) (s : WS) (r m : Int) (h : n < w.heap.size) (b1 : 0 ≤ s.dc ∧ s.dc < 131072) (b2 : 0 ≤ s.ds ∧ s.ds < 64) (b0 : 0 ≤ s.dg ∧ s.dg < 64) (hr : 0 ≤ r ∧ r < 256) (hm : 0 ≤ m ∧ m < 256) :
    Calls Tryd.prog 36 #[.pointer (some ⟨n, 80, none⟩), .int .u8 r, .int .u8 m] (stW w n s) fun e w' => e = .returned (.tuple #[]) ∧ ∃ q, w' = stW (w.drewN q) n { s with dg := envG r m s.dg s.ds s.dc, dc := envC r m s.ds s.dc } := by
  have cw := stW_cw w n s h
  have c1 := cw.dc
  have c2 := cw.ds
  have fz := cw.fz
  clear cw
  by_cases h1 : 128 ≤ r
  · have h2 : bits .and .u8 r 128 = 128 := by rcases c128 r hr with ⟨a, _⟩ | ⟨_, b⟩ <;> omega
    have he : stW w n s = stW w n { s with dg := envG r m s.dg s.ds s.dc, dc := envC r m s.ds s.dc } := congrArg (stW w n) (by apply ws_ext <;> first | rfl | (simp [envG, envC, h1]; done))
    generalize hv : stW w n s = v at *
    go_enter Tryd.func36, Tryd.ntmps36
    go_wp2
    (first | refine bodyPost_end (results_none rfl _ _ _) rfl ?_ | refine bodyPost_ret (results_none rfl _ _ _) rfl ?_)
    exact ⟨rfl, 0, by first | rfl | (subst hv; exact he)⟩
  · have h1' : r < 128 := by omega
    have h2 : bits .and .u8 r 128 = 0 := by rcases c128 r hr with ⟨_, b⟩ | ⟨a, _⟩ <;> omega
    obtain ⟨q1, q2⟩ := lim_b s.ds m b2 hm
    obtain ⟨L, hL⟩ : ∃ L, limW s.ds m = L := ⟨_, rfl⟩
    have bL : 0 ≤ L ∧ L ≤ 131072 := by rw [← hL, limW_eq]; omega
    have hL2 : 8 * (s.ds + 1) * (m + 1) = L := hL
    have hL3 : IntKind.i64.wrap (8 * (s.ds + 1)) = 8 * (s.ds + 1) := IntWalk.i64_in _ ⟨by omega, by omega⟩
    have hL4 : IntKind.i64.wrap L = L := IntWalk.i64_in _ ⟨by omega, by omega⟩
    clear q1 q2
    have FC := fun q up => wchg_d (w.drewN q) n { s with dc := 0 } up h b0
    generalize hv : stW w n s = v at *
    rcases (by omega : s.dc + 1 < L ∨ L ≤ s.dc + 1) with h3 | h3 <;> rcases c64 r hr with ⟨h4, h5⟩ | ⟨h4, h5⟩
    all_goals
      go_enter Tryd.func36, Tryd.ntmps36
      go_upto_region 2 with (fail)
      go_quiet (fail)
      go_wp2_with (go_at_call 44; subst hv; (repeat (first | rw [stW_drewN] | rw [sw_dc])); refine (FC _ _).mono ?_; rintro e w' ⟨rfl, rfl⟩)
      (first | refine bodyPost_end (results_none rfl _ _ _) rfl ?_ | refine bodyPost_ret (results_none rfl _ _ _) rfl ?_)
      refine ⟨rfl, ?_⟩
      (try subst hv)
      (repeat (first | rw [stW_drewN] | rw [sw_dc]))
      have k1 : ¬ 128 ≤ r := by omega
      exact ⟨_, congrArg (stW _ n) (by apply ws_ext <;> first | rfl | (simp [envG, envC, hL, k1, h3, h4]; done) | (have h7 : ¬ s.dc + 1 < L := (by omega); simp [envG, envC, hL, k1, h7, h4]; done))⟩

end Go.Proofs.YtmhplbgoahknbaaDoor
