/- A wave's methods. No law is claimed here. -/
import Derived.Test.YtmhplbgoahknbaaDoorWv5
import Derived.StillTailTactics
namespace Go.Proofs.YtmhplbgoahknbaaDoor
open Go.RowKit

set_option maxRecDepth 100000 in
set_option maxHeartbeats 1000000 in
theorem wout_any (w : World) (n : Nat) (s : WS) (h : n < w.heap.size) (ok : WOk s) (hg : gw w) (h1n : 0 < n) :
    Calls Tryd.prog 14 #[.pointer (some ⟨n, 0, none⟩)] (stW w n s) fun e w' => e = .returned (.int .i64 (outW s)) ∧ ∃ q, w' = (stW w n s).drewN q := by
  have cw := stW_cw w n s h
  have c1 := cw.reg 9 (by decide)
  have c2 := cw.held
  have c3 := cw.pos
  have c4 := cw.vg
  have br := ok.reg 9 (by decide)
  have bp := ok.pos
  have bv := ok.vg
  have z1 := m3 (s.reg 9) br
  have F0 := wheld_any w n s h br
  obtain ⟨j, hj⟩ := natOf s.pos bp.1
  have j1 : j < 64 := by omega
  have j2 : (j : Int) < 64 := by omega
  obtain ⟨k, hk⟩ := natOf (s.reg 9 % 4) (by omega)
  have k1 : k < 4 := by omega
  have k2 : (k : Int) < 4 := by omega
  have c5 := cw.tab j j1
  have c6 : (stW w n s).cell? ⟨0, k, none⟩ = some (.int .i64 (at1 wgtL (s.reg 9 % 4))) := by
    have := hg.wgt k k1
    unfold stW; rw [rowT_cellFar _ _ _ _ _ (by show 0 ≠ n; omega), this, hk]
  rw [hj] at c3
  have bt := ok.tab j j1
  have bw := wgt_b (s.reg 9 % 4) (by omega)
  have bm := mul3 (s.tab j) (min s.vg 32) (at1 wgtL (s.reg 9 % 4)) bt (by omega) bw
  obtain ⟨R, hR⟩ : ∃ R, outW s = R := ⟨_, rfl⟩
  have hR2 := hR
  unfold outW at hR2
  rw [hj, Int.toNat_natCast] at hR2
  clear cw hj
  rw [hR]
  generalize at1 wgtL (s.reg 9 % 4) = K at *
  generalize s.tab j = T at *
  generalize hv : stW w n s = v at *
  rcases (by omega : 128 ≤ s.reg 9 ∨ s.reg 9 < 128) with h1 | h1
  · have d1 : decide (128 ≤ s.reg 9) = true := by simp; omega
    rw [d1] at F0
    rw [if_pos h1] at hR2
    clear z1 c3 c5 c6 bm
    go_enter Tryd.func14, Tryd.ntmps14
    go_wp2_with (go_at_call 27; refine F0.mono ?_; rintro e w' ⟨rfl, rfl⟩)
    go_ret
    exact ⟨by first | rfl | (rw [hR2]; rfl), 0, rfl⟩
  · have d1 : decide (128 ≤ s.reg 9) = false := by simp; omega
    rw [d1] at F0
    rw [if_neg (by omega)] at hR2
    clear c2 h1 d1
    obtain ⟨G, hG⟩ : ∃ G, min s.vg 32 = G := ⟨_, rfl⟩
    rw [hG] at bm hR2
    obtain ⟨X, hX⟩ : ∃ X, T * G = X := ⟨_, rfl⟩
    rw [hX] at bm hR2
    obtain ⟨Y, hY⟩ : ∃ Y, X * K = Y := ⟨_, rfl⟩
    rw [hY] at bm hR2
    subst hR2
    have y1 : wrap64 X = X := IntWalk.wrap64_in _ ⟨by omega, by omega⟩
    have y2 : wrap64 Y = Y := IntWalk.wrap64_in _ ⟨by omega, by omega⟩
    rcases (by omega : s.vg ≤ 32 ∨ 32 < s.vg) with h2 | h2
    all_goals
      first
        | (have e2 : G = s.vg := (by omega); rw [e2] at hX; clear hG e2)
        | (have e2 : G = 32 := (by omega); rw [e2] at hX; clear hG e2)
      go_enter Tryd.func14, Tryd.ntmps14
      go_upto_region 5 with (go_at_call 27; refine F0.mono ?_; rintro e w' ⟨rfl, rfl⟩)
      go_quiet (fail)
      go_wp2
      all_goals
        go_ret
        refine ⟨by first | rfl | (simp [hX, y1, hY, y2]; done), ?_⟩
        (repeat (first | refine dr_n ?_ _ | refine dr_1 ?_)); exact dr_0 _

set_option maxRecDepth 100000 in
set_option maxHeartbeats 1000000 in
theorem wmclk_any (w : World) (n : Nat) (s : WS) (p : Int) (h : n < w.heap.size) (ok : WOk s) (hp : 0 ≤ p ∧ p < 65536) (hg : gc w) (h1n : 1 < n) :
    Calls Tryd.prog 37 #[.pointer (some ⟨n, 83, none⟩), .int .i64 p] (stW w n s) fun e w' => e = .returned (.tuple #[]) ∧ ∃ q, w' = stW (w.drewN q) n (modT s p) := by
  have b1 := ok.ms
  have b2 := ok.mp
  have b3 := ok.mc
  have FA := wadd_mplace w n s p h b1 hp
  by_cases h1 : s.ms + p < 65536
  · have d1 : decide (65536 ≤ s.ms + p) = false := by simp; omega
    have hE : modT s p = { s with ms := addS s.ms p } := by unfold modT addS; rw [if_pos h1, if_pos h1]
    rw [d1] at FA
    rw [hE]
    generalize hv1 : stW w n { s with ms := addS s.ms p } = v1 at *
    go_enter Tryd.func37, Tryd.ntmps37
    go_wp2_with (go_at_call 39; refine FA.mono ?_; rintro e w' ⟨rfl, rfl⟩)
    (first | refine bodyPost_end (results_none rfl _ _ _) rfl ?_ | refine bodyPost_ret (results_none rfl _ _ _) rfl ?_)
    exact ⟨rfl, 0, hv1.symm⟩
  · have d1 : decide (65536 ≤ s.ms + p) = true := by simp; omega
    rw [d1] at FA
    have b4 := ok.mt s.mp.toNat (by omega)
    have b5 := chg_b _ b4
    obtain ⟨j, hj⟩ := natOf s.mp b2.1
    have j1 : j < 64 := by omega
    have j2 : (j : Int) < 64 := by omega
    have hjt : s.mp.toNat = j := by omega
    obtain ⟨t, ht⟩ := natOf (s.mt s.mp.toNat) b4.1
    have t1 : t < 8 := by omega
    have t2 : (t : Int) < 8 := by omega
    obtain ⟨s1, hs1⟩ : ∃ s1 : WS, { s with ms := addS s.ms p } = s1 := ⟨_, rfl⟩
    have cw := stW_cw w n s1 h
    have e1 := cw.mp
    have e2 := cw.mt j j1
    have e3 := cw.mc
    have fz := cw.fz
    have e4 : (stW w n s1).cell? ⟨1, t, none⟩ = some (.int .i64 (at1 chgL (s.mt s.mp.toNat))) := by
      have := hg.chg t t1
      unfold stW; rw [rowT_cellFar _ _ _ _ _ (by show 1 ≠ n; omega), this, ht]
    rw [show s1.mp = s.mp by rw [← hs1], hj] at e1
    rw [show s1.mt = s.mt by rw [← hs1], ← hjt, ht] at e2
    rw [hjt] at e2
    rw [show s1.mc = s.mc by rw [← hs1]] at e3
    clear cw
    rw [hs1] at FA
    obtain ⟨C, hC⟩ : ∃ C, at1 chgL (s.mt s.mp.toNat) = C := ⟨_, rfl⟩
    rw [hC] at e4 b5
    have y1 : IntKind.i64.wrap (s.mc + C) = s.mc + C := IntWalk.i64_in _ ⟨by omega, by omega⟩
    obtain ⟨M, hM⟩ : ∃ M, (if s.mt s.mp.toNat = 4 then 0 else sgnW (s.mc + C)) = M := ⟨_, rfl⟩
    have hE : modT s p = { s1 with mc := M, mp := (s1.mp + 1) % 64 } := by
      rw [← hs1, ← hM, ← hC]; unfold modT addS; rw [if_neg h1, if_neg h1]
    rw [hE]
    have FS := fun w => wstep_mplace w n { s1 with mc := M }
    have b2' : 0 ≤ s1.mp ∧ s1.mp < 64 := by rw [← hs1]; exact b2
    have FG := fun w => wsigned_any (s.mc + C) w ⟨by omega, by omega⟩
    rw [ht] at hM
    clear ht hC hE hs1 d1 hjt
    generalize hv : stW w n s1 = v at *
    rcases (by omega : t = 4 ∨ t ≠ 4) with h4 | h4
    · have h5 : ((t : Int) == 4) = true := by rw [beq_iff_eq]; omega
      rw [if_pos (by omega)] at hM
      subst hM
      clear h4
      go_enter Tryd.func37, Tryd.ntmps37
      go_upto_region 1 with (go_at_call 39; refine FA.mono ?_; rintro e w' ⟨rfl, rfl⟩)
      go_quiet (fail)
      go_wp2_with (go_at_call 40; subst hv; (repeat (first | rw [stW_drewN] | rw [stW_drew] | rw [sw_sum] | rw [sw_pos] | rw [sw_vg] | rw [sw_vs] | rw [sw_vc] | rw [sw_dg] | rw [sw_ds] | rw [sw_dc] | rw [sw_ms] | rw [sw_mp] | rw [sw_mc] | rw [sw_cyc] | rw [sw_held])); refine (FS _ (by simpa using h) b2').mono ?_; rintro e w' ⟨rfl, rfl⟩)
      (first | refine bodyPost_end (results_none rfl _ _ _) rfl ?_ | refine bodyPost_ret (results_none rfl _ _ _) rfl ?_)
      exact ⟨rfl, _, rfl⟩
    · have h5 : ((t : Int) == 4) = false := by rw [beq_eq_false_iff_ne]; omega
      rw [if_neg (by omega)] at hM
      rw [hM] at FG
      clear hM h4
      go_enter Tryd.func37, Tryd.ntmps37
      go_upto_region 1 with (go_at_call 39; refine FA.mono ?_; rintro e w' ⟨rfl, rfl⟩)
      go_quiet (fail)
      go_upto_region 4 with (fail)
      generalize hu : World.drewN _ _ = u
      have u1 : u.cell? ⟨n, 149, none⟩ = some (.int .i64 s.mc) := by rw [← hu]; simpa using e3
      have u2 : u.cell? ⟨1, t, none⟩ = some (.int .i64 C) := by rw [← hu]; simpa using e4
      have u3 : ∀ i, u.frozen? ⟨n, i, none⟩ = false := by intro i; rw [← hu]; simpa using fz i
      clear e1 e2 e3 e4 fz
      refine wp_region_still_tail 12 (by kernel_rfl) (by kernel_rfl) ?_
      simp only [List.take_succ_cons, List.take_zero, List.drop_succ_cons, List.drop_zero]
      repeat (first | still_step | still_call (FG _))
      refine wpStill_nil ?_
      change wpList _ _ _ _ _ u.drew
      go_wp2_with (go_at_call 40; subst hu; subst hv; (repeat (first | rw [stW_drewN] | rw [stW_drew] | rw [sw_sum] | rw [sw_pos] | rw [sw_vg] | rw [sw_vs] | rw [sw_vc] | rw [sw_dg] | rw [sw_ds] | rw [sw_dc] | rw [sw_ms] | rw [sw_mp] | rw [sw_mc] | rw [sw_cyc] | rw [sw_held])); refine (FS _ (by simpa using h) b2').mono ?_; rintro e w' ⟨rfl, rfl⟩)
      (first | refine bodyPost_end (results_none rfl _ _ _) rfl ?_ | refine bodyPost_ret (results_none rfl _ _ _) rfl ?_)
      exact ⟨rfl, nq + 1, rfl⟩

end Go.Proofs.YtmhplbgoahknbaaDoor
