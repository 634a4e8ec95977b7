/- A wave's methods. No law is claimed here. -/
import Derived.Test.YtmhplbgoahknbaaDoorWv6
import Derived.StillTailTactics
namespace Go.Proofs.YtmhplbgoahknbaaDoor
open Go.RowKit

/-- in the world v the block n is the wave s; else it is w, but for draws -/
def AtW (w : World) (n : Nat) (s : WS) (v : World) : Prop := ∃ q, v = stW (w.drewN q) n s
theorem AtW.cw {w v : World} {n : Nat} {s : WS} (hx : AtW w n s v) (h : n < w.heap.size) : CW v n s := by
  obtain ⟨q, rfl⟩ := hx
  exact stW_cw _ n s (by simpa using h)
theorem AtW.mk0 (w : World) (n : Nat) (s : WS) : AtW w n s (stW w n s) := ⟨0, rfl⟩
theorem AtW.drewN {w v : World} {n : Nat} {s : WS} (hx : AtW w n s v) (q : Nat) : AtW w n s (v.drewN q) := by
  obtain ⟨k, rfl⟩ := hx
  exact ⟨k + q, by rw [stW_drewN]; simp⟩
theorem AtW.drew {w v : World} {n : Nat} {s : WS} (hx : AtW w n s v) : AtW w n s v.drew := hx.drewN 1
theorem AtW.more {w : World} {n : Nat} {s : WS} {k : Nat} {v : World} (hx : AtW (w.drewN k) n s v) : AtW w n s v := by
  obtain ⟨q, rfl⟩ := hx
  exact ⟨k + q, by simp⟩
theorem AtW.set {w v v' : World} {n : Nat} {s s' : WS} {i : Nat} {x : Value} (hx : AtW w n s v) (hs : ∀ w, (stW w n s).setCell ⟨n, i, none⟩ x = stW w n s') (e : v.setCell ⟨n, i, none⟩ x = v') : AtW w n s' v' := by
  obtain ⟨q, rfl⟩ := hx
  exact ⟨q, by rw [← e, hs]⟩
theorem lt_dr {w : World} {n : Nat} (h : n < w.heap.size) (q : Nat) : n < (w.drewN q).heap.size := by simpa using h
/-- a contract over a wave's block, told for any world that holds the wave -/
theorem AtW.use {P : Program} {F : Nat} {args : Array Value} {w v : World} {n : Nat} {s : WS} {Q : Ending → World → Prop} (hx : AtW w n s v) (h : n < w.heap.size)
    (hc : ∀ w', n < w'.heap.size → (∃ q, w' = w.drewN q) → Calls P F args (stW w' n s) Q) : Calls P F args v Q := by
  obtain ⟨q, rfl⟩ := hx
  exact hc _ (lt_dr h q) ⟨q, rfl⟩

set_option maxRecDepth 100000 in
set_option maxHeartbeats 1000000 in
theorem wfade_any (w : World) (n : Nat) (s : WS) (h : n < w.heap.size) (ok : WOk s) :
    Calls Tryd.prog 23 #[.pointer (some ⟨n, 0, none⟩)] (stW w n s) fun e w' => e = .returned (.tuple #[]) ∧ AtW w n (fadeW s) w' := by
  have FH := whas_3_192 w n s h (ok.reg 3 (by decide))
  have hx := AtW.mk0 w n s
  by_cases h1 : 64 ≤ s.reg 3
  · have d1 : decide (64 ≤ s.reg 3) = true := by simp; omega
    rw [d1] at FH
    rw [show fadeW s = s from if_pos h1]
    generalize stW w n s = v at *
    go_enter Tryd.func23, Tryd.ntmps23
    go_wp2_with (go_at_call 35; refine FH.mono ?_; rintro e w' ⟨rfl, rfl⟩)
    (first | refine bodyPost_end (results_none rfl _ _ _) rfl ?_ | refine bodyPost_ret (results_none rfl _ _ _) rfl ?_)
    exact ⟨rfl, hx⟩
  · have d1 : decide (64 ≤ s.reg 3) = false := by simp; omega
    rw [d1] at FH
    rw [show fadeW s = depW (volW s) from if_neg h1]
    have cw := stW_cw w n s h
    have c1 := cw.reg 0 (by decide)
    have c2 := cw.reg 10 (by decide)
    clear cw d1
    have FV := fun w (h : n < w.heap.size) => weclk_v w n s (s.reg 0) (s.reg 10) h ok.vc ok.vs ok.vg (ok.reg 0 (by decide)) (ok.reg 10 (by decide))
    have ok2 := ok_vol ok
    have FD := fun w (h : n < w.heap.size) => weclk_d w n (volW s) (s.reg 4) (s.reg 10) h ok2.dc ok2.ds ok2.dg (ok.reg 4 (by decide)) (ok.reg 10 (by decide))
    generalize stW w n s = v at *
    go_enter Tryd.func23, Tryd.ntmps23
    go_upto_region 1 with (go_at_call 35; refine FH.mono ?_; rintro e w' ⟨rfl, rfl⟩)
    go_still_tail 13, (by kernel_rfl)
    go_upto_region 2 with (go_at_call 36; refine hx.drew.use h (fun w' hw' hq' => (FV w' hw').mono ?_); clear hx FV; rintro e v2 ⟨rfl, q2, hq2⟩; have hx : AtW w n (volW s) v2 := (by obtain ⟨q0, rfl⟩ := hq'; exact AtW.more ⟨q2, hq2⟩); clear hq2 hq' hw'; have cw := hx.cw h; have c3 := cw.reg 4 (by decide); have c4 := cw.reg 10 (by decide); clear cw)
    go_still_tail 13, (by kernel_rfl)
    go_wp2_with (go_at_call 36; refine hx.drew.use h (fun w' hw' hq' => (FD w' hw').mono ?_); clear hx FD; rintro e v2 ⟨rfl, q2, hq2⟩; have hx : AtW w n (depW (volW s)) v2 := (by obtain ⟨q0, rfl⟩ := hq'; exact AtW.more ⟨q2, hq2⟩); clear hq2 hq' hw')
    (first | refine bodyPost_end (results_none rfl _ _ _) rfl ?_ | refine bodyPost_ret (results_none rfl _ _ _) rfl ?_)
    exact ⟨rfl, hx⟩

theorem AtW.ret {w w' v : World} {n : Nat} {s : WS} {q : Nat} (hq : ∃ k, w' = w.drewN k) (e : v = stW (w'.drewN q) n s) : AtW w n s v := by
  obtain ⟨k, rfl⟩ := hq
  exact AtW.more ⟨q, e⟩
theorem AtW.mclk {w v : World} {n : Nat} {s : WS} (hx : AtW w n s v) (h : n < w.heap.size) (ok : WOk s) (p : Int) (hp : 0 ≤ p ∧ p < 65536) (hg : gc w) (h1n : 1 < n) :
    Calls Tryd.prog 37 #[.pointer (some ⟨n, 83, none⟩), .int .i64 p] v fun e v' => e = .returned (.tuple #[]) ∧ AtW w n (modT s p) v' :=
  hx.use h fun w' hw hq => (wmclk_any w' n s p hw ok hp (by obtain ⟨k, rfl⟩ := hq; exact hg.below (still_below _ _ _)) h1n).mono fun _ _ ⟨e, _, e2⟩ => ⟨e, AtW.ret hq e2⟩
theorem AtW.twelve6 {w v : World} {n : Nat} {s : WS} (hx : AtW w n s v) (h : n < w.heap.size) (ok : WOk s) :
    Calls Tryd.prog 38 #[.pointer (some ⟨n, 0, none⟩), .int .i64 6, .int .i64 7] v fun e v' => e = .returned (.int .i64 (s.reg 7 % 16 * 256 + s.reg 6)) ∧ ∃ q, v' = v.drewN q := by
  obtain ⟨q, rfl⟩ := hx
  exact wtwelve_6 _ n s (lt_dr h q) (ok.reg 7 (by decide)) (ok.reg 6 (by decide))
theorem AtW.twelve2 {w v : World} {n : Nat} {s : WS} (hx : AtW w n s v) (h : n < w.heap.size) (ok : WOk s) :
    Calls Tryd.prog 38 #[.pointer (some ⟨n, 0, none⟩), .int .i64 2, .int .i64 3] v fun e v' => e = .returned (.int .i64 (s.reg 3 % 16 * 256 + s.reg 2)) ∧ ∃ q, v' = v.drewN q := by
  obtain ⟨q, rfl⟩ := hx
  exact wtwelve_2 _ n s (lt_dr h q) (ok.reg 3 (by decide)) (ok.reg 2 (by decide))
theorem AtW.has7 {w v : World} {n : Nat} {s : WS} (hx : AtW w n s v) (h : n < w.heap.size) (ok : WOk s) :
    Calls Tryd.prog 35 #[.pointer (some ⟨n, 0, none⟩), .int .i64 7, .int .u8 128] v fun e v' => e = .returned (.bool (decide (128 ≤ s.reg 7))) ∧ v' = v := by
  obtain ⟨q, rfl⟩ := hx
  exact whas_7_128 _ n s (lt_dr h q) (ok.reg 7 (by decide))
theorem AtW.has3 {w v : World} {n : Nat} {s : WS} (hx : AtW w n s v) (h : n < w.heap.size) (ok : WOk s) :
    Calls Tryd.prog 35 #[.pointer (some ⟨n, 0, none⟩), .int .i64 3, .int .u8 128] v fun e v' => e = .returned (.bool (decide (128 ≤ s.reg 3))) ∧ v' = v := by
  obtain ⟨q, rfl⟩ := hx
  exact whas_3_128 _ n s (lt_dr h q) (ok.reg 3 (by decide))
theorem AtW.isHeld {w v : World} {n : Nat} {s : WS} (hx : AtW w n s v) (h : n < w.heap.size) (ok : WOk s) :
    Calls Tryd.prog 27 #[.pointer (some ⟨n, 0, none⟩)] v fun e v' => e = .returned (.bool (decide (128 ≤ s.reg 9))) ∧ v' = v := by
  obtain ⟨q, rfl⟩ := hx
  exact wheld_any _ n s (lt_dr h q) (ok.reg 9 (by decide))
theorem AtW.out {w v : World} {n : Nat} {s : WS} (hx : AtW w n s v) (h : n < w.heap.size) (ok : WOk s) (hg : gw w) (h1n : 0 < n) :
    Calls Tryd.prog 14 #[.pointer (some ⟨n, 0, none⟩)] v fun e v' => e = .returned (.int .i64 (outW s)) ∧ ∃ q, v' = v.drewN q := by
  obtain ⟨q, rfl⟩ := hx
  exact wout_any _ n s (lt_dr h q) ok (hg.below (still_below _ _ _)) h1n
theorem AtW.add {w v : World} {n : Nat} {s : WS} (hx : AtW w n s v) (h : n < w.heap.size) (ok : WOk s) (x : Int) (hp : 0 ≤ x ∧ x < 65536) :
    Calls Tryd.prog 39 #[.pointer (some ⟨n, 75, none⟩), .int .i64 x] v fun e v' => e = .returned (.bool (decide (65536 ≤ s.sum + x))) ∧ AtW w n { s with sum := addS s.sum x } v' :=
  hx.use h fun w' hw hq => (wadd_place w' n s x hw ok.sum hp).mono fun _ _ ⟨e, e2⟩ => ⟨e, AtW.ret (q := 0) hq e2⟩
theorem AtW.step {w v : World} {n : Nat} {s : WS} (hx : AtW w n s v) (h : n < w.heap.size) (bp : 0 ≤ s.pos ∧ s.pos < 64) :
    Calls Tryd.prog 40 #[.pointer (some ⟨n, 75, none⟩), .int .i64 1] v fun e v' => e = .returned (.tuple #[]) ∧ AtW w n { s with pos := (s.pos + 1) % 64 } v' :=
  hx.use h fun w' hw hq => (wstep_place w' n s hw bp).mono fun _ _ ⟨e, e2⟩ => ⟨e, AtW.ret (q := 0) hq e2⟩
theorem AtW.mstep {w v : World} {n : Nat} {s : WS} (hx : AtW w n s v) (h : n < w.heap.size) (bp : 0 ≤ s.mp ∧ s.mp < 64) :
    Calls Tryd.prog 40 #[.pointer (some ⟨n, 147, none⟩), .int .i64 1] v fun e v' => e = .returned (.tuple #[]) ∧ AtW w n { s with mp := (s.mp + 1) % 64 } v' :=
  hx.use h fun w' hw hq => (wstep_mplace w' n s hw bp).mono fun _ _ ⟨e, e2⟩ => ⟨e, AtW.ret (q := 0) hq e2⟩
theorem AtW.eput0 {w v : World} {n : Nat} {s : WS} (hx : AtW w n s v) (h : n < w.heap.size) (b : Int) (hb : 0 ≤ b ∧ b < 256) :
    Calls Tryd.prog 41 #[.pointer (some ⟨n, 77, none⟩), .int .u8 b] v fun e v' => e = .returned (.tuple #[]) ∧ AtW w n (evW s b) v' :=
  hx.use h fun w' hw hq => (weput_v w' n s b hw hb).mono fun _ _ ⟨e, e2⟩ => ⟨e, AtW.ret (q := 0) hq e2⟩
theorem AtW.eput4 {w v : World} {n : Nat} {s : WS} (hx : AtW w n s v) (h : n < w.heap.size) (b : Int) (hb : 0 ≤ b ∧ b < 256) :
    Calls Tryd.prog 41 #[.pointer (some ⟨n, 80, none⟩), .int .u8 b] v fun e v' => e = .returned (.tuple #[]) ∧ AtW w n (edW s b) v' :=
  hx.use h fun w' hw hq => (weput_d w' n s b hw hb).mono fun _ _ ⟨e, e2⟩ => ⟨e, AtW.ret (q := 0) hq e2⟩

set_option maxRecDepth 100000 in
set_option maxHeartbeats 1000000 in
theorem AtW.mod {w v : World} {n : Nat} {s : WS} (hx : AtW w n s v) (h : n < w.heap.size) (ok : WOk s) (hg : gc w) (h1n : 1 < n) :
    Calls Tryd.prog 24 #[.pointer (some ⟨n, 0, none⟩)] v fun e v' => e = .returned (.tuple #[]) ∧ AtW w n (modW s) v' := by
  have FH := hx.has7 h ok
  have b1 := ok.reg 6 (by decide)
  have b2 := ok.reg 7 (by decide)
  by_cases h1 : 128 ≤ s.reg 7
  · have d1 : decide (128 ≤ s.reg 7) = true := by simp; omega
    rw [d1] at FH
    rw [show modW s = s from if_pos h1]
    go_enter Tryd.func24, Tryd.ntmps24
    go_wp2_with (go_at_call 35; refine FH.mono ?_; rintro e w' ⟨rfl, rfl⟩)
    (first | refine bodyPost_end (results_none rfl _ _ _) rfl ?_ | refine bodyPost_ret (results_none rfl _ _ _) rfl ?_)
    exact ⟨rfl, hx⟩
  · have d1 : decide (128 ≤ s.reg 7) = false := by simp; omega
    rw [d1] at FH
    rw [show modW s = modT s (s.reg 7 % 16 * 256 + s.reg 6) from if_neg h1]
    have FM := fun v (hx : AtW w n s v) => hx.mclk h ok (s.reg 7 % 16 * 256 + s.reg 6) (by omega) hg h1n
    have F12 := fun v (hx : AtW w n s v) => hx.twelve6 h ok
    clear d1
    generalize s.reg 7 % 16 * 256 + s.reg 6 = P at *
    go_enter Tryd.func24, Tryd.ntmps24
    go_upto_region 1 with (go_at_call 35; refine FH.mono ?_; rintro e w' ⟨rfl, rfl⟩)
    go_region_with (first
      | (go_at_call 38; refine (F12 _ hx.drew).mono ?_; rintro e w' ⟨rfl, q, rfl⟩)
      | (go_at_call 37; refine (FM _ (hx.drewN _)).mono ?_; rintro e w' ⟨rfl, hx2⟩))
    all_goals
      go_wp2
      (first | refine bodyPost_end (results_none rfl _ _ _) rfl ?_ | refine bodyPost_ret (results_none rfl _ _ _) rfl ?_)
      exact ⟨rfl, hx2⟩

set_option maxRecDepth 100000 in
set_option maxHeartbeats 1000000 in
theorem AtW.adv {w v : World} {n : Nat} {s : WS} (hx : AtW w n s v) (h : n < w.heap.size) (ok : WOk s) :
    Calls Tryd.prog 25 #[.pointer (some ⟨n, 0, none⟩)] v fun e v' => e = .returned (.tuple #[]) ∧ AtW w n (advW s) v' := by
  have FH := hx.has3 h ok
  by_cases h1 : 128 ≤ s.reg 3
  · have d1 : decide (128 ≤ s.reg 3) = true := by simp; omega
    rw [d1] at FH
    rw [show advW s = s from if_pos h1]
    go_enter Tryd.func25, Tryd.ntmps25
    go_wp2_with (go_at_call 35; refine FH.mono ?_; rintro e w' ⟨rfl, rfl⟩)
    (first | refine bodyPost_end (results_none rfl _ _ _) rfl ?_ | refine bodyPost_ret (results_none rfl _ _ _) rfl ?_)
    exact ⟨rfl, hx⟩
  · have d1 : decide (128 ≤ s.reg 3) = false := by simp; omega
    rw [d1] at FH
    have hA : advW s = advT s (pitW (s.reg 3 % 16 * 256 + s.reg 2) s.mc s.dg) := if_neg h1
    rw [hA]
    have bP := pit_b ok
    have FP := fun w => wpitch_any (s.reg 3 % 16 * 256 + s.reg 2) s.mc s.dg w
    have F12 := hx.twelve2 h ok
    generalize s.reg 3 % 16 * 256 + s.reg 2 = P at *
    generalize pitW P s.mc s.dg = p at *
    clear d1 hA
    have FA := fun v (hx : AtW w n s v) => hx.add h ok p bP
    have bp := ok.pos
    have bd := ok.dg
    have yd : IntKind.i64.wrap s.dg = s.dg := IntWalk.i64_in _ ⟨by omega, by omega⟩
    have FS := fun v (hx : AtW w n { s with sum := addS s.sum p } v) => hx.step h bp
    by_cases h2 : s.sum + p < 65536
    · have d2 : decide (65536 ≤ s.sum + p) = false := by simp; omega
      rw [d2] at FA
      have hE : advT s p = { s with sum := addS s.sum p } := by unfold advT addS; rw [if_pos h2, if_pos h2]
      rw [hE]
      clear hE d2
      go_enter Tryd.func25, Tryd.ntmps25
      go_upto_region 2 with (first
        | (go_at_call 35; refine FH.mono ?_; rintro e w' ⟨rfl, rfl⟩)
        | (go_at_call 38; refine F12.mono ?_; rintro e w' ⟨rfl, q, rfl⟩; replace hx := hx.drewN q))
      generalize World.drewN _ _ = v at *
      have cw := hx.cw h
      have c1 := cw.mc
      have c2 := cw.dg
      clear cw
      refine wp_region_still_tail 16 (by kernel_rfl) (by kernel_rfl) ?_
      simp only [List.take_succ_cons, List.take_zero, List.drop_succ_cons, List.drop_zero]
      repeat (first | still_step | still_call (FP _))
      refine wpStill_nil ?_
      change wpList _ _ _ _ _ v.drew
      go_wp2_with (go_at_call 39; refine (FA _ hx.drew).mono ?_; rintro e w' ⟨rfl, hx2⟩)
      (first | refine bodyPost_end (results_none rfl _ _ _) rfl ?_ | refine bodyPost_ret (results_none rfl _ _ _) rfl ?_)
      exact ⟨rfl, hx2⟩
    · have d2 : decide (65536 ≤ s.sum + p) = true := by simp; omega
      rw [d2] at FA
      have hE : advT s p = { s with sum := addS s.sum p, pos := (s.pos + 1) % 64 } := by unfold advT addS; rw [if_neg h2, if_neg h2]
      rw [hE]
      clear hE d2
      go_enter Tryd.func25, Tryd.ntmps25
      go_upto_region 2 with (first
        | (go_at_call 35; refine FH.mono ?_; rintro e w' ⟨rfl, rfl⟩)
        | (go_at_call 38; refine F12.mono ?_; rintro e w' ⟨rfl, q, rfl⟩; replace hx := hx.drewN q))
      generalize World.drewN _ _ = v at *
      have cw := hx.cw h
      have c1 := cw.mc
      have c2 := cw.dg
      clear cw
      refine wp_region_still_tail 16 (by kernel_rfl) (by kernel_rfl) ?_
      simp only [List.take_succ_cons, List.take_zero, List.drop_succ_cons, List.drop_zero]
      repeat (first | still_step | still_call (FP _))
      refine wpStill_nil ?_
      change wpList _ _ _ _ _ v.drew
      go_wp2_with (first
        | (go_at_call 39; refine (FA _ hx.drew).mono ?_; rintro e w' ⟨rfl, hx2⟩)
        | (go_at_call 40; refine (FS _ hx2).mono ?_; rintro e w' ⟨rfl, hx3⟩))
      (first | refine bodyPost_end (results_none rfl _ _ _) rfl ?_ | refine bodyPost_ret (results_none rfl _ _ _) rfl ?_)
      exact ⟨rfl, hx3⟩

theorem AtW.fade {w v : World} {n : Nat} {s : WS} (hx : AtW w n s v) (h : n < w.heap.size) (ok : WOk s) :
    Calls Tryd.prog 23 #[.pointer (some ⟨n, 0, none⟩)] v fun e v' => e = .returned (.tuple #[]) ∧ AtW w n (fadeW s) v' :=
  hx.use h fun w' hw hq => (wfade_any w' n s hw ok).mono fun _ _ ⟨e, _, e2⟩ => ⟨e, AtW.ret hq e2⟩

set_option maxRecDepth 100000 in
set_option maxHeartbeats 1000000 in
theorem AtW.clock {w v : World} {n : Nat} {s : WS} (hx : AtW w n s v) (h : n < w.heap.size) (ok : WOk s) (hg : gc w) (h1n : 1 < n) :
    Calls Tryd.prog 12 #[.pointer (some ⟨n, 0, none⟩)] v fun e v' => e = .returned (.tuple #[]) ∧ AtW w n (clockW s) v' := by
  have FF := hx.fade h ok
  have ok1 := ok_fade ok
  unfold clockW
  generalize fadeW s = t at *
  have b1 := ok1.cyc
  have ok2 := ok_cyc ok1
  have ok3 := ok_mod ok2
  have y1 : (t.cyc + 1).tmod 16 = (t.cyc + 1) % 16 := Int.tmod_eq_emod_of_nonneg (by omega)
  have FM := fun v (hx : AtW w n { t with cyc := (t.cyc + 1) % 16 } v) => hx.mod h ok2 hg h1n
  have FA := fun v (hx : AtW w n (modW { t with cyc := (t.cyc + 1) % 16 }) v) => hx.adv h ok3
  have hset : ∀ v, AtW w n t v → AtW w n { t with cyc := (t.cyc + 1) % 16 } (v.setCell ⟨n, 150, none⟩ (.int .i64 ((t.cyc + 1) % 16))) := fun v hv => hv.set (fun w => sw_cyc w n t _) rfl
  obtain ⟨C, hC⟩ : ∃ C, (t.cyc + 1) % 16 = C := ⟨_, rfl⟩
  have bC : 0 ≤ C ∧ C < 16 := by omega
  unfold tickW
  simp only [hC] at ok2 ok3 FM FA hset y1 ⊢
  rcases (by omega : C = 0 ∨ C ≠ 0) with h1 | h1
  · rw [if_pos h1]
    have h2 : (C == 0) = true := by rw [beq_iff_eq]; exact h1
    clear h1
    go_enter Tryd.func12, Tryd.ntmps12
    go_wp2_with (first
      | (go_at_call 23; refine FF.mono ?_; rintro e w' ⟨rfl, hx2⟩; have cw := hx2.cw h; have c1 := cw.cyc; have fz := cw.fz; clear cw)
      | (go_at_call 24; refine (FM _ (hset _ hx2)).mono ?_; rintro e w' ⟨rfl, hx3⟩)
      | (go_at_call 25; refine (FA _ hx3).mono ?_; rintro e w' ⟨rfl, hx4⟩))
    (first | refine bodyPost_end (results_none rfl _ _ _) rfl ?_ | refine bodyPost_ret (results_none rfl _ _ _) rfl ?_)
    exact ⟨rfl, hx4⟩
  · rw [if_neg h1]
    have h2 : (C == 0) = false := by rw [beq_eq_false_iff_ne]; exact h1
    clear h1
    go_enter Tryd.func12, Tryd.ntmps12
    go_wp2_with (go_at_call 23; refine FF.mono ?_; rintro e w' ⟨rfl, hx2⟩; have cw := hx2.cw h; have c1 := cw.cyc; have fz := cw.fz; clear cw)
    (first | refine bodyPost_end (results_none rfl _ _ _) rfl ?_ | refine bodyPost_ret (results_none rfl _ _ _) rfl ?_)
    exact ⟨rfl, hset _ hx2⟩

end Go.Proofs.YtmhplbgoahknbaaDoor
