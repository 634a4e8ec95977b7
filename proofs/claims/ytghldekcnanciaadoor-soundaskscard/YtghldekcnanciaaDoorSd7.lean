/- A sound unit's methods. No law is claimed here. -/
import Derived.Test.YtghldekcnanciaaDoorSd6
import Derived.Deep.QuietTactic
import Derived.BigQuiet
namespace Go.Proofs.YtghldekcnanciaaDoor
open Go.RowKit

theorem outT_b {s : TS} (ok : TOk s) : 0 ≤ outT s ∧ outT s ≤ 15 := by
  have h1 := ok.stp
  have h2 : 0 ≤ volT s ∧ volT s ≤ 15 := by
    have := ok.lev
    unfold volT; split <;> omega
  unfold outT
  (repeat' split) <;> omega
/-- what a unit puts out -/
def outS (s : SS) (σ : Nat → TS) : Int := 752 * (outT (σ 0) + outT (σ 1)) + 851 * outT (σ 2) + 494 * outT (σ 3) + 335 * s.lev

variable {B : Bool} {w0 v : World} {n : Nat} {p : Nat → Nat} {s : SS} {σ : Nat → TS}
theorem outS_b (h : SW B w0 n p s σ v) : 0 ≤ outS s σ ∧ outS s σ ≤ 752 * 30 + 851 * 15 + 494 * 15 + 335 * 127 := by
  have h0 := outT_b (h.tok 0 (by decide))
  have h1 := outT_b (h.tok 1 (by decide))
  have h2 := outT_b (h.tok 2 (by decide))
  have h3 := outT_b (h.tok 3 (by decide))
  have h4 := h.ok.lev
  unfold outS
  omega

set_option maxRecDepth 100000 in
set_option maxHeartbeats 1000000 in
theorem SW.out_0 (h : SW B w0 n p s σ v) :
    Calls Tryd.prog 50 #[.pointer (some ⟨n, 0, none⟩), .int .i64 0] v fun e w' => e = .returned (.int .i64 (outT (σ 0))) ∧ ∃ q, w' = v.drewN q := by
  have F := h.tout 0 (by decide)
  have c := h.cs.t0
  have hb := outT_b (h.tok 0 (by decide))
  clear h
  generalize outT (σ 0) = x at *
  go_enter Tryd.func50, Tryd.ntmps50
  go_wp2_with (go_at_call 75; refine F.mono ?_; clear F; rintro e w1 ⟨rfl, q, rfl⟩)
  go_ret
  exact ⟨rfl, q, rfl⟩

set_option maxRecDepth 100000 in
set_option maxHeartbeats 1000000 in
theorem SW.out_1 (h : SW B w0 n p s σ v) :
    Calls Tryd.prog 50 #[.pointer (some ⟨n, 0, none⟩), .int .i64 1] v fun e w' => e = .returned (.int .i64 (outT (σ 1))) ∧ ∃ q, w' = v.drewN q := by
  have F := h.tout 1 (by decide)
  have c := h.cs.t1
  have hb := outT_b (h.tok 1 (by decide))
  clear h
  generalize outT (σ 1) = x at *
  go_enter Tryd.func50, Tryd.ntmps50
  go_wp2_with (go_at_call 75; refine F.mono ?_; clear F; rintro e w1 ⟨rfl, q, rfl⟩)
  go_ret
  exact ⟨rfl, q, rfl⟩

set_option maxRecDepth 100000 in
set_option maxHeartbeats 1000000 in
theorem SW.out_2 (h : SW B w0 n p s σ v) :
    Calls Tryd.prog 50 #[.pointer (some ⟨n, 0, none⟩), .int .i64 2] v fun e w' => e = .returned (.int .i64 (outT (σ 2))) ∧ ∃ q, w' = v.drewN q := by
  have F := h.tout 2 (by decide)
  have c := h.cs.t2
  have hb := outT_b (h.tok 2 (by decide))
  clear h
  generalize outT (σ 2) = x at *
  go_enter Tryd.func50, Tryd.ntmps50
  go_wp2_with (go_at_call 75; refine F.mono ?_; clear F; rintro e w1 ⟨rfl, q, rfl⟩)
  go_ret
  exact ⟨rfl, q, rfl⟩

set_option maxRecDepth 100000 in
set_option maxHeartbeats 1000000 in
theorem SW.out_3 (h : SW B w0 n p s σ v) :
    Calls Tryd.prog 50 #[.pointer (some ⟨n, 0, none⟩), .int .i64 3] v fun e w' => e = .returned (.int .i64 (outT (σ 3))) ∧ ∃ q, w' = v.drewN q := by
  have F := h.tout 3 (by decide)
  have c := h.cs.t3
  have hb := outT_b (h.tok 3 (by decide))
  clear h
  generalize outT (σ 3) = x at *
  go_enter Tryd.func50, Tryd.ntmps50
  go_wp2_with (go_at_call 75; refine F.mono ?_; clear F; rintro e w1 ⟨rfl, q, rfl⟩)
  go_ret
  exact ⟨rfl, q, rfl⟩

set_option maxRecDepth 100000 in
set_option maxHeartbeats 2000000 in
theorem SW.Out (h : SW B w0 n p s σ v) :
    Calls Tryd.prog 20 #[.pointer (some ⟨n, 0, none⟩)] v fun e w' => e = .returned (.int .i64 (outS s σ)) ∧ ∃ q, w' = v.drewN q := by
  have F0 := fun q => (h.drewN q).out_0
  have F1 := fun q => (h.drewN q).out_1
  have F2 := fun z (hz : SW B w0 n p s σ z) q => (hz.drewN q).out_2
  have F3 := fun z (hz : SW B w0 n p s σ z) q => (hz.drewN q).out_3
  have CL := fun z (hz : SW B w0 n p s σ z) => hz.cs.lev
  have b0 := outT_b (h.tok 0 (by decide))
  have b1 := outT_b (h.tok 1 (by decide))
  have b2 := outT_b (h.tok 2 (by decide))
  have b3 := outT_b (h.tok 3 (by decide))
  have b4 := h.ok.lev
  have F00 := h.out_0
  unfold outS
  generalize outT (σ 0) = x0 at *
  generalize outT (σ 1) = x1 at *
  generalize outT (σ 2) = x2 at *
  generalize outT (σ 3) = x3 at *
  generalize s.lev = x4 at *
  go_enter Tryd.func20, Tryd.ntmps20
  go_upto_region 4 with (first
    | (go_at_call_of 50 (Value.int IntKind.i64 0); refine F00.mono ?_; rintro e w1 ⟨rfl, q0, rfl⟩)
    | (go_at_call_of 50 (Value.int IntKind.i64 1); refine (F1 _).mono ?_; rintro e w1 ⟨rfl, q1, rfl⟩))
  generalize hz : World.drewN _ _ = z
  have hz' : SW B w0 n p s σ z := by rw [← hz]; first | exact h.drewN _ | exact (h.drewN _).drewN _
  have G2 := F2 z hz'
  have G3 := F3 z hz'
  have cl := CL z hz'
  clear h F00 F0 F1 F2 F3 CL hz'
  go_quiet (first
    | (go_at_call_of 50 (Value.int IntKind.i64 2); exact Calls.quiet_of (G2 _))
    | (go_at_call_of 50 (Value.int IntKind.i64 3); exact Calls.quiet_of (G3 _)))
  go_wp2
  go_ret
  refine ⟨rfl, ?_⟩
  rw [← hz]
  exact ⟨_, World.drewN_drewN _ _ _⟩

set_option maxRecDepth 100000 in
set_option maxHeartbeats 1000000 in
theorem SW.IRQ (h : SW B w0 n p s σ v) :
    Calls Tryd.prog 19 #[.pointer (some ⟨n, 0, none⟩)] v fun e w' => e = .returned (.bool (s.frq || s.req)) ∧ w' = v := by
  have c1 := h.cs.frq
  have c2 := h.cs.req
  clear h
  generalize s.frq = x at *
  generalize s.req = y at *
  cases x <;> cases y
  all_goals
    go_enter Tryd.func19, Tryd.ntmps19
    go_wp2
    go_ret
    exact ⟨rfl, rfl⟩
set_option maxRecDepth 100000 in
set_option maxHeartbeats 1000000 in
theorem SW.Asks (h : SW B w0 n p s σ v) :
    Calls Tryd.prog 24 #[.pointer (some ⟨n, 0, none⟩)] v fun e w' => e = .returned (.tuple #[.int .u16 (if askS s then s.adr else 0), .bool (askS s)]) ∧ w' = v := by
  have c1 := h.cs.adr
  have F := h.ask
  clear h
  rcases Bool.eq_false_or_eq_true (askS s) with e | e <;> rw [e] at F <;> simp only [e]
  all_goals
    go_enter Tryd.func24, Tryd.ntmps24
    go_wp2_with (go_at_call 53; refine F.mono ?_; clear F; rintro e w1 ⟨rfl, rfl⟩)
    go_ret2
    exact ⟨rfl, rfl⟩
set_option maxRecDepth 100000 in
set_option maxHeartbeats 1000000 in
theorem SW.Give (h : SW B w0 n p s σ v) (b : Int) (hb : 0 ≤ b ∧ b < 256) :
    Calls Tryd.prog 25 #[.pointer (some ⟨n, 0, none⟩), .int .u8 b] v fun e w' => e = .returned (.tuple #[]) ∧ SW B w0 n p (if askS s then givS s b else s) σ w' := by
  have F := h.ask
  rcases Bool.eq_false_or_eq_true (askS s) with e | e
  · have hr : 0 < s.rem := by have e' := e; unfold askS at e'; simp at e'; exact e'.2
    have FG := h.giv b hb hr
    rw [e] at F
    simp only [e]
    clear h
    go_enter Tryd.func25, Tryd.ntmps25
    go_wp2_with (first
      | (go_at_call 53; refine F.mono ?_; clear F; rintro e w1 ⟨rfl, rfl⟩)
      | (go_at_call 54; refine FG.mono ?_; clear FG; rintro e w1 ⟨rfl, hT⟩))
    (first | refine bodyPost_end (results_none rfl _ _ _) rfl ?_ | refine bodyPost_ret (results_none rfl _ _ _) rfl ?_)
    exact ⟨rfl, hT⟩
  · rw [e] at F
    simp only [e]
    have h' := h
    clear h
    go_enter Tryd.func25, Tryd.ntmps25
    go_wp2_with (go_at_call 53; refine F.mono ?_; clear F; rintro e w1 ⟨rfl, rfl⟩)
    (first | refine bodyPost_end (results_none rfl _ _ _) rfl ?_ | refine bodyPost_ret (results_none rfl _ _ _) rfl ?_)
    exact ⟨rfl, h'⟩


theorem hlf_qua (s : SS) (h : hlfB s = true) : quaB s = true := by
  unfold hlfB at h; unfold quaB
  simp only [Bool.or_eq_true] at h ⊢
  rcases h with h | h
  · exact .inl (.inr h)
  · exact .inr h
def qT (b : Bool) (σ : Nat → TS) : Nat → TS := if b then stpT (fun _ => quaT) σ 4 else σ
def hT (b : Bool) (σ : Nat → TS) : Nat → TS := if b then stpT (fun _ => halfT) σ 4 else σ
def onT (k : Nat) (σ : Nat → TS) : Nat → TS := updT σ k (clockT (σ k))
def oT (b : Bool) (σ : Nat → TS) : Nat → TS := if b then onT 1 (onT 0 σ) else σ
/-- a cycle, as numbers -/
def clkT (s : SS) (σ : Nat → TS) : Nat → TS := oT s.odd (onT 3 (onT 2 (hT (hlfB s) (qT (quaB s) σ))))
def clkS (s : SS) : SS := smpS { frcS s with odd := !s.odd }

set_option maxRecDepth 100000 in
set_option maxHeartbeats 2000000 in
theorem SW.clock_000 (h : SW true w0 n p s σ v) (e1 : quaB s = false) (e2 : hlfB s = false) (e3 : s.odd = false) :
    Calls Tryd.prog 17 #[.pointer (some ⟨n, 0, none⟩)] v fun e w' => e = .returned (.tuple #[]) ∧ SW true w0 n p (clkS s) (clkT s σ) w' := by
  have FC := h.frc
  unfold clkT clkS
  rw [e1, e2] at FC
  rw [e1, e2, e3]
  have e4 : (frcS s).odd = false := e3
  clear h e1 e2 e3
  generalize frcS s = s1 at *
  go_enter Tryd.func17, Tryd.ntmps17
  go_wp2_with (first
    | (go_at_call 42; refine FC.mono ?_; clear FC; rintro e w1 ⟨rfl, hx⟩; have F2 := hx.tclock 2 (by decide); have ct2 := hx.cs.t2; clear hx)
    | (go_at_call 46; refine F2.mono ?_; clear F2 ct2; rintro e w4 ⟨rfl, hx⟩; have F3 := hx.tclock 3 (by decide); have ct3 := hx.cs.t3; clear hx)
    | (go_at_call 46; refine F3.mono ?_; clear F3 ct3; rintro e w5 ⟨rfl, hx⟩; have c5 := hx.cs.odd; rw [e4] at c5; have fz := hx.cs.fz; have FE := fun w' e => (hx.set (s' := { s1 with odd := !false }) (ok_odd hx.ok _) (fun w => ss_odd w n p s1 _) (v' := w') e).smp; clear hx)
    | (go_at_call 47; refine (FE _ rfl).mono ?_; clear FE; rintro e w9 ⟨rfl, hx⟩))
  (first | refine bodyPost_end (results_none rfl _ _ _) rfl ?_ | refine bodyPost_ret (results_none rfl _ _ _) rfl ?_)
  exact ⟨rfl, hx⟩

set_option maxRecDepth 100000 in
set_option maxHeartbeats 2000000 in
theorem SW.clock_001 (h : SW true w0 n p s σ v) (e1 : quaB s = false) (e2 : hlfB s = false) (e3 : s.odd = true) :
    Calls Tryd.prog 17 #[.pointer (some ⟨n, 0, none⟩)] v fun e w' => e = .returned (.tuple #[]) ∧ SW true w0 n p (clkS s) (clkT s σ) w' := by
  have FC := h.frc
  unfold clkT clkS
  rw [e1, e2] at FC
  rw [e1, e2, e3]
  have e4 : (frcS s).odd = true := e3
  clear h e1 e2 e3
  generalize frcS s = s1 at *
  go_enter Tryd.func17, Tryd.ntmps17
  go_wp2_with (first
    | (go_at_call 42; refine FC.mono ?_; clear FC; rintro e w1 ⟨rfl, hx⟩; have F2 := hx.tclock 2 (by decide); have ct2 := hx.cs.t2; clear hx)
    | (go_at_call 46; refine F2.mono ?_; clear F2 ct2; rintro e w4 ⟨rfl, hx⟩; have F3 := hx.tclock 3 (by decide); have ct3 := hx.cs.t3; clear hx)
    | (go_at_call 46; refine F3.mono ?_; clear F3 ct3; rintro e w5 ⟨rfl, hx⟩; have c6 := hx.cs.odd; rw [e4] at c6; have F0 := hx.tclock 0 (by decide); have ct0 := hx.cs.t0; clear hx)
    | (go_at_call 46; refine F0.mono ?_; clear F0 ct0; rintro e w6 ⟨rfl, hx⟩; have F1 := hx.tclock 1 (by decide); have ct1 := hx.cs.t1; clear hx)
    | (go_at_call 46; refine F1.mono ?_; clear F1 ct1; rintro e w7 ⟨rfl, hx⟩; have c5 := hx.cs.odd; rw [e4] at c5; have fz := hx.cs.fz; have FE := fun w' e => (hx.set (s' := { s1 with odd := !true }) (ok_odd hx.ok _) (fun w => ss_odd w n p s1 _) (v' := w') e).smp; clear hx)
    | (go_at_call 47; refine (FE _ rfl).mono ?_; clear FE; rintro e w9 ⟨rfl, hx⟩))
  (first | refine bodyPost_end (results_none rfl _ _ _) rfl ?_ | refine bodyPost_ret (results_none rfl _ _ _) rfl ?_)
  exact ⟨rfl, hx⟩

set_option maxRecDepth 100000 in
set_option maxHeartbeats 2000000 in
theorem SW.clock_100 (h : SW true w0 n p s σ v) (e1 : quaB s = true) (e2 : hlfB s = false) (e3 : s.odd = false) :
    Calls Tryd.prog 17 #[.pointer (some ⟨n, 0, none⟩)] v fun e w' => e = .returned (.tuple #[]) ∧ SW true w0 n p (clkS s) (clkT s σ) w' := by
  have FC := h.frc
  unfold clkT clkS
  rw [e1, e2] at FC
  rw [e1, e2, e3]
  have e4 : (frcS s).odd = false := e3
  clear h e1 e2 e3
  generalize frcS s = s1 at *
  go_enter Tryd.func17, Tryd.ntmps17
  go_wp2_with (first
    | (go_at_call 42; refine FC.mono ?_; clear FC; rintro e w1 ⟨rfl, hx⟩; have FQ := hx.eachQ; clear hx)
    | (go_at_call 43; refine FQ.mono ?_; clear FQ; rintro e w2 ⟨rfl, hx⟩; have F2 := hx.tclock 2 (by decide); have ct2 := hx.cs.t2; clear hx)
    | (go_at_call 46; refine F2.mono ?_; clear F2 ct2; rintro e w4 ⟨rfl, hx⟩; have F3 := hx.tclock 3 (by decide); have ct3 := hx.cs.t3; clear hx)
    | (go_at_call 46; refine F3.mono ?_; clear F3 ct3; rintro e w5 ⟨rfl, hx⟩; have c5 := hx.cs.odd; rw [e4] at c5; have fz := hx.cs.fz; have FE := fun w' e => (hx.set (s' := { s1 with odd := !false }) (ok_odd hx.ok _) (fun w => ss_odd w n p s1 _) (v' := w') e).smp; clear hx)
    | (go_at_call 47; refine (FE _ rfl).mono ?_; clear FE; rintro e w9 ⟨rfl, hx⟩))
  (first | refine bodyPost_end (results_none rfl _ _ _) rfl ?_ | refine bodyPost_ret (results_none rfl _ _ _) rfl ?_)
  exact ⟨rfl, hx⟩

set_option maxRecDepth 100000 in
set_option maxHeartbeats 2000000 in
theorem SW.clock_101 (h : SW true w0 n p s σ v) (e1 : quaB s = true) (e2 : hlfB s = false) (e3 : s.odd = true) :
    Calls Tryd.prog 17 #[.pointer (some ⟨n, 0, none⟩)] v fun e w' => e = .returned (.tuple #[]) ∧ SW true w0 n p (clkS s) (clkT s σ) w' := by
  have FC := h.frc
  unfold clkT clkS
  rw [e1, e2] at FC
  rw [e1, e2, e3]
  have e4 : (frcS s).odd = true := e3
  clear h e1 e2 e3
  generalize frcS s = s1 at *
  go_enter Tryd.func17, Tryd.ntmps17
  go_wp2_with (first
    | (go_at_call 42; refine FC.mono ?_; clear FC; rintro e w1 ⟨rfl, hx⟩; have FQ := hx.eachQ; clear hx)
    | (go_at_call 43; refine FQ.mono ?_; clear FQ; rintro e w2 ⟨rfl, hx⟩; have F2 := hx.tclock 2 (by decide); have ct2 := hx.cs.t2; clear hx)
    | (go_at_call 46; refine F2.mono ?_; clear F2 ct2; rintro e w4 ⟨rfl, hx⟩; have F3 := hx.tclock 3 (by decide); have ct3 := hx.cs.t3; clear hx)
    | (go_at_call 46; refine F3.mono ?_; clear F3 ct3; rintro e w5 ⟨rfl, hx⟩; have c6 := hx.cs.odd; rw [e4] at c6; have F0 := hx.tclock 0 (by decide); have ct0 := hx.cs.t0; clear hx)
    | (go_at_call 46; refine F0.mono ?_; clear F0 ct0; rintro e w6 ⟨rfl, hx⟩; have F1 := hx.tclock 1 (by decide); have ct1 := hx.cs.t1; clear hx)
    | (go_at_call 46; refine F1.mono ?_; clear F1 ct1; rintro e w7 ⟨rfl, hx⟩; have c5 := hx.cs.odd; rw [e4] at c5; have fz := hx.cs.fz; have FE := fun w' e => (hx.set (s' := { s1 with odd := !true }) (ok_odd hx.ok _) (fun w => ss_odd w n p s1 _) (v' := w') e).smp; clear hx)
    | (go_at_call 47; refine (FE _ rfl).mono ?_; clear FE; rintro e w9 ⟨rfl, hx⟩))
  (first | refine bodyPost_end (results_none rfl _ _ _) rfl ?_ | refine bodyPost_ret (results_none rfl _ _ _) rfl ?_)
  exact ⟨rfl, hx⟩

set_option maxRecDepth 100000 in
set_option maxHeartbeats 2000000 in
theorem SW.clock_110 (h : SW true w0 n p s σ v) (e1 : quaB s = true) (e2 : hlfB s = true) (e3 : s.odd = false) :
    Calls Tryd.prog 17 #[.pointer (some ⟨n, 0, none⟩)] v fun e w' => e = .returned (.tuple #[]) ∧ SW true w0 n p (clkS s) (clkT s σ) w' := by
  have FC := h.frc
  unfold clkT clkS
  rw [e1, e2] at FC
  rw [e1, e2, e3]
  have e4 : (frcS s).odd = false := e3
  clear h e1 e2 e3
  generalize frcS s = s1 at *
  go_enter Tryd.func17, Tryd.ntmps17
  go_wp2_with (first
    | (go_at_call 42; refine FC.mono ?_; clear FC; rintro e w1 ⟨rfl, hx⟩; have FQ := hx.eachQ; clear hx)
    | (go_at_call 43; refine FQ.mono ?_; clear FQ; rintro e w2 ⟨rfl, hx⟩; have FH := hx.eachH; clear hx)
    | (go_at_call 43; refine FH.mono ?_; clear FH; rintro e w3 ⟨rfl, hx⟩; have F2 := hx.tclock 2 (by decide); have ct2 := hx.cs.t2; clear hx)
    | (go_at_call 46; refine F2.mono ?_; clear F2 ct2; rintro e w4 ⟨rfl, hx⟩; have F3 := hx.tclock 3 (by decide); have ct3 := hx.cs.t3; clear hx)
    | (go_at_call 46; refine F3.mono ?_; clear F3 ct3; rintro e w5 ⟨rfl, hx⟩; have c5 := hx.cs.odd; rw [e4] at c5; have fz := hx.cs.fz; have FE := fun w' e => (hx.set (s' := { s1 with odd := !false }) (ok_odd hx.ok _) (fun w => ss_odd w n p s1 _) (v' := w') e).smp; clear hx)
    | (go_at_call 47; refine (FE _ rfl).mono ?_; clear FE; rintro e w9 ⟨rfl, hx⟩))
  (first | refine bodyPost_end (results_none rfl _ _ _) rfl ?_ | refine bodyPost_ret (results_none rfl _ _ _) rfl ?_)
  exact ⟨rfl, hx⟩

set_option maxRecDepth 100000 in
set_option maxHeartbeats 2000000 in
theorem SW.clock_111 (h : SW true w0 n p s σ v) (e1 : quaB s = true) (e2 : hlfB s = true) (e3 : s.odd = true) :
    Calls Tryd.prog 17 #[.pointer (some ⟨n, 0, none⟩)] v fun e w' => e = .returned (.tuple #[]) ∧ SW true w0 n p (clkS s) (clkT s σ) w' := by
  have FC := h.frc
  unfold clkT clkS
  rw [e1, e2] at FC
  rw [e1, e2, e3]
  have e4 : (frcS s).odd = true := e3
  clear h e1 e2 e3
  generalize frcS s = s1 at *
  go_enter Tryd.func17, Tryd.ntmps17
  go_wp2_with (first
    | (go_at_call 42; refine FC.mono ?_; clear FC; rintro e w1 ⟨rfl, hx⟩; have FQ := hx.eachQ; clear hx)
    | (go_at_call 43; refine FQ.mono ?_; clear FQ; rintro e w2 ⟨rfl, hx⟩; have FH := hx.eachH; clear hx)
    | (go_at_call 43; refine FH.mono ?_; clear FH; rintro e w3 ⟨rfl, hx⟩; have F2 := hx.tclock 2 (by decide); have ct2 := hx.cs.t2; clear hx)
    | (go_at_call 46; refine F2.mono ?_; clear F2 ct2; rintro e w4 ⟨rfl, hx⟩; have F3 := hx.tclock 3 (by decide); have ct3 := hx.cs.t3; clear hx)
    | (go_at_call 46; refine F3.mono ?_; clear F3 ct3; rintro e w5 ⟨rfl, hx⟩; have c6 := hx.cs.odd; rw [e4] at c6; have F0 := hx.tclock 0 (by decide); have ct0 := hx.cs.t0; clear hx)
    | (go_at_call 46; refine F0.mono ?_; clear F0 ct0; rintro e w6 ⟨rfl, hx⟩; have F1 := hx.tclock 1 (by decide); have ct1 := hx.cs.t1; clear hx)
    | (go_at_call 46; refine F1.mono ?_; clear F1 ct1; rintro e w7 ⟨rfl, hx⟩; have c5 := hx.cs.odd; rw [e4] at c5; have fz := hx.cs.fz; have FE := fun w' e => (hx.set (s' := { s1 with odd := !true }) (ok_odd hx.ok _) (fun w => ss_odd w n p s1 _) (v' := w') e).smp; clear hx)
    | (go_at_call 47; refine (FE _ rfl).mono ?_; clear FE; rintro e w9 ⟨rfl, hx⟩))
  (first | refine bodyPost_end (results_none rfl _ _ _) rfl ?_ | refine bodyPost_ret (results_none rfl _ _ _) rfl ?_)
  exact ⟨rfl, hx⟩

theorem SW.Clock (h : SW true w0 n p s σ v) :
    Calls Tryd.prog 17 #[.pointer (some ⟨n, 0, none⟩)] v fun e w' => e = .returned (.tuple #[]) ∧ SW true w0 n p (clkS s) (clkT s σ) w' := by
  rcases Bool.eq_false_or_eq_true (hlfB s) with e2 | e2 <;> rcases Bool.eq_false_or_eq_true (quaB s) with e1 | e1 <;> rcases Bool.eq_false_or_eq_true s.odd with e3 | e3
  · exact h.clock_111 e1 e2 e3
  · exact h.clock_110 e1 e2 e3
  · rw [hlf_qua s e2] at e1; cases e1
  · rw [hlf_qua s e2] at e1; cases e1
  · exact h.clock_101 e1 e2 e3
  · exact h.clock_100 e1 e2 e3
  · exact h.clock_001 e1 e2 e3
  · exact h.clock_000 e1 e2 e3


/-- a register, as numbers -/
def uS (s : SS) (a b : Int) : SS := if 16400 ≤ a ∧ a < 16404 then putS s (a - 16400).toNat b else if a = 16405 then ensS s (bitB b 4) else if a = 16407 then frpS s b else s
def uT (σ : Nat → TS) (a b : Int) : Nat → TS :=
  if 16384 ≤ a ∧ a < 16400 then updT σ ((a - 16384) / 4).toNat (putT (σ ((a - 16384) / 4).toNat) (a % 4) b) else if a = 16405 then stpT (fun k t => enT t (bitB b k)) σ 4 else if a = 16407 ∧ 128 ≤ b then qhT σ else σ
theorem uS_none {s : SS} {a b : Int} (h1 : ¬ (16400 ≤ a ∧ a < 16404)) (h2 : a ≠ 16405) (h3 : a ≠ 16407) : uS s a b = s := by unfold uS; rw [if_neg h1, if_neg h2, if_neg h3]
theorem uT_none {σ : Nat → TS} {a b : Int} (h1 : ¬ (16384 ≤ a ∧ a < 16400)) (h2 : a ≠ 16405) (h3 : a ≠ 16407) : uT σ a b = σ := by unfold uT; rw [if_neg h1, if_neg h2, if_neg (fun h => h3 h.1)]
set_option maxRecDepth 100000 in
set_option maxHeartbeats 1000000 in
theorem SW.put_16384 (h : SW B w0 n p s σ v) (b : Int) (hb : 0 ≤ b ∧ b < 256) :
    Calls Tryd.prog 15 #[.pointer (some ⟨n, 0, none⟩), .int .u16 16384, .int .u8 b] v fun e w' => e = .returned (.tuple #[]) ∧ SW B w0 n p (uS s 16384 b) (uT σ 16384 b) w' := by
  rw [uS_none (by decide) (by decide) (by decide), show uT σ 16384 b = updT σ 0 (putT (σ 0) 0 b) from by simp [uT]]
  have F := h.tput 0 (by decide) 0 b (by decide) hb
  have c := h.cs.t0
  clear h
  go_enter Tryd.func15, Tryd.ntmps15
  go_wp2_with (go_at_call 33; refine F.mono ?_; clear F; rintro e w1 ⟨rfl, hx⟩)
  (first | refine bodyPost_end (results_none rfl _ _ _) rfl ?_ | refine bodyPost_ret (results_none rfl _ _ _) rfl ?_)
  exact ⟨rfl, hx⟩
set_option maxRecDepth 100000 in
set_option maxHeartbeats 1000000 in
theorem SW.put_16385 (h : SW B w0 n p s σ v) (b : Int) (hb : 0 ≤ b ∧ b < 256) :
    Calls Tryd.prog 15 #[.pointer (some ⟨n, 0, none⟩), .int .u16 16385, .int .u8 b] v fun e w' => e = .returned (.tuple #[]) ∧ SW B w0 n p (uS s 16385 b) (uT σ 16385 b) w' := by
  rw [uS_none (by decide) (by decide) (by decide), show uT σ 16385 b = updT σ 0 (putT (σ 0) 1 b) from by simp [uT]]
  have F := h.tput 0 (by decide) 1 b (by decide) hb
  have c := h.cs.t0
  clear h
  go_enter Tryd.func15, Tryd.ntmps15
  go_wp2_with (go_at_call 33; refine F.mono ?_; clear F; rintro e w1 ⟨rfl, hx⟩)
  (first | refine bodyPost_end (results_none rfl _ _ _) rfl ?_ | refine bodyPost_ret (results_none rfl _ _ _) rfl ?_)
  exact ⟨rfl, hx⟩
set_option maxRecDepth 100000 in
set_option maxHeartbeats 1000000 in
theorem SW.put_16386 (h : SW B w0 n p s σ v) (b : Int) (hb : 0 ≤ b ∧ b < 256) :
    Calls Tryd.prog 15 #[.pointer (some ⟨n, 0, none⟩), .int .u16 16386, .int .u8 b] v fun e w' => e = .returned (.tuple #[]) ∧ SW B w0 n p (uS s 16386 b) (uT σ 16386 b) w' := by
  rw [uS_none (by decide) (by decide) (by decide), show uT σ 16386 b = updT σ 0 (putT (σ 0) 2 b) from by simp [uT]]
  have F := h.tput 0 (by decide) 2 b (by decide) hb
  have c := h.cs.t0
  clear h
  go_enter Tryd.func15, Tryd.ntmps15
  go_wp2_with (go_at_call 33; refine F.mono ?_; clear F; rintro e w1 ⟨rfl, hx⟩)
  (first | refine bodyPost_end (results_none rfl _ _ _) rfl ?_ | refine bodyPost_ret (results_none rfl _ _ _) rfl ?_)
  exact ⟨rfl, hx⟩
set_option maxRecDepth 100000 in
set_option maxHeartbeats 1000000 in
theorem SW.put_16387 (h : SW B w0 n p s σ v) (b : Int) (hb : 0 ≤ b ∧ b < 256) :
    Calls Tryd.prog 15 #[.pointer (some ⟨n, 0, none⟩), .int .u16 16387, .int .u8 b] v fun e w' => e = .returned (.tuple #[]) ∧ SW B w0 n p (uS s 16387 b) (uT σ 16387 b) w' := by
  rw [uS_none (by decide) (by decide) (by decide), show uT σ 16387 b = updT σ 0 (putT (σ 0) 3 b) from by simp [uT]]
  have F := h.tput 0 (by decide) 3 b (by decide) hb
  have c := h.cs.t0
  clear h
  go_enter Tryd.func15, Tryd.ntmps15
  go_wp2_with (go_at_call 33; refine F.mono ?_; clear F; rintro e w1 ⟨rfl, hx⟩)
  (first | refine bodyPost_end (results_none rfl _ _ _) rfl ?_ | refine bodyPost_ret (results_none rfl _ _ _) rfl ?_)
  exact ⟨rfl, hx⟩
set_option maxRecDepth 100000 in
set_option maxHeartbeats 1000000 in
theorem SW.put_16388 (h : SW B w0 n p s σ v) (b : Int) (hb : 0 ≤ b ∧ b < 256) :
    Calls Tryd.prog 15 #[.pointer (some ⟨n, 0, none⟩), .int .u16 16388, .int .u8 b] v fun e w' => e = .returned (.tuple #[]) ∧ SW B w0 n p (uS s 16388 b) (uT σ 16388 b) w' := by
  rw [uS_none (by decide) (by decide) (by decide), show uT σ 16388 b = updT σ 1 (putT (σ 1) 0 b) from by simp [uT]]
  have F := h.tput 1 (by decide) 0 b (by decide) hb
  have c := h.cs.t1
  clear h
  go_enter Tryd.func15, Tryd.ntmps15
  go_wp2_with (go_at_call 33; refine F.mono ?_; clear F; rintro e w1 ⟨rfl, hx⟩)
  (first | refine bodyPost_end (results_none rfl _ _ _) rfl ?_ | refine bodyPost_ret (results_none rfl _ _ _) rfl ?_)
  exact ⟨rfl, hx⟩
set_option maxRecDepth 100000 in
set_option maxHeartbeats 1000000 in
theorem SW.put_16389 (h : SW B w0 n p s σ v) (b : Int) (hb : 0 ≤ b ∧ b < 256) :
    Calls Tryd.prog 15 #[.pointer (some ⟨n, 0, none⟩), .int .u16 16389, .int .u8 b] v fun e w' => e = .returned (.tuple #[]) ∧ SW B w0 n p (uS s 16389 b) (uT σ 16389 b) w' := by
  rw [uS_none (by decide) (by decide) (by decide), show uT σ 16389 b = updT σ 1 (putT (σ 1) 1 b) from by simp [uT]]
  have F := h.tput 1 (by decide) 1 b (by decide) hb
  have c := h.cs.t1
  clear h
  go_enter Tryd.func15, Tryd.ntmps15
  go_wp2_with (go_at_call 33; refine F.mono ?_; clear F; rintro e w1 ⟨rfl, hx⟩)
  (first | refine bodyPost_end (results_none rfl _ _ _) rfl ?_ | refine bodyPost_ret (results_none rfl _ _ _) rfl ?_)
  exact ⟨rfl, hx⟩
set_option maxRecDepth 100000 in
set_option maxHeartbeats 1000000 in
theorem SW.put_16390 (h : SW B w0 n p s σ v) (b : Int) (hb : 0 ≤ b ∧ b < 256) :
    Calls Tryd.prog 15 #[.pointer (some ⟨n, 0, none⟩), .int .u16 16390, .int .u8 b] v fun e w' => e = .returned (.tuple #[]) ∧ SW B w0 n p (uS s 16390 b) (uT σ 16390 b) w' := by
  rw [uS_none (by decide) (by decide) (by decide), show uT σ 16390 b = updT σ 1 (putT (σ 1) 2 b) from by simp [uT]]
  have F := h.tput 1 (by decide) 2 b (by decide) hb
  have c := h.cs.t1
  clear h
  go_enter Tryd.func15, Tryd.ntmps15
  go_wp2_with (go_at_call 33; refine F.mono ?_; clear F; rintro e w1 ⟨rfl, hx⟩)
  (first | refine bodyPost_end (results_none rfl _ _ _) rfl ?_ | refine bodyPost_ret (results_none rfl _ _ _) rfl ?_)
  exact ⟨rfl, hx⟩
set_option maxRecDepth 100000 in
set_option maxHeartbeats 1000000 in
theorem SW.put_16391 (h : SW B w0 n p s σ v) (b : Int) (hb : 0 ≤ b ∧ b < 256) :
    Calls Tryd.prog 15 #[.pointer (some ⟨n, 0, none⟩), .int .u16 16391, .int .u8 b] v fun e w' => e = .returned (.tuple #[]) ∧ SW B w0 n p (uS s 16391 b) (uT σ 16391 b) w' := by
  rw [uS_none (by decide) (by decide) (by decide), show uT σ 16391 b = updT σ 1 (putT (σ 1) 3 b) from by simp [uT]]
  have F := h.tput 1 (by decide) 3 b (by decide) hb
  have c := h.cs.t1
  clear h
  go_enter Tryd.func15, Tryd.ntmps15
  go_wp2_with (go_at_call 33; refine F.mono ?_; clear F; rintro e w1 ⟨rfl, hx⟩)
  (first | refine bodyPost_end (results_none rfl _ _ _) rfl ?_ | refine bodyPost_ret (results_none rfl _ _ _) rfl ?_)
  exact ⟨rfl, hx⟩
set_option maxRecDepth 100000 in
set_option maxHeartbeats 1000000 in
theorem SW.put_16392 (h : SW B w0 n p s σ v) (b : Int) (hb : 0 ≤ b ∧ b < 256) :
    Calls Tryd.prog 15 #[.pointer (some ⟨n, 0, none⟩), .int .u16 16392, .int .u8 b] v fun e w' => e = .returned (.tuple #[]) ∧ SW B w0 n p (uS s 16392 b) (uT σ 16392 b) w' := by
  rw [uS_none (by decide) (by decide) (by decide), show uT σ 16392 b = updT σ 2 (putT (σ 2) 0 b) from by simp [uT]]
  have F := h.tput 2 (by decide) 0 b (by decide) hb
  have c := h.cs.t2
  clear h
  go_enter Tryd.func15, Tryd.ntmps15
  go_wp2_with (go_at_call 33; refine F.mono ?_; clear F; rintro e w1 ⟨rfl, hx⟩)
  (first | refine bodyPost_end (results_none rfl _ _ _) rfl ?_ | refine bodyPost_ret (results_none rfl _ _ _) rfl ?_)
  exact ⟨rfl, hx⟩
set_option maxRecDepth 100000 in
set_option maxHeartbeats 1000000 in
theorem SW.put_16393 (h : SW B w0 n p s σ v) (b : Int) (hb : 0 ≤ b ∧ b < 256) :
    Calls Tryd.prog 15 #[.pointer (some ⟨n, 0, none⟩), .int .u16 16393, .int .u8 b] v fun e w' => e = .returned (.tuple #[]) ∧ SW B w0 n p (uS s 16393 b) (uT σ 16393 b) w' := by
  rw [uS_none (by decide) (by decide) (by decide), show uT σ 16393 b = updT σ 2 (putT (σ 2) 1 b) from by simp [uT]]
  have F := h.tput 2 (by decide) 1 b (by decide) hb
  have c := h.cs.t2
  clear h
  go_enter Tryd.func15, Tryd.ntmps15
  go_wp2_with (go_at_call 33; refine F.mono ?_; clear F; rintro e w1 ⟨rfl, hx⟩)
  (first | refine bodyPost_end (results_none rfl _ _ _) rfl ?_ | refine bodyPost_ret (results_none rfl _ _ _) rfl ?_)
  exact ⟨rfl, hx⟩
set_option maxRecDepth 100000 in
set_option maxHeartbeats 1000000 in
theorem SW.put_16394 (h : SW B w0 n p s σ v) (b : Int) (hb : 0 ≤ b ∧ b < 256) :
    Calls Tryd.prog 15 #[.pointer (some ⟨n, 0, none⟩), .int .u16 16394, .int .u8 b] v fun e w' => e = .returned (.tuple #[]) ∧ SW B w0 n p (uS s 16394 b) (uT σ 16394 b) w' := by
  rw [uS_none (by decide) (by decide) (by decide), show uT σ 16394 b = updT σ 2 (putT (σ 2) 2 b) from by simp [uT]]
  have F := h.tput 2 (by decide) 2 b (by decide) hb
  have c := h.cs.t2
  clear h
  go_enter Tryd.func15, Tryd.ntmps15
  go_wp2_with (go_at_call 33; refine F.mono ?_; clear F; rintro e w1 ⟨rfl, hx⟩)
  (first | refine bodyPost_end (results_none rfl _ _ _) rfl ?_ | refine bodyPost_ret (results_none rfl _ _ _) rfl ?_)
  exact ⟨rfl, hx⟩
set_option maxRecDepth 100000 in
set_option maxHeartbeats 1000000 in
theorem SW.put_16395 (h : SW B w0 n p s σ v) (b : Int) (hb : 0 ≤ b ∧ b < 256) :
    Calls Tryd.prog 15 #[.pointer (some ⟨n, 0, none⟩), .int .u16 16395, .int .u8 b] v fun e w' => e = .returned (.tuple #[]) ∧ SW B w0 n p (uS s 16395 b) (uT σ 16395 b) w' := by
  rw [uS_none (by decide) (by decide) (by decide), show uT σ 16395 b = updT σ 2 (putT (σ 2) 3 b) from by simp [uT]]
  have F := h.tput 2 (by decide) 3 b (by decide) hb
  have c := h.cs.t2
  clear h
  go_enter Tryd.func15, Tryd.ntmps15
  go_wp2_with (go_at_call 33; refine F.mono ?_; clear F; rintro e w1 ⟨rfl, hx⟩)
  (first | refine bodyPost_end (results_none rfl _ _ _) rfl ?_ | refine bodyPost_ret (results_none rfl _ _ _) rfl ?_)
  exact ⟨rfl, hx⟩
set_option maxRecDepth 100000 in
set_option maxHeartbeats 1000000 in
theorem SW.put_16396 (h : SW B w0 n p s σ v) (b : Int) (hb : 0 ≤ b ∧ b < 256) :
    Calls Tryd.prog 15 #[.pointer (some ⟨n, 0, none⟩), .int .u16 16396, .int .u8 b] v fun e w' => e = .returned (.tuple #[]) ∧ SW B w0 n p (uS s 16396 b) (uT σ 16396 b) w' := by
  rw [uS_none (by decide) (by decide) (by decide), show uT σ 16396 b = updT σ 3 (putT (σ 3) 0 b) from by simp [uT]]
  have F := h.tput 3 (by decide) 0 b (by decide) hb
  have c := h.cs.t3
  clear h
  go_enter Tryd.func15, Tryd.ntmps15
  go_wp2_with (go_at_call 33; refine F.mono ?_; clear F; rintro e w1 ⟨rfl, hx⟩)
  (first | refine bodyPost_end (results_none rfl _ _ _) rfl ?_ | refine bodyPost_ret (results_none rfl _ _ _) rfl ?_)
  exact ⟨rfl, hx⟩
set_option maxRecDepth 100000 in
set_option maxHeartbeats 1000000 in
theorem SW.put_16397 (h : SW B w0 n p s σ v) (b : Int) (hb : 0 ≤ b ∧ b < 256) :
    Calls Tryd.prog 15 #[.pointer (some ⟨n, 0, none⟩), .int .u16 16397, .int .u8 b] v fun e w' => e = .returned (.tuple #[]) ∧ SW B w0 n p (uS s 16397 b) (uT σ 16397 b) w' := by
  rw [uS_none (by decide) (by decide) (by decide), show uT σ 16397 b = updT σ 3 (putT (σ 3) 1 b) from by simp [uT]]
  have F := h.tput 3 (by decide) 1 b (by decide) hb
  have c := h.cs.t3
  clear h
  go_enter Tryd.func15, Tryd.ntmps15
  go_wp2_with (go_at_call 33; refine F.mono ?_; clear F; rintro e w1 ⟨rfl, hx⟩)
  (first | refine bodyPost_end (results_none rfl _ _ _) rfl ?_ | refine bodyPost_ret (results_none rfl _ _ _) rfl ?_)
  exact ⟨rfl, hx⟩
set_option maxRecDepth 100000 in
set_option maxHeartbeats 1000000 in
theorem SW.put_16398 (h : SW B w0 n p s σ v) (b : Int) (hb : 0 ≤ b ∧ b < 256) :
    Calls Tryd.prog 15 #[.pointer (some ⟨n, 0, none⟩), .int .u16 16398, .int .u8 b] v fun e w' => e = .returned (.tuple #[]) ∧ SW B w0 n p (uS s 16398 b) (uT σ 16398 b) w' := by
  rw [uS_none (by decide) (by decide) (by decide), show uT σ 16398 b = updT σ 3 (putT (σ 3) 2 b) from by simp [uT]]
  have F := h.tput 3 (by decide) 2 b (by decide) hb
  have c := h.cs.t3
  clear h
  go_enter Tryd.func15, Tryd.ntmps15
  go_wp2_with (go_at_call 33; refine F.mono ?_; clear F; rintro e w1 ⟨rfl, hx⟩)
  (first | refine bodyPost_end (results_none rfl _ _ _) rfl ?_ | refine bodyPost_ret (results_none rfl _ _ _) rfl ?_)
  exact ⟨rfl, hx⟩
set_option maxRecDepth 100000 in
set_option maxHeartbeats 1000000 in
theorem SW.put_16399 (h : SW B w0 n p s σ v) (b : Int) (hb : 0 ≤ b ∧ b < 256) :
    Calls Tryd.prog 15 #[.pointer (some ⟨n, 0, none⟩), .int .u16 16399, .int .u8 b] v fun e w' => e = .returned (.tuple #[]) ∧ SW B w0 n p (uS s 16399 b) (uT σ 16399 b) w' := by
  rw [uS_none (by decide) (by decide) (by decide), show uT σ 16399 b = updT σ 3 (putT (σ 3) 3 b) from by simp [uT]]
  have F := h.tput 3 (by decide) 3 b (by decide) hb
  have c := h.cs.t3
  clear h
  go_enter Tryd.func15, Tryd.ntmps15
  go_wp2_with (go_at_call 33; refine F.mono ?_; clear F; rintro e w1 ⟨rfl, hx⟩)
  (first | refine bodyPost_end (results_none rfl _ _ _) rfl ?_ | refine bodyPost_ret (results_none rfl _ _ _) rfl ?_)
  exact ⟨rfl, hx⟩
set_option maxRecDepth 100000 in
set_option maxHeartbeats 1000000 in
theorem SW.put_16400 (h : SW B w0 n p s σ v) (b : Int) (hb : 0 ≤ b ∧ b < 256) :
    Calls Tryd.prog 15 #[.pointer (some ⟨n, 0, none⟩), .int .u16 16400, .int .u8 b] v fun e w' => e = .returned (.tuple #[]) ∧ SW B w0 n p (uS s 16400 b) (uT σ 16400 b) w' := by
  rw [uT_none (by decide) (by decide) (by decide), show uS s 16400 b = putS s 0 b from by simp [uS]]
  have F : Calls Tryd.prog 34 #[.pointer (some ⟨n, 4, none⟩), .int .u16 0, .int .u8 b] v fun e w' => e = .returned (.tuple #[]) ∧ SW B w0 n p (putS s 0 b) σ w' := h.sput 0 (by decide) b hb
  clear h
  go_enter Tryd.func15, Tryd.ntmps15
  go_wp2_with (go_at_call 34; refine F.mono ?_; clear F; rintro e w1 ⟨rfl, hx⟩)
  (first | refine bodyPost_end (results_none rfl _ _ _) rfl ?_ | refine bodyPost_ret (results_none rfl _ _ _) rfl ?_)
  exact ⟨rfl, hx⟩
set_option maxRecDepth 100000 in
set_option maxHeartbeats 1000000 in
theorem SW.put_16401 (h : SW B w0 n p s σ v) (b : Int) (hb : 0 ≤ b ∧ b < 256) :
    Calls Tryd.prog 15 #[.pointer (some ⟨n, 0, none⟩), .int .u16 16401, .int .u8 b] v fun e w' => e = .returned (.tuple #[]) ∧ SW B w0 n p (uS s 16401 b) (uT σ 16401 b) w' := by
  rw [uT_none (by decide) (by decide) (by decide), show uS s 16401 b = putS s 1 b from by simp [uS]]
  have F : Calls Tryd.prog 34 #[.pointer (some ⟨n, 4, none⟩), .int .u16 1, .int .u8 b] v fun e w' => e = .returned (.tuple #[]) ∧ SW B w0 n p (putS s 1 b) σ w' := h.sput 1 (by decide) b hb
  clear h
  go_enter Tryd.func15, Tryd.ntmps15
  go_wp2_with (go_at_call 34; refine F.mono ?_; clear F; rintro e w1 ⟨rfl, hx⟩)
  (first | refine bodyPost_end (results_none rfl _ _ _) rfl ?_ | refine bodyPost_ret (results_none rfl _ _ _) rfl ?_)
  exact ⟨rfl, hx⟩
set_option maxRecDepth 100000 in
set_option maxHeartbeats 1000000 in
theorem SW.put_16402 (h : SW B w0 n p s σ v) (b : Int) (hb : 0 ≤ b ∧ b < 256) :
    Calls Tryd.prog 15 #[.pointer (some ⟨n, 0, none⟩), .int .u16 16402, .int .u8 b] v fun e w' => e = .returned (.tuple #[]) ∧ SW B w0 n p (uS s 16402 b) (uT σ 16402 b) w' := by
  rw [uT_none (by decide) (by decide) (by decide), show uS s 16402 b = putS s 2 b from by simp [uS]]
  have F : Calls Tryd.prog 34 #[.pointer (some ⟨n, 4, none⟩), .int .u16 2, .int .u8 b] v fun e w' => e = .returned (.tuple #[]) ∧ SW B w0 n p (putS s 2 b) σ w' := h.sput 2 (by decide) b hb
  clear h
  go_enter Tryd.func15, Tryd.ntmps15
  go_wp2_with (go_at_call 34; refine F.mono ?_; clear F; rintro e w1 ⟨rfl, hx⟩)
  (first | refine bodyPost_end (results_none rfl _ _ _) rfl ?_ | refine bodyPost_ret (results_none rfl _ _ _) rfl ?_)
  exact ⟨rfl, hx⟩
set_option maxRecDepth 100000 in
set_option maxHeartbeats 1000000 in
theorem SW.put_16403 (h : SW B w0 n p s σ v) (b : Int) (hb : 0 ≤ b ∧ b < 256) :
    Calls Tryd.prog 15 #[.pointer (some ⟨n, 0, none⟩), .int .u16 16403, .int .u8 b] v fun e w' => e = .returned (.tuple #[]) ∧ SW B w0 n p (uS s 16403 b) (uT σ 16403 b) w' := by
  rw [uT_none (by decide) (by decide) (by decide), show uS s 16403 b = putS s 3 b from by simp [uS]]
  have F : Calls Tryd.prog 34 #[.pointer (some ⟨n, 4, none⟩), .int .u16 3, .int .u8 b] v fun e w' => e = .returned (.tuple #[]) ∧ SW B w0 n p (putS s 3 b) σ w' := h.sput 3 (by decide) b hb
  clear h
  go_enter Tryd.func15, Tryd.ntmps15
  go_wp2_with (go_at_call 34; refine F.mono ?_; clear F; rintro e w1 ⟨rfl, hx⟩)
  (first | refine bodyPost_end (results_none rfl _ _ _) rfl ?_ | refine bodyPost_ret (results_none rfl _ _ _) rfl ?_)
  exact ⟨rfl, hx⟩
set_option maxRecDepth 100000 in
set_option maxHeartbeats 1000000 in
theorem SW.put_16405 (h : SW B w0 n p s σ v) (b : Int) (hb : 0 ≤ b ∧ b < 256) :
    Calls Tryd.prog 15 #[.pointer (some ⟨n, 0, none⟩), .int .u16 16405, .int .u8 b] v fun e w' => e = .returned (.tuple #[]) ∧ SW B w0 n p (uS s 16405 b) (uT σ 16405 b) w' := by
  rw [show uT σ 16405 b = stpT (fun k t => enT t (bitB b k)) σ 4 from by simp [uT], show uS s 16405 b = ensS s (bitB b 4) from by simp [uS]]
  have F := h.enable b hb
  clear h
  go_enter Tryd.func15, Tryd.ntmps15
  go_wp2_with (go_at_call 35; refine F.mono ?_; clear F; rintro e w1 ⟨rfl, hx⟩)
  (first | refine bodyPost_end (results_none rfl _ _ _) rfl ?_ | refine bodyPost_ret (results_none rfl _ _ _) rfl ?_)
  exact ⟨rfl, hx⟩
set_option maxRecDepth 100000 in
set_option maxHeartbeats 1000000 in
theorem SW.put_16407 (h : SW B w0 n p s σ v) (b : Int) (hb : 0 ≤ b ∧ b < 256) :
    Calls Tryd.prog 15 #[.pointer (some ⟨n, 0, none⟩), .int .u16 16407, .int .u8 b] v fun e w' => e = .returned (.tuple #[]) ∧ SW B w0 n p (uS s 16407 b) (uT σ 16407 b) w' := by
  rw [show uT σ 16407 b = if 128 ≤ b then qhT σ else σ from by simp [uT], show uS s 16407 b = frpS s b from by simp [uS]]
  have F := h.putFrame b hb
  clear h
  generalize (if 128 ≤ b then qhT σ else σ) = σ' at *
  go_enter Tryd.func15, Tryd.ntmps15
  go_wp2_with (go_at_call 36; refine F.mono ?_; clear F; rintro e w1 ⟨rfl, hx⟩)
  (first | refine bodyPost_end (results_none rfl _ _ _) rfl ?_ | refine bodyPost_ret (results_none rfl _ _ _) rfl ?_)
  exact ⟨rfl, hx⟩
set_option maxRecDepth 100000 in
set_option maxHeartbeats 1000000 in
theorem SW.put_low (h : SW B w0 n p s σ v) (a b : Int) (h1 : a < 16384) :
    Calls Tryd.prog 15 #[.pointer (some ⟨n, 0, none⟩), .int .u16 a, .int .u8 b] v fun e w' => e = .returned (.tuple #[]) ∧ SW B w0 n p (uS s a b) (uT σ a b) w' := by
  rw [uS_none (by omega) (by omega) (by omega), uT_none (by omega) (by omega) (by omega)]
  go_enter Tryd.func15, Tryd.ntmps15
  go_wp2
  (first | refine bodyPost_end (results_none rfl _ _ _) rfl ?_ | refine bodyPost_ret (results_none rfl _ _ _) rfl ?_)
  exact ⟨rfl, h⟩
set_option maxRecDepth 100000 in
set_option maxHeartbeats 1000000 in
theorem SW.put_no (h : SW B w0 n p s σ v) (a b : Int) (h1 : 16404 ≤ a) (h2 : a ≠ 16405) (h3 : a ≠ 16407) :
    Calls Tryd.prog 15 #[.pointer (some ⟨n, 0, none⟩), .int .u16 a, .int .u8 b] v fun e w' => e = .returned (.tuple #[]) ∧ SW B w0 n p (uS s a b) (uT σ a b) w' := by
  rw [uS_none (by omega) h2 h3, uT_none (by omega) h2 h3]
  have e1 : (a == 16405) = false := by rw [beq_eq_false_iff_ne]; exact h2
  have e2 : (a == 16407) = false := by rw [beq_eq_false_iff_ne]; exact h3
  have e3 : ¬ a < 16384 := by omega
  have e4 : ¬ a < 16400 := by omega
  have e5 : ¬ a < 16404 := by omega
  go_enter Tryd.func15, Tryd.ntmps15
  go_wp2
  (first | refine bodyPost_end (results_none rfl _ _ _) rfl ?_ | refine bodyPost_ret (results_none rfl _ _ _) rfl ?_)
  exact ⟨rfl, h⟩
theorem SW.Put (h : SW B w0 n p s σ v) (a b : Int) (hb : 0 ≤ b ∧ b < 256) :
    Calls Tryd.prog 15 #[.pointer (some ⟨n, 0, none⟩), .int .u16 a, .int .u8 b] v fun e w' => e = .returned (.tuple #[]) ∧ SW B w0 n p (uS s a b) (uT σ a b) w' := by
  rcases (by omega : a < 16384 ∨ (16384 ≤ a ∧ a < 16404) ∨ a = 16405 ∨ a = 16407 ∨ (16404 ≤ a ∧ a ≠ 16405 ∧ a ≠ 16407)) with k | k | rfl | rfl | ⟨k1, k2, k3⟩
  · exact h.put_low a b k
  · rcases (by omega : a = 16384 ∨ a = 16385 ∨ a = 16386 ∨ a = 16387 ∨ a = 16388 ∨ a = 16389 ∨ a = 16390 ∨ a = 16391 ∨ a = 16392 ∨ a = 16393 ∨ a = 16394 ∨ a = 16395 ∨ a = 16396 ∨ a = 16397 ∨ a = 16398 ∨ a = 16399 ∨ a = 16400 ∨ a = 16401 ∨ a = 16402 ∨ a = 16403) with rfl | rfl | rfl | rfl | rfl | rfl | rfl | rfl | rfl | rfl | rfl | rfl | rfl | rfl | rfl | rfl | rfl | rfl | rfl | rfl
    · exact h.put_16384 b hb
    · exact h.put_16385 b hb
    · exact h.put_16386 b hb
    · exact h.put_16387 b hb
    · exact h.put_16388 b hb
    · exact h.put_16389 b hb
    · exact h.put_16390 b hb
    · exact h.put_16391 b hb
    · exact h.put_16392 b hb
    · exact h.put_16393 b hb
    · exact h.put_16394 b hb
    · exact h.put_16395 b hb
    · exact h.put_16396 b hb
    · exact h.put_16397 b hb
    · exact h.put_16398 b hb
    · exact h.put_16399 b hb
    · exact h.put_16400 b hb
    · exact h.put_16401 b hb
    · exact h.put_16402 b hb
    · exact h.put_16403 b hb
  · exact h.put_16405 b hb
  · exact h.put_16407 b hb
  · exact h.put_no a b k1 k2 k3

end Go.Proofs.YtghldekcnanciaaDoor