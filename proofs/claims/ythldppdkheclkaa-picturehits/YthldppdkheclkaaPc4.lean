/- The picture unit: its methods, where nothing is shown. No law is claimed here. -/
import Derived.Test.YthldppdkheclkaaPc3
import Derived.Test.YthldppdkheclkaaQTail
import Derived.StillTailTactics
set_option linter.unusedSimpArgs false
set_option linter.unusedVariables false
namespace Go.Proofs.Ythldppdkheclkaa
open Go.RowKit Go.Great

variable {w0 v v' : World} {m : Nat} {A : Nat → Value} {c : PC}

@[go_sem] theorem size_row (w : World) : (sizeOf 77).run Try.prog w = .ok 256 w := by kernel_rfl
@[go_sem] theorem elem_rows : Try.prog.elem 83 = 77 := by kernel_rfl
@[go_sem] theorem len_rows : Try.prog.arrayLen 83 = 240 := by kernel_rfl

set_option maxRecDepth 100000 in
set_option maxHeartbeats 1000000 in
theorem pdraw_dark (h : PX w0 m c v) (hk : c.msk = 0) (x : Int) (hx : 0 ≤ x ∧ x < 256) (hl : 0 ≤ c.line ∧ c.line < 240) :
    Calls Try.prog 56 #[.pointer (some ⟨m, 0, none⟩), .int .i64 x] v fun e v' => e = .returned (.tuple #[]) ∧ PX w0 m c v' := by
  have QC := fun n => Calls.more_q (w := v) (n := n) (pcolour_dark (h.past (mP_below v n)) hk x hx)
  obtain ⟨A, hA, hT⟩ := h
  have QG := fun n => Calls.more_q (w := v) (n := n) (pmget_any (hA.past (mP_below v n)) hT 16128 (by decide))
  have hB := memV_is hT 16128
  generalize memV A c.up 16128 = B at *
  go_enter Try.func56, Try.ntmps56
  go_upto_region 0 with (fail)
  refine wp_region_more (by kernel_rfl) (by kernel_rfl) ?_
  repeat (go_big_quiet_step (first | (go_at_call 82; exact QC _) | (go_at_call 50; exact QG _)))
  refine wpQuiet_nil ?_
  intro w9 hw
  obtain ⟨nq, rfl⟩ := hw
  have hA1 := hA.past (mP_below v nq)
  clear QC QG hA
  generalize mP v nq = v1 at *
  have q1 : v1.cell? ⟨m, 10278, none⟩ = some (.int .u8 0) := (hA1.cell 10278 (by decide)).trans (congrArg some (hk ▸ hT.msk))
  have q2 : v1.cell? ⟨m, 10582, none⟩ = some (.int .i64 c.line) := (hA1.cell 10582 (by decide)).trans (congrArg some hT.line)
  obtain ⟨j, hj⟩ := natP x hx.1
  obtain ⟨l, hl1⟩ := natP c.line hl.1
  have hj2 : j < 256 := by omega
  have hl2 : l < 240 := by omega
  rw [hl1] at q2
  subst hj
  obtain ⟨y, hy, _⟩ := hT.rows (l * 256 + j) (by omega)
  have q3 : v1.cell? ⟨m, 10585 + l * 256 + j, none⟩ = some (.int .u8 y) := by
    have := (hA1.cell (10585 + (l * 256 + j)) (by omega)).trans (congrArg some hy)
    rwa [← Nat.add_assoc] at this
  have z3 := hA1.fz (10585 + l * 256 + j)
  have hP : PX w0 m c (v1.drew.setCell ⟨m, 10585 + l * 256 + j, none⟩ (.int .u8 B)) := ⟨_, (hA1.past (Below.refl _ _).drew).set _ _, hT.byte _ B (.inr (.inr (by omega))) hB.2⟩
  clear hx hl hl1 hy hB hT hA1 hk
  have hl3 : (l : Int) < 240 := by omega
  have hl4 : (j : Int) < 256 := by omega
  go_upto_region 3 with (fail)
  go_still_tail 11, (by kernel_rfl)
  go_wp2
  (first | refine bodyPost_end (results_none rfl _ _ _) rfl ?_ | refine bodyPost_ret (results_none rfl _ _ _) rfl ?_)
  exact ⟨rfl, hP⟩

set_option maxRecDepth 100000 in
set_option maxHeartbeats 1000000 in
theorem pselectSprites_dark (h : PX w0 m c v) (hk : shw c 24 = false) :
    Calls Try.prog 59 #[.pointer (some ⟨m, 0, none⟩)] v fun e v' => e = .returned (.tuple #[]) ∧ PX w0 m { c with cnt := 0 } v' := by
  have FR := fun (u : World) (hu : PX w0 m { c with cnt := 0 } u) => prenders_any hu
  have hk2 : shw { c with cnt := 0 } 24 = false := hk
  rw [hk2] at FR
  clear hk2 hk
  obtain ⟨A, hA, hT⟩ := h
  have q1 : v.cell? ⟨m, 10578, none⟩ = some (.int .i64 c.cnt) := (hA.cell 10578 (by decide)).trans (congrArg some hT.cnt)
  have q2 : v.cell? ⟨m, 10582, none⟩ = some (.int .i64 c.line) := (hA.cell 10582 (by decide)).trans (congrArg some hT.line)
  have z1 := hA.fz 10578
  have hP : PX w0 m { c with cnt := 0 } (v.setCell ⟨m, 10578, none⟩ (.int .i64 0)) := ⟨_, hA.set 10578 _, hT.set_cnt 0⟩
  replace FR := FR _ hP
  clear hA hT
  go_enter Try.func59, Try.ntmps59
  go_wp2_with (go_at_call 57; refine FR.mono ?_; rintro e w2 ⟨rfl, rfl⟩)
  all_goals (first | refine bodyPost_end (results_none rfl _ _ _) rfl ?_ | refine bodyPost_ret (results_none rfl _ _ _) rfl ?_)
  all_goals exact ⟨rfl, hP⟩

/-- a dot where nothing is shown -/
def clkD (c : PC) : PC :=
  let c1 := if c.dot = 1 then flgC c else c
  nexC (if c.dot = 257 then { c1 with cnt := 0 } else c1)
structure POk (c : PC) : Prop where
  fr : 0 ≤ c.fr ∧ c.fr < 4611686018427387904
  line : 0 ≤ c.line ∧ c.line ≤ 261
  dot : 0 ≤ c.dot ∧ c.dot ≤ 340
theorem flg_line (c : PC) : (flgC c).line = c.line ∧ (flgC c).dot = c.dot ∧ (flgC c).msk = c.msk ∧ c.fr ≤ (flgC c).fr ∧ (flgC c).fr ≤ c.fr + 1 := by
  unfold flgC
  split
  · exact ⟨rfl, rfl, rfl, by show c.fr ≤ c.fr + 1; omega, Int.le_refl _⟩
  · split <;> exact ⟨rfl, rfl, rfl, Int.le_refl _, by show c.fr ≤ c.fr + 1; omega⟩

set_option maxRecDepth 100000 in
set_option maxHeartbeats 2000000 in
theorem pClock_1d (h : PX w0 m c v) (hk : c.msk = 0) (ok : POk c) (e1 : c.dot = 1) (e2 : c.line < 240) :
    Calls Try.prog 32 #[.pointer (some ⟨m, 0, none⟩)] v fun e v' => e = .returned (.tuple #[]) ∧ PX w0 m (clkD c) v' := by
  obtain ⟨f0, f1⟩ := ok.fr
  obtain ⟨g0, g1⟩ := ok.line
  obtain ⟨g2, g3⟩ := ok.dot
  have FF := pchangeFlags_any h ok.fr
  obtain ⟨A, hA, hT⟩ := h
  have qd : v.cell? ⟨m, 10583, none⟩ = some (.int .i64 1) := (hA.cell 10583 (by decide)).trans (congrArg some (hT.dot.trans (by rw [e1])))
  clear hA hT
  obtain ⟨l1, d1, k0, r0, r1⟩ := flg_line c
  have ec : clkD c = nexC (flgC c) := by unfold clkD; simp only [e1]; rfl
  rw [ec]
  rw [hk] at k0
  have k1 : shw (flgC c) 24 = false := by unfold shw; rw [k0]; decide +kernel
  clear ok ec
  generalize flgC c = c1 at *
  go_enter Try.func32, Try.ntmps32
  go_upto_region 3 with (go_at_call 55; refine FF.mono ?_; rintro e v1 ⟨rfl, h1⟩)
  clear FF qd
  obtain ⟨A1, hA1, hT1⟩ := h1
  have ql1 : v1.cell? ⟨m, 10582, none⟩ = some (.int .i64 c.line) := (hA1.cell 10582 (by decide)).trans (congrArg some (hT1.line.trans (by rw [l1])))
  have qd1 : v1.cell? ⟨m, 10583, none⟩ = some (.int .i64 1) := (hA1.cell 10583 (by decide)).trans (congrArg some (hT1.dot.trans (by rw [d1, e1])))
  have h1 : PX w0 m c1 v1 := ⟨A1, hA1, hT1⟩
  clear hA1 hT1
  go_upto_region 5 with (go_at_call 56; refine (pdraw_dark h1 k0 _ (by omega) (by omega)).mono ?_; rintro e v2 ⟨rfl, h2⟩)
  clear ql1 qd1 h1
  obtain ⟨A2, hA2, hT2⟩ := h2
  have ql2 : v2.cell? ⟨m, 10582, none⟩ = some (.int .i64 c.line) := (hA2.cell 10582 (by decide)).trans (congrArg some (hT2.line.trans (by rw [l1])))
  have qd2 : v2.cell? ⟨m, 10583, none⟩ = some (.int .i64 1) := (hA2.cell 10583 (by decide)).trans (congrArg some (hT2.dot.trans (by rw [d1, e1])))
  have h2 : PX w0 m c1 v2 := ⟨A2, hA2, hT2⟩
  clear hA2 hT2
  have FR := prenders_any h2
  have FN := pnextDot_any h2 (by omega) (by omega) (by omega)
  rw [k1] at FR
  go_wp2_with (first | (go_at_call 57; refine FR.mono ?_; rintro e w2 ⟨rfl, rfl⟩) | (go_at_call 60; refine FN.mono ?_; rintro e w2 ⟨rfl, hN⟩))
  (first | refine bodyPost_end (results_none rfl _ _ _) rfl ?_ | refine bodyPost_ret (results_none rfl _ _ _) rfl ?_)
  exact ⟨rfl, hN⟩

set_option maxRecDepth 100000 in
set_option maxHeartbeats 2000000 in
theorem pClock_1n (h : PX w0 m c v) (hk : c.msk = 0) (ok : POk c) (e1 : c.dot = 1) (e2 : ¬ c.line < 240) :
    Calls Try.prog 32 #[.pointer (some ⟨m, 0, none⟩)] v fun e v' => e = .returned (.tuple #[]) ∧ PX w0 m (clkD c) v' := by
  obtain ⟨f0, f1⟩ := ok.fr
  obtain ⟨g0, g1⟩ := ok.line
  obtain ⟨g2, g3⟩ := ok.dot
  have FF := pchangeFlags_any h ok.fr
  obtain ⟨A, hA, hT⟩ := h
  have qd : v.cell? ⟨m, 10583, none⟩ = some (.int .i64 1) := (hA.cell 10583 (by decide)).trans (congrArg some (hT.dot.trans (by rw [e1])))
  clear hA hT
  obtain ⟨l1, d1, k0, r0, r1⟩ := flg_line c
  have ec : clkD c = nexC (flgC c) := by unfold clkD; simp only [e1]; rfl
  rw [ec]
  rw [hk] at k0
  have k1 : shw (flgC c) 24 = false := by unfold shw; rw [k0]; decide +kernel
  clear ok ec
  generalize flgC c = c1 at *
  go_enter Try.func32, Try.ntmps32
  go_upto_region 3 with (go_at_call 55; refine FF.mono ?_; rintro e v1 ⟨rfl, h1⟩)
  clear FF qd
  obtain ⟨A1, hA1, hT1⟩ := h1
  have ql1 : v1.cell? ⟨m, 10582, none⟩ = some (.int .i64 c.line) := (hA1.cell 10582 (by decide)).trans (congrArg some (hT1.line.trans (by rw [l1])))
  have qd1 : v1.cell? ⟨m, 10583, none⟩ = some (.int .i64 1) := (hA1.cell 10583 (by decide)).trans (congrArg some (hT1.dot.trans (by rw [d1, e1])))
  have h1 : PX w0 m c1 v1 := ⟨A1, hA1, hT1⟩
  clear hA1 hT1
  have FR := prenders_any h1
  have FN := pnextDot_any h1 (by omega) (by omega) (by omega)
  rw [k1] at FR
  go_wp2_with (first | (go_at_call 57; refine FR.mono ?_; rintro e w2 ⟨rfl, rfl⟩) | (go_at_call 60; refine FN.mono ?_; rintro e w2 ⟨rfl, hN⟩))
  (first | refine bodyPost_end (results_none rfl _ _ _) rfl ?_ | refine bodyPost_ret (results_none rfl _ _ _) rfl ?_)
  exact ⟨rfl, hN⟩

set_option maxRecDepth 100000 in
set_option maxHeartbeats 2000000 in
theorem pClock_d (h : PX w0 m c v) (hk : c.msk = 0) (ok : POk c) (e1 : ¬ c.dot = 1) (e2 : ¬ c.dot = 257) (e3 : c.line < 240) (e4 : 1 ≤ c.dot) (e5 : c.dot ≤ 256) :
    Calls Try.prog 32 #[.pointer (some ⟨m, 0, none⟩)] v fun e v' => e = .returned (.tuple #[]) ∧ PX w0 m (clkD c) v' := by
  obtain ⟨f0, f1⟩ := ok.fr
  obtain ⟨g0, g1⟩ := ok.line
  obtain ⟨g2, g3⟩ := ok.dot
  obtain ⟨c1, hc1⟩ : ∃ c1, c1 = c := ⟨_, rfl⟩
  have l1 : c1.line = c.line := by rw [hc1]
  have d1 : c1.dot = c.dot := by rw [hc1]
  have k0 : c1.msk = 0 := by rw [hc1]; exact hk
  have k1 : shw c1 24 = false := by unfold shw; rw [k0]; decide +kernel
  have f2 : 0 ≤ c1.fr := by rw [hc1]; exact f0
  have n1 : (c.dot == 1) = false := by simp [e1]
  have n2 : (c.dot == 257) = false := by simp [e2]
  have ec : clkD c = nexC c1 := by simp only [clkD, if_neg e1, if_neg e2, hc1]
  rw [ec]
  have h1 : PX w0 m c1 v := by rw [hc1]; exact h
  clear h ec hc1 ok hk
  obtain ⟨v1, hv1⟩ : ∃ v1, v1 = v := ⟨_, rfl⟩
  rw [← hv1] at h1
  subst hv1
  obtain ⟨A1, hA1, hT1⟩ := h1
  have ql1 : v1.cell? ⟨m, 10582, none⟩ = some (.int .i64 c.line) := (hA1.cell 10582 (by decide)).trans (congrArg some (hT1.line.trans (by rw [l1])))
  have qd1 : v1.cell? ⟨m, 10583, none⟩ = some (.int .i64 c.dot) := (hA1.cell 10583 (by decide)).trans (congrArg some (hT1.dot.trans (by rw [d1])))
  have h1 : PX w0 m c1 v1 := ⟨A1, hA1, hT1⟩
  clear hA1 hT1
  go_enter Try.func32, Try.ntmps32
  go_upto_region 5 with (go_at_call 56; refine (pdraw_dark h1 k0 _ (by omega) (by omega)).mono ?_; rintro e v2 ⟨rfl, h2⟩)
  clear ql1 qd1 h1
  obtain ⟨A2, hA2, hT2⟩ := h2
  have ql2 : v2.cell? ⟨m, 10582, none⟩ = some (.int .i64 c.line) := (hA2.cell 10582 (by decide)).trans (congrArg some (hT2.line.trans (by rw [l1])))
  have qd2 : v2.cell? ⟨m, 10583, none⟩ = some (.int .i64 c.dot) := (hA2.cell 10583 (by decide)).trans (congrArg some (hT2.dot.trans (by rw [d1])))
  have h2 : PX w0 m c1 v2 := ⟨A2, hA2, hT2⟩
  clear hA2 hT2
  have FR := prenders_any h2
  have FN := pnextDot_any h2 (by omega) (by omega) (by omega)
  rw [k1] at FR
  go_wp2_with (first | (go_at_call 57; refine FR.mono ?_; rintro e w2 ⟨rfl, rfl⟩) | (go_at_call 60; refine FN.mono ?_; rintro e w2 ⟨rfl, hN⟩))
  (first | refine bodyPost_end (results_none rfl _ _ _) rfl ?_ | refine bodyPost_ret (results_none rfl _ _ _) rfl ?_)
  exact ⟨rfl, hN⟩

set_option maxRecDepth 100000 in
set_option maxHeartbeats 2000000 in
theorem pClock_n (h : PX w0 m c v) (hk : c.msk = 0) (ok : POk c) (e1 : ¬ c.dot = 1) (e2 : ¬ c.dot = 257) (e3 : ¬ (c.line < 240 ∧ 1 ≤ c.dot ∧ c.dot ≤ 256)) :
    Calls Try.prog 32 #[.pointer (some ⟨m, 0, none⟩)] v fun e v' => e = .returned (.tuple #[]) ∧ PX w0 m (clkD c) v' := by
  obtain ⟨f0, f1⟩ := ok.fr
  obtain ⟨g0, g1⟩ := ok.line
  obtain ⟨g2, g3⟩ := ok.dot
  obtain ⟨c1, hc1⟩ : ∃ c1, c1 = c := ⟨_, rfl⟩
  have l1 : c1.line = c.line := by rw [hc1]
  have d1 : c1.dot = c.dot := by rw [hc1]
  have k0 : c1.msk = 0 := by rw [hc1]; exact hk
  have k1 : shw c1 24 = false := by unfold shw; rw [k0]; decide +kernel
  have f2 : 0 ≤ c1.fr := by rw [hc1]; exact f0
  have n1 : (c.dot == 1) = false := by simp [e1]
  have n2 : (c.dot == 257) = false := by simp [e2]
  have ec : clkD c = nexC c1 := by simp only [clkD, if_neg e1, if_neg e2, hc1]
  rw [ec]
  have h1 : PX w0 m c1 v := by rw [hc1]; exact h
  clear h ec hc1 ok hk
  obtain ⟨v1, hv1⟩ : ∃ v1, v1 = v := ⟨_, rfl⟩
  rw [← hv1] at h1
  subst hv1
  obtain ⟨A1, hA1, hT1⟩ := h1
  have ql1 : v1.cell? ⟨m, 10582, none⟩ = some (.int .i64 c.line) := (hA1.cell 10582 (by decide)).trans (congrArg some (hT1.line.trans (by rw [l1])))
  have qd1 : v1.cell? ⟨m, 10583, none⟩ = some (.int .i64 c.dot) := (hA1.cell 10583 (by decide)).trans (congrArg some (hT1.dot.trans (by rw [d1])))
  have h1 : PX w0 m c1 v1 := ⟨A1, hA1, hT1⟩
  clear hA1 hT1
  rcases (by omega : ¬ c.line < 240 ∨ (c.line < 240 ∧ ¬ 1 ≤ c.dot) ∨ (c.line < 240 ∧ 1 ≤ c.dot ∧ ¬ c.dot ≤ 256)) with e4 | ⟨e4, e5⟩ | ⟨e4, e5, e6⟩
  all_goals
    go_enter Try.func32, Try.ntmps32
    have FR := prenders_any h1
    have FN := pnextDot_any h1 (by omega) (by omega) (by omega)
    rw [k1] at FR
    go_wp2_with (first | (go_at_call 57; refine FR.mono ?_; rintro e w2 ⟨rfl, rfl⟩) | (go_at_call 60; refine FN.mono ?_; rintro e w2 ⟨rfl, hN⟩))
    (first | refine bodyPost_end (results_none rfl _ _ _) rfl ?_ | refine bodyPost_ret (results_none rfl _ _ _) rfl ?_)
    exact ⟨rfl, hN⟩

set_option maxRecDepth 100000 in
set_option maxHeartbeats 2000000 in
theorem pClock_257 (h : PX w0 m c v) (hk : c.msk = 0) (ok : POk c) (e1 : c.dot = 257) :
    Calls Try.prog 32 #[.pointer (some ⟨m, 0, none⟩)] v fun e v' => e = .returned (.tuple #[]) ∧ PX w0 m (clkD c) v' := by
  obtain ⟨f0, f1⟩ := ok.fr
  obtain ⟨g0, g1⟩ := ok.line
  obtain ⟨g2, g3⟩ := ok.dot
  have ec : clkD c = nexC { c with cnt := 0 } := by have e0 : ¬ c.dot = 1 := (by omega); simp only [clkD, if_neg e0, if_pos e1]
  rw [ec]
  have k1 : shw c 24 = false := by unfold shw; rw [hk]; decide +kernel
  have FR := prenders_any h
  have FS := pselectSprites_dark h k1
  have FN := fun (u : World) (hu : PX w0 m { c with cnt := 0 } u) => pnextDot_any hu (by show 0 ≤ c.fr; omega) (by show 0 ≤ c.line ∧ c.line ≤ 261; omega) (by show 0 ≤ c.dot ∧ c.dot ≤ 340; omega)
  rw [k1] at FR
  obtain ⟨A, hA, hT⟩ := h
  have qd : v.cell? ⟨m, 10583, none⟩ = some (.int .i64 257) := (hA.cell 10583 (by decide)).trans (congrArg some (hT.dot.trans (by rw [e1])))
  have ql : v.cell? ⟨m, 10582, none⟩ = some (.int .i64 c.line) := (hA.cell 10582 (by decide)).trans (congrArg some hT.line)
  clear hA hT ec ok hk k1
  rcases (by omega : c.line < 240 ∨ ¬ c.line < 240) with e2 | e2
  all_goals
    go_enter Try.func32, Try.ntmps32
    go_wp2_with (first | (go_at_call 57; refine FR.mono ?_; rintro e w2 ⟨rfl, rfl⟩) | (go_at_call 59; refine FS.mono ?_; rintro e w2 ⟨rfl, hS⟩) | (go_at_call 60; refine (FN _ hS).mono ?_; rintro e w2 ⟨rfl, hN⟩))
    (first | refine bodyPost_end (results_none rfl _ _ _) rfl ?_ | refine bodyPost_ret (results_none rfl _ _ _) rfl ?_)
    exact ⟨rfl, hN⟩

theorem pClock_dark (h : PX w0 m c v) (hk : c.msk = 0) (ok : POk c) :
    Calls Try.prog 32 #[.pointer (some ⟨m, 0, none⟩)] v fun e v' => e = .returned (.tuple #[]) ∧ PX w0 m (clkD c) v' := by
  by_cases e1 : c.dot = 1
  · by_cases e2 : c.line < 240
    · exact pClock_1d h hk ok e1 e2
    · exact pClock_1n h hk ok e1 e2
  · by_cases e2 : c.dot = 257
    · exact pClock_257 h hk ok e2
    · by_cases e3 : c.line < 240 ∧ 1 ≤ c.dot ∧ c.dot ≤ 256
      · exact pClock_d h hk ok e1 e2 e3.1 e3.2.1 e3.2.2
      · exact pClock_n h hk ok e1 e2 e3

end Go.Proofs.Ythldppdkheclkaa
