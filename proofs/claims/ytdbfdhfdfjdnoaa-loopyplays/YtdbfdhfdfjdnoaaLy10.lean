/- The document's scroll: its methods, by value (walks). No law is claimed here. -/
import Derived.Test.YtdbfdhfdfjdnoaaLy7
namespace Go.Proofs.Ytdbfdhfdfjdnoaa
open Go.RowKit

/-- the document's scroll -/
structure XS where
  p : PL
  q : PL
  x : Int
  w : Bool
def xs (s : XS) : Value := xv s.p s.q s.x s.w
def conX (s : XS) (b : Int) : XS := { s with q := { s.q with a := b % 2, d := b / 2 % 2 } }
def offX (s : XS) (b : Int) : XS := if s.w = true then { s with q := { s.q with l := b / 8, r := b % 8 }, w := false } else { s with q := { s.q with c := b / 8 }, x := b % 8, w := true }
def adrX (s : XS) (b : Int) : XS := if s.w = true then { s with p := ofP (s.q.n / 256 * 256 + b), q := ofP (s.q.n / 256 * 256 + b), w := false } else { s with q := ofP (s.q.n % 256 + b % 64 * 256), w := true }
def stepX (s : XS) (far : Bool) : XS := { s with p := ofP ((s.p.n + (if far then 32 else 1)) % 32768) }
def rigX (s : XS) : XS := { s with p := { s.p with c := rc s.p.c, a := ra s.p.c s.p.a } }
def dowX (s : XS) : XS := { s with p := { s.p with l := dl s.p.l s.p.r, d := dd s.p.l s.p.d s.p.r, r := dr s.p.r } }
def linX (s : XS) : XS := { s with p := { s.p with c := s.q.c, a := s.q.a } }
def topX (s : XS) : XS := { s with p := { s.p with l := s.q.l, d := s.q.d, r := s.q.r } }

set_option maxRecDepth 100000 in
set_option maxHeartbeats 1000000 in
theorem rbits_p (p : PL) (w : World) (f : p.F) : Calls Try.prog 42 #[pv p] w fun e w' => e = .returned (.int .i64 p.n) ∧ Ext w w' := by
  obtain ⟨f1, f2, f3, f4, f5⟩ := f
  unfold pv PL.n enc
  go_enter Try.func42, Try.ntmps42
  go_wp2
  go_ret
  exact ⟨rfl, (Ext.refl _).alloc _⟩

set_option maxRecDepth 100000 in
set_option maxHeartbeats 1000000 in
theorem rrControl_any (p q : PL) (x : Int) (wr : Bool) (b : Int) (w : World) (hb : 0 ≤ b ∧ b < 256) :
    Calls Try.prog 13 #[xv p q x wr, .int .i64 b] w fun e w' => e = .returned (xs (conX ⟨p, q, x, wr⟩ b)) ∧ Ext w w' := by
  have r1 := ext_cell
  have r2 := ext_frozen
  have r3 := ext_setCell
  have r4 := ext_lt
  have r5 := ext_drew
  have r6 := ext_ext

  unfold xs xv
  go_enter Try.func13, Try.ntmps13
  go_wp2_with (fail)
  all_goals
    refine bodyPost_ret (by simp [results, Try.results13, go_sem, *] <;> (repeat' (first | exact rfl | refine And.intro ?_ ?_))) rfl ⟨rfl, ?_⟩
    repeat (first | exact Ext.refl _ | refine Ext.alloc ?_ _ | refine Ext.ext ?_ _ _ | refine Ext.drew ?_ | refine Ext.drewN ?_ _)

set_option maxRecDepth 100000 in
set_option maxHeartbeats 1000000 in
theorem rrLine_any (p q : PL) (x : Int) (wr : Bool) (w : World) :
    Calls Try.prog 26 #[xv p q x wr] w fun e w' => e = .returned (xs (linX ⟨p, q, x, wr⟩)) ∧ Ext w w' := by
  have r1 := ext_cell
  have r2 := ext_frozen
  have r3 := ext_setCell
  have r4 := ext_lt
  have r5 := ext_drew
  have r6 := ext_ext

  unfold xs xv
  go_enter Try.func26, Try.ntmps26
  go_wp2_with (fail)
  all_goals
    refine bodyPost_ret (by simp [results, Try.results26, go_sem, *] <;> (repeat' (first | exact rfl | refine And.intro ?_ ?_))) rfl ⟨rfl, ?_⟩
    repeat (first | exact Ext.refl _ | refine Ext.alloc ?_ _ | refine Ext.ext ?_ _ _ | refine Ext.drew ?_ | refine Ext.drewN ?_ _)

set_option maxRecDepth 100000 in
set_option maxHeartbeats 1000000 in
theorem rrTop_any (p q : PL) (x : Int) (wr : Bool) (w : World) :
    Calls Try.prog 28 #[xv p q x wr] w fun e w' => e = .returned (xs (topX ⟨p, q, x, wr⟩)) ∧ Ext w w' := by
  have r1 := ext_cell
  have r2 := ext_frozen
  have r3 := ext_setCell
  have r4 := ext_lt
  have r5 := ext_drew
  have r6 := ext_ext

  unfold xs xv
  go_enter Try.func28, Try.ntmps28
  go_wp2_with (fail)
  all_goals
    refine bodyPost_ret (by simp [results, Try.results28, go_sem, *] <;> (repeat' (first | exact rfl | refine And.intro ?_ ?_))) rfl ⟨rfl, ?_⟩
    repeat (first | exact Ext.refl _ | refine Ext.alloc ?_ _ | refine Ext.ext ?_ _ _ | refine Ext.drew ?_ | refine Ext.drewN ?_ _)

set_option maxRecDepth 100000 in
set_option maxHeartbeats 1000000 in
theorem rrOffset_any (p q : PL) (x : Int) (wr : Bool) (b : Int) (w : World) (hb : 0 ≤ b ∧ b < 256) :
    Calls Try.prog 15 #[xv p q x wr, .int .i64 b] w fun e w' => e = .returned (xs (offX ⟨p, q, x, wr⟩ b)) ∧ Ext w w' := by
  have r1 := ext_cell
  have r2 := ext_frozen
  have r3 := ext_setCell
  have r4 := ext_lt
  have r5 := ext_drew
  have r6 := ext_ext

  cases wr
  all_goals
    unfold xs xv
    go_enter Try.func15, Try.ntmps15
    go_wp2_with (fail)
    all_goals
      refine bodyPost_ret (by simp [results, Try.results15, go_sem, *] <;> (repeat' (first | exact rfl | refine And.intro ?_ ?_))) rfl ⟨rfl, ?_⟩
      repeat (first | exact Ext.refl _ | refine Ext.alloc ?_ _ | refine Ext.ext ?_ _ _ | refine Ext.drew ?_ | refine Ext.drewN ?_ _)

theorem xs_ext {a b : XS} (h0 : a.p = b.p) (h1 : a.q = b.q) (h2 : a.x = b.x) (h3 : a.w = b.w) : a = b := by
  cases a; cases b; simp only at *; subst_vars; rfl

set_option maxRecDepth 100000 in
set_option maxHeartbeats 1000000 in
theorem rrRight_any (p q : PL) (x : Int) (wr : Bool) (w : World) (fp : p.F) (fq : q.F) :
    Calls Try.prog 22 #[xv p q x wr] w fun e w' => e = .returned (xs (rigX ⟨p, q, x, wr⟩)) ∧ Ext w w' := by
  obtain ⟨c, l, a, d, r⟩ := p
  obtain ⟨cq, lq, aq, dq, rq⟩ := q
  obtain ⟨f1, f2, f3, f4, f5⟩ := fp
  obtain ⟨g1, g2, g3, g4, g5⟩ := fq
  simp only at f1 f2 f3 f4 f5 g1 g2 g3 g4 g5
  have r1 := ext_cell
  have r2 := ext_frozen
  have r3 := ext_setCell
  have r4 := ext_lt
  have r5 := ext_drew
  have r6 := ext_ext
  rcases (by by_cases e : c = 31; exact .inl e; exact .inr e : c = 31 ∨ ¬ c = 31) with h | h
  · subst h
    rw [show rigX ⟨⟨31, l, a, d, r⟩, ⟨cq, lq, aq, dq, rq⟩, x, wr⟩ = ⟨⟨0, l, 1 - a, d, r⟩, ⟨cq, lq, aq, dq, rq⟩, x, wr⟩ by rfl]
    unfold xs xv
    simp only
    go_enter Try.func22, Try.ntmps22
    go_wp2_with (fail)
    all_goals
      refine bodyPost_ret (by simp [results, Try.results22, go_sem, *] <;> (repeat' (first | exact rfl | refine And.intro ?_ ?_))) rfl ⟨rfl, ?_⟩
      repeat (first | exact Ext.refl _ | refine Ext.alloc ?_ _ | refine Ext.ext ?_ _ _ | refine Ext.drew ?_ | refine Ext.drewN ?_ _)
  · skip
    rw [show rigX ⟨⟨c, l, a, d, r⟩, ⟨cq, lq, aq, dq, rq⟩, x, wr⟩ = ⟨⟨c + 1, l, a, d, r⟩, ⟨cq, lq, aq, dq, rq⟩, x, wr⟩ by unfold rigX rc ra; simp only; rw [if_neg h, if_neg h]]
    unfold xs xv
    simp only
    go_enter Try.func22, Try.ntmps22
    go_wp2_with (fail)
    all_goals
      refine bodyPost_ret (by simp [results, Try.results22, go_sem, *] <;> (repeat' (first | exact rfl | refine And.intro ?_ ?_))) rfl ⟨rfl, ?_⟩
      repeat (first | exact Ext.refl _ | refine Ext.alloc ?_ _ | refine Ext.ext ?_ _ _ | refine Ext.drew ?_ | refine Ext.drewN ?_ _)

set_option maxRecDepth 100000 in
set_option maxHeartbeats 1000000 in
theorem rrDown_any (p q : PL) (x : Int) (wr : Bool) (w : World) (fp : p.F) (fq : q.F) :
    Calls Try.prog 24 #[xv p q x wr] w fun e w' => e = .returned (xs (dowX ⟨p, q, x, wr⟩)) ∧ Ext w w' := by
  obtain ⟨c, l, a, d, r⟩ := p
  obtain ⟨cq, lq, aq, dq, rq⟩ := q
  obtain ⟨f1, f2, f3, f4, f5⟩ := fp
  obtain ⟨g1, g2, g3, g4, g5⟩ := fq
  simp only at f1 f2 f3 f4 f5 g1 g2 g3 g4 g5
  have r1 := ext_cell
  have r2 := ext_frozen
  have r3 := ext_setCell
  have r4 := ext_lt
  have r5 := ext_drew
  have r6 := ext_ext
  rcases (by by_cases e : r = 7; exact .inr e; exact .inl e : ¬ r = 7 ∨ r = 7) with h | h
  rotate_left
  rcases (by by_cases e : l = 29; exact .inl e; by_cases e2 : l = 31; exact .inr (.inl e2); exact .inr (.inr ⟨e, e2⟩) : l = 29 ∨ l = 31 ∨ (¬ l = 29 ∧ ¬ l = 31)) with h2 | h2 | ⟨h2, h3⟩
  rotate_left 3
  · skip
    rw [show dowX ⟨⟨c, l, a, d, r⟩, ⟨cq, lq, aq, dq, rq⟩, x, wr⟩ = ⟨⟨c, l, a, d, r + 1⟩, ⟨cq, lq, aq, dq, rq⟩, x, wr⟩ by unfold dowX dl dd dr; simp only; rw [if_neg h, if_neg h, if_neg h]]
    unfold xs xv
    simp only
    go_enter Try.func24, Try.ntmps24
    go_wp2_with (fail)
    all_goals
      refine bodyPost_ret (by simp [results, Try.results24, go_sem, *] <;> (repeat' (first | exact rfl | refine And.intro ?_ ?_))) rfl ⟨rfl, ?_⟩
      repeat (first | exact Ext.refl _ | refine Ext.alloc ?_ _ | refine Ext.ext ?_ _ _ | refine Ext.drew ?_ | refine Ext.drewN ?_ _)
  · subst h; subst h2
    rw [show dowX ⟨⟨c, 29, a, d, 7⟩, ⟨cq, lq, aq, dq, rq⟩, x, wr⟩ = ⟨⟨c, 0, a, 1 - d, 0⟩, ⟨cq, lq, aq, dq, rq⟩, x, wr⟩ by rfl]
    unfold xs xv
    simp only
    go_enter Try.func24, Try.ntmps24
    go_wp2_with (fail)
    all_goals
      refine bodyPost_ret (by simp [results, Try.results24, go_sem, *] <;> (repeat' (first | exact rfl | refine And.intro ?_ ?_))) rfl ⟨rfl, ?_⟩
      repeat (first | exact Ext.refl _ | refine Ext.alloc ?_ _ | refine Ext.ext ?_ _ _ | refine Ext.drew ?_ | refine Ext.drewN ?_ _)
  · subst h; subst h2
    rw [show dowX ⟨⟨c, 31, a, d, 7⟩, ⟨cq, lq, aq, dq, rq⟩, x, wr⟩ = ⟨⟨c, 0, a, d, 0⟩, ⟨cq, lq, aq, dq, rq⟩, x, wr⟩ by rfl]
    unfold xs xv
    simp only
    go_enter Try.func24, Try.ntmps24
    go_wp2_with (fail)
    all_goals
      refine bodyPost_ret (by simp [results, Try.results24, go_sem, *] <;> (repeat' (first | exact rfl | refine And.intro ?_ ?_))) rfl ⟨rfl, ?_⟩
      repeat (first | exact Ext.refl _ | refine Ext.alloc ?_ _ | refine Ext.ext ?_ _ _ | refine Ext.drew ?_ | refine Ext.drewN ?_ _)
  · subst h
    rw [show dowX ⟨⟨c, l, a, d, 7⟩, ⟨cq, lq, aq, dq, rq⟩, x, wr⟩ = ⟨⟨c, l + 1, a, d, 0⟩, ⟨cq, lq, aq, dq, rq⟩, x, wr⟩ by unfold dowX dl dd dr; simp only [if_true, h2, h3, if_false]]
    unfold xs xv
    simp only
    go_enter Try.func24, Try.ntmps24
    go_wp2_with (fail)
    all_goals
      refine bodyPost_ret (by simp [results, Try.results24, go_sem, *] <;> (repeat' (first | exact rfl | refine And.intro ?_ ?_))) rfl ⟨rfl, ?_⟩
      repeat (first | exact Ext.refl _ | refine Ext.alloc ?_ _ | refine Ext.ext ?_ _ _ | refine Ext.drew ?_ | refine Ext.drewN ?_ _)

set_option maxRecDepth 100000 in
set_option maxHeartbeats 1000000 in
theorem rrStep_any (p q : PL) (x : Int) (wr : Bool) (far : Bool) (w : World) (fp : p.F) (fq : q.F) :
    Calls Try.prog 20 #[xv p q x wr, .bool far] w fun e w' => e = .returned (xs (stepX ⟨p, q, x, wr⟩ far)) ∧ Ext w w' := by
  obtain ⟨c, l, a, d, r⟩ := p
  obtain ⟨cq, lq, aq, dq, rq⟩ := q
  obtain ⟨f1, f2, f3, f4, f5⟩ := fp
  obtain ⟨g1, g2, g3, g4, g5⟩ := fq
  simp only at f1 f2 f3 f4 f5 g1 g2 g3 g4 g5
  have r1 := ext_cell
  have r2 := ext_frozen
  have r3 := ext_setCell
  have r4 := ext_lt
  have r5 := ext_drew
  have r6 := ext_ext
  have F0 := fun w => rbits_p ⟨c, l, a, d, r⟩ w ⟨f1, f2, f3, f4, f5⟩
  have bN := (show Fld c l a d r from ⟨f1, f2, f3, f4, f5⟩).is.1
  obtain ⟨N, hN⟩ : ∃ N, (⟨c, l, a, d, r⟩ : PL).n = N := ⟨_, rfl⟩
  rw [show enc c l a d r = N from hN] at bN
  rw [hN] at F0
  cases far
  · have F1 := fun w => rof_p ((N + 1) % 32768) w (by omega) (by omega)
    have y1 : IntKind.i64.wrap (N + 1) = N + 1 := IntWalk.i64_in _ ⟨by omega, by omega⟩
    have y2 : (N + 1).tmod 32768 = (N + 1) % 32768 := Int.tmod_eq_emod_of_nonneg (by omega)
    obtain ⟨M, hM⟩ : ∃ M, (N + 1) % 32768 = M := ⟨_, rfl⟩
    rw [hM] at F1 y2
    unfold pv at F0 F1
    rw [show stepX ⟨⟨c, l, a, d, r⟩, ⟨cq, lq, aq, dq, rq⟩, x, wr⟩ false = ⟨ofP M, ⟨cq, lq, aq, dq, rq⟩, x, wr⟩ by unfold stepX; simp only [hN, if_true, if_false, Bool.false_eq_true, hM]]
    unfold xs xv
    simp only
    go_enter Try.func20, Try.ntmps20
    go_wp2_with (first | (go_at_call 42; refine (F0 _).mono ?_; rintro e w' ⟨rfl, os, k, rfl⟩) | (go_at_call 35; refine (F1 _).mono ?_; rintro e w' ⟨rfl, os, k, rfl⟩))
    all_goals
      refine bodyPost_ret (by simp [results, Try.results20, go_sem, *] <;> (repeat' (first | exact rfl | refine And.intro ?_ ?_))) rfl ⟨rfl, ?_⟩
      repeat (first | exact Ext.refl _ | refine Ext.alloc ?_ _ | refine Ext.ext ?_ _ _ | refine Ext.drew ?_ | refine Ext.drewN ?_ _)
  · have F1 := fun w => rof_p ((N + 32) % 32768) w (by omega) (by omega)
    have y1 : IntKind.i64.wrap (N + 32) = N + 32 := IntWalk.i64_in _ ⟨by omega, by omega⟩
    have y2 : (N + 32).tmod 32768 = (N + 32) % 32768 := Int.tmod_eq_emod_of_nonneg (by omega)
    obtain ⟨M, hM⟩ : ∃ M, (N + 32) % 32768 = M := ⟨_, rfl⟩
    rw [hM] at F1 y2
    unfold pv at F0 F1
    rw [show stepX ⟨⟨c, l, a, d, r⟩, ⟨cq, lq, aq, dq, rq⟩, x, wr⟩ true = ⟨ofP M, ⟨cq, lq, aq, dq, rq⟩, x, wr⟩ by unfold stepX; simp only [hN, if_true, if_false, Bool.false_eq_true, hM]]
    unfold xs xv
    simp only
    go_enter Try.func20, Try.ntmps20
    go_wp2_with (first | (go_at_call 42; refine (F0 _).mono ?_; rintro e w' ⟨rfl, os, k, rfl⟩) | (go_at_call 35; refine (F1 _).mono ?_; rintro e w' ⟨rfl, os, k, rfl⟩))
    all_goals
      refine bodyPost_ret (by simp [results, Try.results20, go_sem, *] <;> (repeat' (first | exact rfl | refine And.intro ?_ ?_))) rfl ⟨rfl, ?_⟩
      repeat (first | exact Ext.refl _ | refine Ext.alloc ?_ _ | refine Ext.ext ?_ _ _ | refine Ext.drew ?_ | refine Ext.drewN ?_ _)

set_option maxRecDepth 100000 in
set_option maxHeartbeats 1000000 in
theorem rrAddress_any (p q : PL) (x : Int) (wr : Bool) (b : Int) (w : World) (fp : p.F) (fq : q.F) (hb : 0 ≤ b ∧ b < 256) :
    Calls Try.prog 17 #[xv p q x wr, .int .i64 b] w fun e w' => e = .returned (xs (adrX ⟨p, q, x, wr⟩ b)) ∧ Ext w w' := by
  obtain ⟨c, l, a, d, r⟩ := p
  obtain ⟨cq, lq, aq, dq, rq⟩ := q
  obtain ⟨f1, f2, f3, f4, f5⟩ := fp
  obtain ⟨g1, g2, g3, g4, g5⟩ := fq
  simp only at f1 f2 f3 f4 f5 g1 g2 g3 g4 g5
  have r1 := ext_cell
  have r2 := ext_frozen
  have r3 := ext_setCell
  have r4 := ext_lt
  have r5 := ext_drew
  have r6 := ext_ext
  have F0 := fun w => rbits_p ⟨cq, lq, aq, dq, rq⟩ w ⟨g1, g2, g3, g4, g5⟩
  have bN := (show Fld cq lq aq dq rq from ⟨g1, g2, g3, g4, g5⟩).is.1
  obtain ⟨N, hN⟩ : ∃ N, (⟨cq, lq, aq, dq, rq⟩ : PL).n = N := ⟨_, rfl⟩
  rw [show enc cq lq aq dq rq = N from hN] at bN
  rw [hN] at F0
  have y1 : N.tdiv 256 = N / 256 := Int.tdiv_eq_ediv_of_nonneg (by omega)
  have y2 : N.tmod 256 = N % 256 := Int.tmod_eq_emod_of_nonneg (by omega)
  have y3 : b.tmod 64 = b % 64 := Int.tmod_eq_emod_of_nonneg (by omega)
  have y4 : IntKind.i64.wrap (N / 256 * 256) = N / 256 * 256 := IntWalk.i64_in _ ⟨by omega, by omega⟩
  have y5 : IntKind.i64.wrap (N / 256 * 256 + b) = N / 256 * 256 + b := IntWalk.i64_in _ ⟨by omega, by omega⟩
  cases wr
  · have F1 := fun w => rof_p (N % 256 + b % 64 * 256) w (by omega) (by omega)
    obtain ⟨M, hM⟩ : ∃ M, N % 256 + b % 64 * 256 = M := ⟨_, rfl⟩
    rw [hM] at F1
    unfold pv at F0 F1
    rw [show adrX ⟨⟨c, l, a, d, r⟩, ⟨cq, lq, aq, dq, rq⟩, x, false⟩ b = ⟨⟨c, l, a, d, r⟩, ofP M, x, true⟩ by unfold adrX; simp only [hN, if_false, Bool.false_eq_true, hM]]
    unfold xs xv
    simp only
    go_enter Try.func17, Try.ntmps17
    go_wp2_with (first | (go_at_call 42; refine (F0 _).mono ?_; rintro e w' ⟨rfl, os, k, rfl⟩) | (go_at_call 35; refine (F1 _).mono ?_; rintro e w' ⟨rfl, os, k, rfl⟩))
    all_goals
      refine bodyPost_ret (by simp [results, Try.results17, go_sem, *] <;> (repeat' (first | exact rfl | refine And.intro ?_ ?_))) rfl ⟨rfl, ?_⟩
      repeat (first | exact Ext.refl _ | refine Ext.alloc ?_ _ | refine Ext.ext ?_ _ _ | refine Ext.drew ?_ | refine Ext.drewN ?_ _)
  · have F1 := fun w => rof_p (N / 256 * 256 + b) w (by omega) (by omega)
    obtain ⟨M, hM⟩ : ∃ M, N / 256 * 256 + b = M := ⟨_, rfl⟩
    rw [hM] at F1
    unfold pv at F0 F1
    rw [show adrX ⟨⟨c, l, a, d, r⟩, ⟨cq, lq, aq, dq, rq⟩, x, true⟩ b = ⟨ofP M, ofP M, x, false⟩ by unfold adrX; simp only [hN, if_true, hM]]
    unfold xs xv
    simp only
    go_enter Try.func17, Try.ntmps17
    go_wp2_with (first | (go_at_call 42; refine (F0 _).mono ?_; rintro e w' ⟨rfl, os, k, rfl⟩) | (go_at_call 35; refine (F1 _).mono ?_; rintro e w' ⟨rfl, os, k, rfl⟩))
    all_goals
      refine bodyPost_ret (by simp [results, Try.results17, go_sem, *] <;> (repeat' (first | exact rfl | refine And.intro ?_ ?_))) rfl ⟨rfl, ?_⟩
      repeat (first | exact Ext.refl _ | refine Ext.alloc ?_ _ | refine Ext.ext ?_ _ _ | refine Ext.drew ?_ | refine Ext.drewN ?_ _)

end Go.Proofs.Ytdbfdhfdfjdnoaa
