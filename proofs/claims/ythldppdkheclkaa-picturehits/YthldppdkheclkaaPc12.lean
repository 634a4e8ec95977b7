/- The picture unit: flags, the scroll's moves, the next dot. No law is claimed here. -/
import Derived.Test.YthldppdkheclkaaPc11
set_option linter.unusedSimpArgs false
set_option linter.unusedVariables false
namespace Go.Proofs.Ythldppdkheclkaa
open Go.RowKit Go.Great

variable {w0 v0 v v' : World} {m : Nat} {A : Nat → Value} {c : PC}

theorem LIn.rig {s : LS} (h : LIn s) : LIn (rigL s) := by
  rw [rigL_is h]; obtain ⟨h1, h2, h3⟩ := h
  refine ⟨?_, h2, h3⟩
  simp only
  generalize s.v = a at *
  split <;> omega
theorem LIn.dow {s : LS} (h : LIn s) : LIn (dowL s) := by
  rw [dowL_is h]; obtain ⟨h1, h2, h3⟩ := h
  refine ⟨?_, h2, h3⟩
  simp only
  generalize s.v = a at *
  split
  · split
    · omega
    · split <;> omega
  · omega
theorem LIn.lin {s : LS} (h : LIn s) : LIn (linL s) := by
  rw [linL_is h]; obtain ⟨h1, h2, h3⟩ := h
  refine ⟨?_, h2, h3⟩
  simp only
  omega
theorem LIn.top {s : LS} (h : LIn s) : LIn (topL s) := by
  rw [topL_is h]; obtain ⟨h1, h2, h3⟩ := h
  refine ⟨?_, h2, h3⟩
  simp only
  omega

def movL (c : PC) : LS :=
  if c.dot = 256 then dowL (scrC c) else if c.dot = 257 then linL (scrC c)
  else if 0 < c.dot ∧ c.dot ≤ 248 ∧ c.dot % 8 = 0 then rigL (scrC c)
  else if c.line = 261 ∧ 280 ≤ c.dot ∧ c.dot ≤ 304 then topL (scrC c) else scrC c
theorem LIn.mov (h : LIn (scrC c)) : LIn (movL c) := by
  unfold movL; (repeat' split)
  · exact h.dow
  · exact h.lin
  · exact h.rig
  · exact h.top
  · exact h
theorem withS_self (c : PC) : withS c (scrC c) = c := rfl

set_option maxRecDepth 100000 in
set_option maxHeartbeats 2000000 in
theorem ST.mov_dow (h : ST w0 v0 m A c v) (e : c.dot = 256) :
    Calls Try.prog 58 #[.pointer (some ⟨m, 0, none⟩)] v fun e v' => e = .returned (.tuple #[]) ∧ ST w0 v0 m A (withS c (dowL (scrC c))) v' := by
  have q1 := h.c_dot
  have q2 := h.c_line
  obtain ⟨s0, s1, s2, s3, y0, y1, y2, y3⟩ := h.sc
  have FL := fun u => lyDown_any (scrC c).v (scrC c).t (scrC c).x (scrC c).w u
  rw [show (⟨(scrC c).v, (scrC c).t, (scrC c).x, (scrC c).w⟩ : LS) = scrC c from rfl] at FL
  unfold ls lv at FL
  generalize scrC c = s at *
  generalize dowL s = L at *
  generalize c.dot = d at *
  generalize c.line = l at *
  subst e
  go_enter Try.func58, Try.ntmps58
  go_wp2_with (go_at_call 83; refine (FL v).mono ?_; clear FL s0 s1 s2 s3 y0 y1 y2 y3; rintro e v2 ⟨rfl, hE⟩; have h2 := h.past hE.below; obtain ⟨s0, s1, s2, s3, y0, y1, y2, y3⟩ := h2.sc)
  have h3 := h2.putS L
  (first | refine bodyPost_end (results_none rfl _ _ _) rfl ?_ | refine bodyPost_ret (results_none rfl _ _ _) rfl ?_)
  exact ⟨rfl, h3⟩

set_option maxRecDepth 100000 in
set_option maxHeartbeats 2000000 in
theorem ST.mov_lin (h : ST w0 v0 m A c v) (e : c.dot = 257) :
    Calls Try.prog 58 #[.pointer (some ⟨m, 0, none⟩)] v fun e v' => e = .returned (.tuple #[]) ∧ ST w0 v0 m A (withS c (linL (scrC c))) v' := by
  have q1 := h.c_dot
  have q2 := h.c_line
  obtain ⟨s0, s1, s2, s3, y0, y1, y2, y3⟩ := h.sc
  have FL := fun u => lyLine_any (scrC c).v (scrC c).t (scrC c).x (scrC c).w u
  rw [show (⟨(scrC c).v, (scrC c).t, (scrC c).x, (scrC c).w⟩ : LS) = scrC c from rfl] at FL
  unfold ls lv at FL
  generalize scrC c = s at *
  generalize linL s = L at *
  generalize c.dot = d at *
  generalize c.line = l at *
  subst e
  go_enter Try.func58, Try.ntmps58
  go_wp2_with (go_at_call 84; refine (FL v).mono ?_; clear FL s0 s1 s2 s3 y0 y1 y2 y3; rintro e v2 ⟨rfl, hE⟩; have h2 := h.past hE.below; obtain ⟨s0, s1, s2, s3, y0, y1, y2, y3⟩ := h2.sc)
  have h3 := h2.putS L
  (first | refine bodyPost_end (results_none rfl _ _ _) rfl ?_ | refine bodyPost_ret (results_none rfl _ _ _) rfl ?_)
  exact ⟨rfl, h3⟩

set_option maxRecDepth 100000 in
set_option maxHeartbeats 2000000 in
theorem ST.mov_rig (h : ST w0 v0 m A c v) (e1 : 0 < c.dot) (e2 : c.dot ≤ 248) (e3 : c.dot % 8 = 0) :
    Calls Try.prog 58 #[.pointer (some ⟨m, 0, none⟩)] v fun e v' => e = .returned (.tuple #[]) ∧ ST w0 v0 m A (withS c (rigL (scrC c))) v' := by
  have q1 := h.c_dot
  have q2 := h.c_line
  obtain ⟨s0, s1, s2, s3, y0, y1, y2, y3⟩ := h.sc
  have FL := fun u => lyRight_any (scrC c).v (scrC c).t (scrC c).x (scrC c).w u
  rw [show (⟨(scrC c).v, (scrC c).t, (scrC c).x, (scrC c).w⟩ : LS) = scrC c from rfl] at FL
  unfold ls lv at FL
  generalize scrC c = s at *
  generalize rigL s = L at *
  generalize c.dot = d at *
  generalize c.line = l at *
  have t0 : d.tmod 8 = d % 8 := Int.tmod_eq_emod_of_nonneg (by omega)
  have n1 : (d == 256) = false := by simp; omega
  have n2 : (d == 257) = false := by simp; omega
  go_enter Try.func58, Try.ntmps58
  go_wp2_with (go_at_call 85; refine (FL v).mono ?_; clear FL s0 s1 s2 s3 y0 y1 y2 y3; rintro e v2 ⟨rfl, hE⟩; have h2 := h.past hE.below; obtain ⟨s0, s1, s2, s3, y0, y1, y2, y3⟩ := h2.sc)
  have h3 := h2.putS L
  (first | refine bodyPost_end (results_none rfl _ _ _) rfl ?_ | refine bodyPost_ret (results_none rfl _ _ _) rfl ?_)
  exact ⟨rfl, h3⟩

set_option maxRecDepth 100000 in
set_option maxHeartbeats 2000000 in
theorem ST.mov_top (h : ST w0 v0 m A c v) (e1 : c.line = 261) (e2 : 280 ≤ c.dot) (e3 : c.dot ≤ 304) :
    Calls Try.prog 58 #[.pointer (some ⟨m, 0, none⟩)] v fun e v' => e = .returned (.tuple #[]) ∧ ST w0 v0 m A (withS c (topL (scrC c))) v' := by
  have q1 := h.c_dot
  have q2 := h.c_line
  obtain ⟨s0, s1, s2, s3, y0, y1, y2, y3⟩ := h.sc
  have FL := fun u => lyTop_any (scrC c).v (scrC c).t (scrC c).x (scrC c).w u
  rw [show (⟨(scrC c).v, (scrC c).t, (scrC c).x, (scrC c).w⟩ : LS) = scrC c from rfl] at FL
  unfold ls lv at FL
  generalize scrC c = s at *
  generalize topL s = L at *
  generalize c.dot = d at *
  generalize c.line = l at *
  have t0 : d.tmod 8 = d % 8 := Int.tmod_eq_emod_of_nonneg (by omega)
  have n1 : (d == 256) = false := by simp; omega
  have n2 : (d == 257) = false := by simp; omega
  have n3 : ¬ d ≤ 248 := by omega
  subst e1
  go_enter Try.func58, Try.ntmps58
  go_wp2_with (go_at_call 86; refine (FL v).mono ?_; clear FL s0 s1 s2 s3 y0 y1 y2 y3; rintro e v2 ⟨rfl, hE⟩; have h2 := h.past hE.below; obtain ⟨s0, s1, s2, s3, y0, y1, y2, y3⟩ := h2.sc)
  have h3 := h2.putS L
  (first | refine bodyPost_end (results_none rfl _ _ _) rfl ?_ | refine bodyPost_ret (results_none rfl _ _ _) rfl ?_)
  exact ⟨rfl, h3⟩

set_option maxRecDepth 100000 in
set_option maxHeartbeats 4000000 in
theorem ST.mov_no (h : ST w0 v0 m A c v) (n1 : ¬ c.dot = 256) (n2 : ¬ c.dot = 257) (n3 : ¬ (0 < c.dot ∧ c.dot ≤ 248 ∧ c.dot % 8 = 0)) (n4 : ¬ (c.line = 261 ∧ 280 ≤ c.dot ∧ c.dot ≤ 304)) (hd : 0 ≤ c.dot) :
    Calls Try.prog 58 #[.pointer (some ⟨m, 0, none⟩)] v fun e v' => e = .returned (.tuple #[]) ∧ ST w0 v0 m A c v' := by
  have q1 := h.c_dot
  have q2 := h.c_line
  generalize c.dot = d at *
  generalize c.line = l at *
  have t0 : d.tmod 8 = d % 8 := Int.tmod_eq_emod_of_nonneg (by omega)
  have d1 : (d == 256) = false := by simp [n1]
  have d2 : (d == 257) = false := by simp [n2]
  rcases (by omega : d = 0 ∨ (0 < d ∧ 248 < d) ∨ (0 < d ∧ d ≤ 248 ∧ ¬ d % 8 = 0)) with a1 | ⟨a1, a2⟩ | ⟨a1, a2, a3⟩
  · subst a1
    rcases (by omega : l = 261 ∨ ¬ l = 261) with b1 | b1
    · subst b1
      go_enter Try.func58, Try.ntmps58
      go_wp2
      (first | refine bodyPost_end (results_none rfl _ _ _) rfl ?_ | refine bodyPost_ret (results_none rfl _ _ _) rfl ?_)
      exact ⟨rfl, h⟩
    · have b2 : (l == 261) = false := by simp [b1]
      go_enter Try.func58, Try.ntmps58
      go_wp2
      (first | refine bodyPost_end (results_none rfl _ _ _) rfl ?_ | refine bodyPost_ret (results_none rfl _ _ _) rfl ?_)
      exact ⟨rfl, h⟩
  · have a3 : ¬ d ≤ 248 := by omega
    rcases (by omega : ¬ l = 261 ∨ (l = 261 ∧ ¬ 280 ≤ d) ∨ (l = 261 ∧ 280 ≤ d ∧ ¬ d ≤ 304)) with b1 | ⟨b1, b2⟩ | ⟨b1, b2, b3⟩
    · have b2 : (l == 261) = false := by simp [b1]
      go_enter Try.func58, Try.ntmps58
      go_wp2
      (first | refine bodyPost_end (results_none rfl _ _ _) rfl ?_ | refine bodyPost_ret (results_none rfl _ _ _) rfl ?_)
      exact ⟨rfl, h⟩
    · subst b1
      go_enter Try.func58, Try.ntmps58
      go_wp2
      (first | refine bodyPost_end (results_none rfl _ _ _) rfl ?_ | refine bodyPost_ret (results_none rfl _ _ _) rfl ?_)
      exact ⟨rfl, h⟩
    · subst b1
      go_enter Try.func58, Try.ntmps58
      go_wp2
      (first | refine bodyPost_end (results_none rfl _ _ _) rfl ?_ | refine bodyPost_ret (results_none rfl _ _ _) rfl ?_)
      exact ⟨rfl, h⟩
  · have a4 : (d % 8 == 0) = false := by simp [a3]
    have a5 : ¬ 280 ≤ d := by omega
    rcases (by omega : l = 261 ∨ ¬ l = 261) with b1 | b1
    · subst b1
      go_enter Try.func58, Try.ntmps58
      go_wp2
      (first | refine bodyPost_end (results_none rfl _ _ _) rfl ?_ | refine bodyPost_ret (results_none rfl _ _ _) rfl ?_)
      exact ⟨rfl, h⟩
    · have b2 : (l == 261) = false := by simp [b1]
      go_enter Try.func58, Try.ntmps58
      go_wp2
      (first | refine bodyPost_end (results_none rfl _ _ _) rfl ?_ | refine bodyPost_ret (results_none rfl _ _ _) rfl ?_)
      exact ⟨rfl, h⟩

theorem ST.move (h : ST w0 v0 m A c v) (hd : 0 ≤ c.dot) :
    Calls Try.prog 58 #[.pointer (some ⟨m, 0, none⟩)] v fun e v' => e = .returned (.tuple #[]) ∧ ST w0 v0 m A (withS c (movL c)) v' := by
  unfold movL
  by_cases e1 : c.dot = 256
  · rw [if_pos e1]; exact h.mov_dow e1
  · rw [if_neg e1]
    by_cases e2 : c.dot = 257
    · rw [if_pos e2]; exact h.mov_lin e2
    · rw [if_neg e2]
      by_cases e3 : 0 < c.dot ∧ c.dot ≤ 248 ∧ c.dot % 8 = 0
      · rw [if_pos e3]; exact h.mov_rig e3.1 e3.2.1 e3.2.2
      · rw [if_neg e3]
        by_cases e4 : c.line = 261 ∧ 280 ≤ c.dot ∧ c.dot ≤ 304
        · rw [if_pos e4]; exact h.mov_top e4.1 e4.2.1 e4.2.2
        · rw [if_neg e4]; exact h.mov_no e1 e2 e3 e4 hd

set_option maxRecDepth 100000 in
set_option maxHeartbeats 1000000 in
theorem ST.next (h : ST w0 v0 m A c v) (hf : 0 ≤ c.fr) (hl : 0 ≤ c.line ∧ c.line ≤ 261) (hd : 0 ≤ c.dot ∧ c.dot ≤ 340) :
    Calls Try.prog 60 #[.pointer (some ⟨m, 0, none⟩)] v fun e v' => e = .returned (.tuple #[]) ∧ ST w0 v0 m A (nexC c) v' := by
  have QL := fun n => Calls.more_q (w := v) (n := n) ((plastOfLine_any (h.past (mP_below v n)).px hf).mono fun _ _ hh => ⟨hh.1, by rw [hh.2]; exact Below.refl _ _⟩)
  rw [show (if c.line = 261 ∧ c.fr % 2 = 0 ∧ shw c 24 = true then (339 : Int) else 340) = lasC c from rfl] at QL
  have hm := h.lt
  have x2 : ∀ n, (mP v n).cell? ⟨m, 10583, none⟩ = some (.int .i64 c.dot) := fun n => mP_cell hm h.c_dot n
  have bl : 339 ≤ lasC c ∧ lasC c ≤ 340 := by unfold lasC; split <;> omega
  have hp := fun n => h.past (mP_below v n)
  clear h
  have n1 : c.dot < lasC c → nexC c = { c with dot := c.dot + 1 } := fun e => if_pos e
  have n2 : ¬ c.dot < lasC c → c.line = 261 → nexC c = { c with dot := 0, line := 0 } := fun e e' => by unfold nexC; rw [if_neg e, if_pos e']
  have n3 : ¬ c.dot < lasC c → ¬ c.line = 261 → nexC c = { c with dot := 0, line := c.line + 1 } := fun e e' => by unfold nexC; rw [if_neg e, if_neg e']
  generalize nexC c = N at *
  generalize lasC c = L at *
  go_enter Try.func60, Try.ntmps60
  go_upto_region 0 with (fail)
  refine wp_region_more (by kernel_rfl) (by kernel_rfl) ?_
  repeat (go_big_quiet_step (first | (go_at_call 89; exact QL _)))
  refine wpQuiet_nil ?_
  intro w9 hw
  obtain ⟨nq, rfl⟩ := hw
  have hS := hp nq
  clear QL x2 hm hp
  generalize mP v nq = v1 at *
  have q1 : v1.cell? ⟨m, 10582, none⟩ = some (.int .i64 c.line) := hS.c_line
  have q2 : v1.cell? ⟨m, 10583, none⟩ = some (.int .i64 c.dot) := hS.c_dot
  have z1 := hS.fz 10582
  have z2 := hS.fz 10583
  by_cases e1 : c.dot < L
  · obtain rfl := n1 e1
    clear n2 n3
    go_wp2
    (first | refine bodyPost_end (results_none rfl _ _ _) rfl ?_ | refine bodyPost_ret (results_none rfl _ _ _) rfl ?_)
    exact ⟨rfl, hS.set_dot (c.dot + 1)⟩
  · by_cases e2 : c.line = 261
    · obtain rfl := n2 e1 e2
      clear n3
      rw [e2] at q1
      go_wp2
      (first | refine bodyPost_end (results_none rfl _ _ _) rfl ?_ | refine bodyPost_ret (results_none rfl _ _ _) rfl ?_)
      exact ⟨rfl, ((hS.set_dot 0).set_line 262).set_line 0⟩
    · obtain rfl := n3 e1 e2
      clear n2
      have e3 : ¬ 261 < c.line + 1 := by omega
      go_wp2
      (first | refine bodyPost_end (results_none rfl _ _ _) rfl ?_ | refine bodyPost_ret (results_none rfl _ _ _) rfl ?_)
      exact ⟨rfl, (hS.set_dot 0).set_line (c.line + 1)⟩

set_option maxRecDepth 100000 in
set_option maxHeartbeats 1000000 in
theorem ST.flags (h : ST w0 v0 m A c v) (hf : 0 ≤ c.fr ∧ c.fr < 4611686018427387904) :
    Calls Try.prog 55 #[.pointer (some ⟨m, 0, none⟩)] v fun e v' => e = .returned (.tuple #[]) ∧ ST w0 v0 m A (flgC c) v' := by
  have hS := h
  have q1 : v.cell? ⟨m, 10582, none⟩ = some (.int .i64 c.line) := hS.c_line
  have q2 : v.cell? ⟨m, 10584, none⟩ = some (.int .i64 c.fr) := hS.c_fr
  have q3 : v.cell? ⟨m, 10579, none⟩ = some (.bool c.blank) := hS.c_blank
  have q4 : v.cell? ⟨m, 10580, none⟩ = some (.bool c.hit) := hS.c_hit
  have q5 : v.cell? ⟨m, 10581, none⟩ = some (.bool c.over) := hS.c_over
  have z1 := hS.fz 10584
  have z2 := hS.fz 10579
  have z3 := hS.fz 10580
  have z4 := hS.fz 10581
  rcases (by omega : c.line = 241 ∨ c.line = 261 ∨ (c.line ≠ 241 ∧ c.line ≠ 261)) with e | e | ⟨e, e'⟩
  · rw [e] at q1
    have ec : flgC c = { c with blank := true, fr := c.fr + 1 } := if_pos e
    rw [ec]
    clear ec
    go_enter Try.func55, Try.ntmps55
    go_wp2
    (first | refine bodyPost_end (results_none rfl _ _ _) rfl ?_ | refine bodyPost_ret (results_none rfl _ _ _) rfl ?_)
    exact ⟨rfl, (hS.set_blank true).set_fr (c.fr + 1)⟩
  · rw [e] at q1
    have ec : flgC c = { c with blank := false, hit := false, over := false } := (if_neg (by omega)).trans (if_pos e)
    rw [ec]
    clear ec
    go_enter Try.func55, Try.ntmps55
    go_wp2
    (first | refine bodyPost_end (results_none rfl _ _ _) rfl ?_ | refine bodyPost_ret (results_none rfl _ _ _) rfl ?_)
    exact ⟨rfl, ((hS.set_blank false).set_hit false).set_over false⟩
  · have ec : flgC c = c := (if_neg e).trans (if_neg e')
    rw [ec]
    clear ec
    go_enter Try.func55, Try.ntmps55
    go_wp2
    all_goals first | (exfalso; simp_all; done) | skip
    (first | refine bodyPost_end (results_none rfl _ _ _) rfl ?_ | refine bodyPost_ret (results_none rfl _ _ _) rfl ?_)
    exact ⟨rfl, hS⟩

end Go.Proofs.Ythldppdkheclkaa
