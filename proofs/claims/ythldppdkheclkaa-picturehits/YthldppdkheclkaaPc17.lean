/- The picture unit: a dot of its clock, exact. Written by gen/pc17.py. No law is claimed here. -/
import Derived.Test.YthldppdkheclkaaPc16
set_option linter.unusedSimpArgs false
set_option linter.unusedVariables false
namespace Go.Proofs.Ythldppdkheclkaa
open Go.RowKit Go.Great

variable {w0 v0 v v' : World} {m : Nat} {A : Nat → Value} {c : PC}

theorem ST.pick (h : ST w0 v0 m A c v) (hl : 0 ≤ c.line) :
    Calls Try.prog 59 #[.pointer (some ⟨m, 0, none⟩)] v fun e v' => e = .returned (.tuple #[]) ∧ ST w0 v0 m (pckA A c) (pckC A c) v' := by
  by_cases e : c.line < 240 ∧ shw c 24 = true
  · exact h.pick_yes hl e.1 e.2
  · have e1 : pckA A c = A := if_neg e
    have e2 : pckC A c = { c with cnt := 0 } := if_neg e
    rw [e1, e2]; exact h.pick_no e

/-- the state is sound -/
structure COk (c : PC) : Prop where
  fr : 0 ≤ c.fr ∧ c.fr < 4611686018427387904
  line : 0 ≤ c.line ∧ c.line ≤ 261
  dot : 0 ≤ c.dot ∧ c.dot ≤ 340
  lin : LIn (scrC c)
  cnt : 0 ≤ c.cnt ∧ c.cnt ≤ 8
def fstC (c : PC) : PC := if c.dot = 1 then flgC c else c
def secA (A : Nat → Value) (c : PC) : Nat → Value := if c.line < 240 ∧ 1 ≤ c.dot ∧ c.dot ≤ 256 then drwA A (fstC c) (c.dot - 1) else A
def secC (A : Nat → Value) (c : PC) : PC := if c.line < 240 ∧ 1 ≤ c.dot ∧ c.dot ≤ 256 then hitC A (fstC c) (c.dot - 1) else fstC c
def thiC (A : Nat → Value) (c : PC) : PC := if shw c 24 = true ∧ (c.line < 240 ∨ c.line = 261) then withS (secC A c) (movL (secC A c)) else secC A c
def fouA (A : Nat → Value) (c : PC) : Nat → Value := if c.dot = 257 then pckA (secA A c) (thiC A c) else secA A c
def fouC (A : Nat → Value) (c : PC) : PC := if c.dot = 257 then pckC (secA A c) (thiC A c) else thiC A c
def clkC (A : Nat → Value) (c : PC) : PC := nexC (fouC A c)
theorem shw_msk {a b : PC} (h : a.msk = b.msk) (k : Int) : shw a k = shw b k := by unfold shw; rw [h]
theorem flgC_f (c : PC) : (flgC c).line = c.line ∧ (flgC c).dot = c.dot ∧ (flgC c).msk = c.msk ∧ (flgC c).fr = (if c.line = 241 then c.fr + 1 else c.fr) ∧ (flgC c).cnt = c.cnt ∧ scrC (flgC c) = scrC c := by
  unfold flgC
  by_cases e1 : c.line = 241
  · rw [if_pos e1, if_pos e1]; exact ⟨rfl, rfl, rfl, rfl, rfl, rfl⟩
  · rw [if_neg e1, if_neg e1]; split <;> exact ⟨rfl, rfl, rfl, rfl, rfl, rfl⟩
theorem fstC_f (c : PC) : (fstC c).line = c.line ∧ (fstC c).dot = c.dot ∧ (fstC c).msk = c.msk ∧ (fstC c).fr = (if c.dot = 1 ∧ c.line = 241 then c.fr + 1 else c.fr) ∧ (fstC c).cnt = c.cnt ∧ scrC (fstC c) = scrC c := by
  obtain ⟨h1, h2, h3, h4, h5, h6⟩ := flgC_f c
  unfold fstC
  by_cases e : c.dot = 1
  · rw [if_pos e]
    refine ⟨h1, h2, h3, h4.trans ?_, h5, h6⟩
    by_cases e1 : c.line = 241
    · rw [if_pos e1, if_pos ⟨e, e1⟩]
    · rw [if_neg e1, if_neg (fun k => e1 k.2)]
  · rw [if_neg e, if_neg (fun k => e k.1)]; exact ⟨rfl, rfl, rfl, rfl, rfl, rfl⟩
theorem secC_f (A : Nat → Value) (c : PC) : (secC A c).line = c.line ∧ (secC A c).dot = c.dot ∧ (secC A c).msk = c.msk ∧ (secC A c).fr = (if c.dot = 1 ∧ c.line = 241 then c.fr + 1 else c.fr) ∧ (secC A c).cnt = c.cnt ∧ scrC (secC A c) = scrC c := by
  obtain ⟨h1, h2, h3, h4, h5, h6⟩ := fstC_f c
  unfold secC
  split
  · obtain ⟨f1, f2, f3, f4, f5, f6, f7⟩ := hitC_f A (fstC c) (c.dot - 1)
    exact ⟨f3.trans h1, f4.trans h2, f2.trans h3, f5.trans h4, f6.trans h5, f7.trans h6⟩
  · exact ⟨h1, h2, h3, h4, h5, h6⟩
theorem thiC_f (A : Nat → Value) (hL : LIn (scrC c)) : (thiC A c).line = c.line ∧ (thiC A c).dot = c.dot ∧ (thiC A c).msk = c.msk ∧ (thiC A c).fr = (if c.dot = 1 ∧ c.line = 241 then c.fr + 1 else c.fr) ∧ (thiC A c).cnt = c.cnt ∧ LIn (scrC (thiC A c)) := by
  obtain ⟨h1, h2, h3, h4, h5, h6⟩ := secC_f A c
  unfold thiC
  split
  · exact ⟨h1, h2, h3, h4, h5, LIn.mov (by rw [h6]; exact hL)⟩
  · exact ⟨h1, h2, h3, h4, h5, by rw [h6]; exact hL⟩
theorem fouC_f (A : Nat → Value) (hL : LIn (scrC c)) (hn : 0 ≤ c.cnt ∧ c.cnt ≤ 8) : (fouC A c).line = c.line ∧ (fouC A c).dot = c.dot ∧ (fouC A c).msk = c.msk ∧ (fouC A c).fr = (if c.dot = 1 ∧ c.line = 241 then c.fr + 1 else c.fr) ∧ (0 ≤ (fouC A c).cnt ∧ (fouC A c).cnt ≤ 8) ∧ LIn (scrC (fouC A c)) := by
  obtain ⟨h1, h2, h3, h4, h5, h6⟩ := thiC_f A hL
  unfold fouC
  split
  · obtain ⟨f1, f2, f3, f4, f5, f6, f7⟩ := pckC_f (secA A c) (thiC A c)
    exact ⟨f3.trans h1, f4.trans h2, f2.trans h3, f5.trans h4, f6, by rw [f7]; exact h6⟩
  · exact ⟨h1, h2, h3, h4, by rw [h5]; exact hn, h6⟩

set_option maxRecDepth 100000 in
set_option maxHeartbeats 4000000 in
theorem ST.clk_fd (h : ST w0 v0 m A c v) (ok : COk c) (e1 : c.dot = 1) (e3 : c.line < 240 ∧ 1 ≤ c.dot ∧ c.dot ≤ 256) :
    Calls Try.prog 32 #[.pointer (some ⟨m, 0, none⟩)] v fun e v' => e = .returned (.tuple #[]) ∧ ST w0 v0 m (fouA A c) (clkC A c) v' := by
  have h2 := h
  obtain ⟨f0, f1⟩ := ok.fr
  obtain ⟨g0, g1⟩ := ok.line
  obtain ⟨g2, g3⟩ := ok.dot
  have FF := h.flags ok.fr
  obtain ⟨a1, a2, a3, a4, a5, a6⟩ := fstC_f c
  obtain ⟨s1, s2, s3, s4, s5, s6⟩ := secC_f A c
  obtain ⟨t1, t2, t3, t4, t5, t6⟩ := thiC_f A ok.lin
  obtain ⟨u1, u2, u3, u4, u5, u6⟩ := fouC_f A ok.lin ok.cnt
  have FD : c.line < 240 ∧ 1 ≤ c.dot ∧ c.dot ≤ 256 → ∀ u, ST w0 v0 m A (fstC c) u → Calls Try.prog 56 #[.pointer (some ⟨m, 0, none⟩), .int .i64 (c.dot - 1)] u fun e v' => e = .returned (.tuple #[]) ∧ ST w0 v0 m (secA A c) (secC A c) v' := fun e u hu => by
    have k1 : secA A c = drwA A (fstC c) (c.dot - 1) := if_pos e
    have k2 : secC A c = hitC A (fstC c) (c.dot - 1) := if_pos e
    rw [k1, k2]
    exact hu.draw (by rw [a6]; exact ok.lin) (by rw [a5]; exact ok.cnt) (c.dot - 1) (by omega) (by omega)
  have ED : ¬ (c.line < 240 ∧ 1 ≤ c.dot ∧ c.dot ≤ 256) → ∀ u, ST w0 v0 m A (fstC c) u → ST w0 v0 m (secA A c) (secC A c) u := fun e u hu => by
    have k1 : secA A c = A := if_neg e
    have k2 : secC A c = fstC c := if_neg e
    rw [k1, k2]; exact hu
  have FR := fun u (hu : ST w0 v0 m (secA A c) (secC A c) u) => (prenders_any hu.px).mono fun _ _ h => And.intro h.1 h.2.symm
  rw [shw_msk s3] at FR
  have FM : shw c 24 = true ∧ (c.line < 240 ∨ c.line = 261) → ∀ u, ST w0 v0 m (secA A c) (secC A c) u → Calls Try.prog 58 #[.pointer (some ⟨m, 0, none⟩)] u fun e v' => e = .returned (.tuple #[]) ∧ ST w0 v0 m (secA A c) (thiC A c) v' := fun e u hu => by
    have k : thiC A c = withS (secC A c) (movL (secC A c)) := if_pos e
    rw [k]; exact hu.move (by rw [s2]; exact g2)
  have EM : ¬ (shw c 24 = true ∧ (c.line < 240 ∨ c.line = 261)) → ∀ u, ST w0 v0 m (secA A c) (secC A c) u → ST w0 v0 m (secA A c) (thiC A c) u := fun e u hu => by
    have k : thiC A c = secC A c := if_neg e
    rw [k]; exact hu
  have FP : c.dot = 257 → ∀ u, ST w0 v0 m (secA A c) (thiC A c) u → Calls Try.prog 59 #[.pointer (some ⟨m, 0, none⟩)] u fun e v' => e = .returned (.tuple #[]) ∧ ST w0 v0 m (fouA A c) (fouC A c) v' := fun e u hu => by
    have k1 : fouA A c = pckA (secA A c) (thiC A c) := if_pos e
    have k2 : fouC A c = pckC (secA A c) (thiC A c) := if_pos e
    rw [k1, k2]; exact hu.pick (by rw [t1]; exact g0)
  have EP : ¬ c.dot = 257 → ∀ u, ST w0 v0 m (secA A c) (thiC A c) u → ST w0 v0 m (fouA A c) (fouC A c) u := fun e u hu => by
    have k1 : fouA A c = secA A c := if_neg e
    have k2 : fouC A c = thiC A c := if_neg e
    rw [k1, k2]; exact hu
  have FN := fun u (hu : ST w0 v0 m (fouA A c) (fouC A c) u) => hu.next (by rw [u4]; split <;> omega) (by rw [u1]; exact ok.line) (by rw [u2]; exact ok.dot)
  rw [show nexC (fouC A c) = clkC A c from rfl] at FN
  have E1 : c.dot = 1 → fstC c = flgC c := fun e => if_pos e
  have E2 : ¬ c.dot = 1 → fstC c = c := fun e => if_neg e
  have ql : v.cell? ⟨m, 10582, none⟩ = some (.int .i64 c.line) := h.c_line
  have qd : v.cell? ⟨m, 10583, none⟩ = some (.int .i64 c.dot) := h.c_dot
  clear ok a4 a5 a6 s4 s5 s6 t4 t5 t6 u1 u2 u3 u4 u5 u6 f0 f1 t3 s3 a3
  generalize clkC A c = c5 at *
  generalize fouC A c = c4 at *
  generalize fouA A c = A4 at *
  generalize thiC A c = c3 at *
  generalize secC A c = c2 at *
  generalize secA A c = A2 at *
  have e2 : ¬ c.dot = 257 := by omega
  rw [← E1 e1] at FF
  rw [e1] at qd
  clear E1 E2
  generalize fstC c = c1 at *
  go_enter Try.func32, Try.ntmps32
  go_upto_region 3 with (go_at_call 55; refine FF.mono ?_; rintro e v1 ⟨rfl, h1⟩)
  clear FF ql qd
  have ql : v1.cell? ⟨m, 10582, none⟩ = some (.int .i64 c.line) := h1.c_line.trans (by rw [a1])
  have qd : v1.cell? ⟨m, 10583, none⟩ = some (.int .i64 1) := h1.c_dot.trans (by rw [a2, e1])
  replace FD := FD e3
  rw [show c.dot - 1 = 0 by omega] at FD
  have e31 := e3.1
  have e32 := e3.2.1
  have e33 := e3.2.2
  go_upto_region 5 with (go_at_call 56; refine (FD _ h1).mono ?_; rintro e v2 ⟨rfl, h2⟩)
  clear FD ED h1 ql qd
  have ql : v2.cell? ⟨m, 10582, none⟩ = some (.int .i64 c.line) := h2.c_line.trans (by rw [s1])
  have qd : v2.cell? ⟨m, 10583, none⟩ = some (.int .i64 1) := h2.c_dot.trans (by rw [s2, e1])
  have n2 : (c.dot == 257) = false := by simp [e2]
  rcases Bool.eq_false_or_eq_true (shw c 24) with es | es
  · skip
    have em : c.line < 240 ∨ c.line = 261 := .inl (by omega)
    have el : c.line < 240 := by omega
    rw [es] at FR
    replace FM := FM ⟨es, em⟩
    clear EM
    clear FP
    go_wp2_with (first | (go_at_call 57; refine (FR _ h2).mono ?_; rintro e x ⟨rfl, rfl⟩) | (go_at_call 58; refine (FM _ h2).mono ?_; rintro e v3 ⟨rfl, h3⟩; have qd3 : v3.cell? ⟨m, 10583, none⟩ = some (.int .i64 1) := h3.c_dot.trans (by rw [t2, e1]); have h4 := EP e2 _ h3) | (go_at_call 60; refine (FN _ h4).mono ?_; rintro e v5 ⟨rfl, h5⟩))
    all_goals (first | refine bodyPost_end (results_none rfl _ _ _) rfl ?_ | refine bodyPost_ret (results_none rfl _ _ _) rfl ?_)
    all_goals exact ⟨rfl, h5⟩
  · have em : ¬ (shw c 24 = true ∧ (c.line < 240 ∨ c.line = 261)) := fun k => by rw [es] at k; exact absurd k.1 (by decide)
    rw [es] at FR
    have h3 := EM em _ h2
    clear FM EM
    have h4 := EP e2 _ h3
    clear FP
    go_wp2_with (first | (go_at_call 57; refine (FR _ h2).mono ?_; rintro e x ⟨rfl, rfl⟩) | (go_at_call 60; refine (FN _ h4).mono ?_; rintro e v5 ⟨rfl, h5⟩))
    all_goals (first | refine bodyPost_end (results_none rfl _ _ _) rfl ?_ | refine bodyPost_ret (results_none rfl _ _ _) rfl ?_)
    all_goals exact ⟨rfl, h5⟩

set_option maxRecDepth 100000 in
set_option maxHeartbeats 4000000 in
theorem ST.clk_fn (h : ST w0 v0 m A c v) (ok : COk c) (e1 : c.dot = 1) (e3 : ¬ c.line < 240) :
    Calls Try.prog 32 #[.pointer (some ⟨m, 0, none⟩)] v fun e v' => e = .returned (.tuple #[]) ∧ ST w0 v0 m (fouA A c) (clkC A c) v' := by
  have h2 := h
  obtain ⟨f0, f1⟩ := ok.fr
  obtain ⟨g0, g1⟩ := ok.line
  obtain ⟨g2, g3⟩ := ok.dot
  have FF := h.flags ok.fr
  obtain ⟨a1, a2, a3, a4, a5, a6⟩ := fstC_f c
  obtain ⟨s1, s2, s3, s4, s5, s6⟩ := secC_f A c
  obtain ⟨t1, t2, t3, t4, t5, t6⟩ := thiC_f A ok.lin
  obtain ⟨u1, u2, u3, u4, u5, u6⟩ := fouC_f A ok.lin ok.cnt
  have FD : c.line < 240 ∧ 1 ≤ c.dot ∧ c.dot ≤ 256 → ∀ u, ST w0 v0 m A (fstC c) u → Calls Try.prog 56 #[.pointer (some ⟨m, 0, none⟩), .int .i64 (c.dot - 1)] u fun e v' => e = .returned (.tuple #[]) ∧ ST w0 v0 m (secA A c) (secC A c) v' := fun e u hu => by
    have k1 : secA A c = drwA A (fstC c) (c.dot - 1) := if_pos e
    have k2 : secC A c = hitC A (fstC c) (c.dot - 1) := if_pos e
    rw [k1, k2]
    exact hu.draw (by rw [a6]; exact ok.lin) (by rw [a5]; exact ok.cnt) (c.dot - 1) (by omega) (by omega)
  have ED : ¬ (c.line < 240 ∧ 1 ≤ c.dot ∧ c.dot ≤ 256) → ∀ u, ST w0 v0 m A (fstC c) u → ST w0 v0 m (secA A c) (secC A c) u := fun e u hu => by
    have k1 : secA A c = A := if_neg e
    have k2 : secC A c = fstC c := if_neg e
    rw [k1, k2]; exact hu
  have FR := fun u (hu : ST w0 v0 m (secA A c) (secC A c) u) => (prenders_any hu.px).mono fun _ _ h => And.intro h.1 h.2.symm
  rw [shw_msk s3] at FR
  have FM : shw c 24 = true ∧ (c.line < 240 ∨ c.line = 261) → ∀ u, ST w0 v0 m (secA A c) (secC A c) u → Calls Try.prog 58 #[.pointer (some ⟨m, 0, none⟩)] u fun e v' => e = .returned (.tuple #[]) ∧ ST w0 v0 m (secA A c) (thiC A c) v' := fun e u hu => by
    have k : thiC A c = withS (secC A c) (movL (secC A c)) := if_pos e
    rw [k]; exact hu.move (by rw [s2]; exact g2)
  have EM : ¬ (shw c 24 = true ∧ (c.line < 240 ∨ c.line = 261)) → ∀ u, ST w0 v0 m (secA A c) (secC A c) u → ST w0 v0 m (secA A c) (thiC A c) u := fun e u hu => by
    have k : thiC A c = secC A c := if_neg e
    rw [k]; exact hu
  have FP : c.dot = 257 → ∀ u, ST w0 v0 m (secA A c) (thiC A c) u → Calls Try.prog 59 #[.pointer (some ⟨m, 0, none⟩)] u fun e v' => e = .returned (.tuple #[]) ∧ ST w0 v0 m (fouA A c) (fouC A c) v' := fun e u hu => by
    have k1 : fouA A c = pckA (secA A c) (thiC A c) := if_pos e
    have k2 : fouC A c = pckC (secA A c) (thiC A c) := if_pos e
    rw [k1, k2]; exact hu.pick (by rw [t1]; exact g0)
  have EP : ¬ c.dot = 257 → ∀ u, ST w0 v0 m (secA A c) (thiC A c) u → ST w0 v0 m (fouA A c) (fouC A c) u := fun e u hu => by
    have k1 : fouA A c = secA A c := if_neg e
    have k2 : fouC A c = thiC A c := if_neg e
    rw [k1, k2]; exact hu
  have FN := fun u (hu : ST w0 v0 m (fouA A c) (fouC A c) u) => hu.next (by rw [u4]; split <;> omega) (by rw [u1]; exact ok.line) (by rw [u2]; exact ok.dot)
  rw [show nexC (fouC A c) = clkC A c from rfl] at FN
  have E1 : c.dot = 1 → fstC c = flgC c := fun e => if_pos e
  have E2 : ¬ c.dot = 1 → fstC c = c := fun e => if_neg e
  have ql : v.cell? ⟨m, 10582, none⟩ = some (.int .i64 c.line) := h.c_line
  have qd : v.cell? ⟨m, 10583, none⟩ = some (.int .i64 c.dot) := h.c_dot
  clear ok a4 a5 a6 s4 s5 s6 t4 t5 t6 u1 u2 u3 u4 u5 u6 f0 f1 t3 s3 a3
  generalize clkC A c = c5 at *
  generalize fouC A c = c4 at *
  generalize fouA A c = A4 at *
  generalize thiC A c = c3 at *
  generalize secC A c = c2 at *
  generalize secA A c = A2 at *
  have e2 : ¬ c.dot = 257 := by omega
  have e4 := e3
  replace e3 : ¬ (c.line < 240 ∧ 1 ≤ c.dot ∧ c.dot ≤ 256) := fun k => e4 k.1
  rw [← E1 e1] at FF
  rw [e1] at qd
  clear E1 E2
  generalize fstC c = c1 at *
  go_enter Try.func32, Try.ntmps32
  go_upto_region 3 with (go_at_call 55; refine FF.mono ?_; rintro e v1 ⟨rfl, h1⟩)
  clear FF ql qd
  have ql : v1.cell? ⟨m, 10582, none⟩ = some (.int .i64 c.line) := h1.c_line.trans (by rw [a1])
  have qd : v1.cell? ⟨m, 10583, none⟩ = some (.int .i64 1) := h1.c_dot.trans (by rw [a2, e1])
  replace h1 := ED e3 _ h1
  clear FD ED
  have n2 : (c.dot == 257) = false := by simp [e2]
  rcases Bool.eq_false_or_eq_true (shw c 24) with es | es
  · skip
    rcases (by omega : c.line = 261 ∨ ¬ c.line = 261) with el | el
    · have em : c.line < 240 ∨ c.line = 261 := .inr el
      rw [el] at ql
      rw [es] at FR
      replace FM := FM ⟨es, em⟩
      clear EM
      clear FP
      go_wp2_with (first | (go_at_call 57; refine (FR _ h1).mono ?_; rintro e x ⟨rfl, rfl⟩) | (go_at_call 58; refine (FM _ h1).mono ?_; rintro e v3 ⟨rfl, h3⟩; have qd3 : v3.cell? ⟨m, 10583, none⟩ = some (.int .i64 1) := h3.c_dot.trans (by rw [t2, e1]); have h4 := EP e2 _ h3) | (go_at_call 60; refine (FN _ h4).mono ?_; rintro e v5 ⟨rfl, h5⟩))
      all_goals (first | refine bodyPost_end (results_none rfl _ _ _) rfl ?_ | refine bodyPost_ret (results_none rfl _ _ _) rfl ?_)
      all_goals exact ⟨rfl, h5⟩
    · have em : ¬ (shw c 24 = true ∧ (c.line < 240 ∨ c.line = 261)) := by omega
      have el2 : (c.line == 261) = false := by simp [el]
      rw [es] at FR
      have h3 := EM em _ h1
      clear FM EM
      have h4 := EP e2 _ h3
      clear FP
      go_wp2_with (first | (go_at_call 57; refine (FR _ h1).mono ?_; rintro e x ⟨rfl, rfl⟩) | (go_at_call 60; refine (FN _ h4).mono ?_; rintro e v5 ⟨rfl, h5⟩))
      all_goals (first | refine bodyPost_end (results_none rfl _ _ _) rfl ?_ | refine bodyPost_ret (results_none rfl _ _ _) rfl ?_)
      all_goals exact ⟨rfl, h5⟩
  · have em : ¬ (shw c 24 = true ∧ (c.line < 240 ∨ c.line = 261)) := fun k => by rw [es] at k; exact absurd k.1 (by decide)
    rw [es] at FR
    have h3 := EM em _ h1
    clear FM EM
    have h4 := EP e2 _ h3
    clear FP
    go_wp2_with (first | (go_at_call 57; refine (FR _ h1).mono ?_; rintro e x ⟨rfl, rfl⟩) | (go_at_call 60; refine (FN _ h4).mono ?_; rintro e v5 ⟨rfl, h5⟩))
    all_goals (first | refine bodyPost_end (results_none rfl _ _ _) rfl ?_ | refine bodyPost_ret (results_none rfl _ _ _) rfl ?_)
    all_goals exact ⟨rfl, h5⟩

set_option maxRecDepth 100000 in
set_option maxHeartbeats 4000000 in
theorem ST.clk_pn (h : ST w0 v0 m A c v) (ok : COk c) (e2 : c.dot = 257) :
    Calls Try.prog 32 #[.pointer (some ⟨m, 0, none⟩)] v fun e v' => e = .returned (.tuple #[]) ∧ ST w0 v0 m (fouA A c) (clkC A c) v' := by
  have h2 := h
  obtain ⟨f0, f1⟩ := ok.fr
  obtain ⟨g0, g1⟩ := ok.line
  obtain ⟨g2, g3⟩ := ok.dot
  have FF := h.flags ok.fr
  obtain ⟨a1, a2, a3, a4, a5, a6⟩ := fstC_f c
  obtain ⟨s1, s2, s3, s4, s5, s6⟩ := secC_f A c
  obtain ⟨t1, t2, t3, t4, t5, t6⟩ := thiC_f A ok.lin
  obtain ⟨u1, u2, u3, u4, u5, u6⟩ := fouC_f A ok.lin ok.cnt
  have FD : c.line < 240 ∧ 1 ≤ c.dot ∧ c.dot ≤ 256 → ∀ u, ST w0 v0 m A (fstC c) u → Calls Try.prog 56 #[.pointer (some ⟨m, 0, none⟩), .int .i64 (c.dot - 1)] u fun e v' => e = .returned (.tuple #[]) ∧ ST w0 v0 m (secA A c) (secC A c) v' := fun e u hu => by
    have k1 : secA A c = drwA A (fstC c) (c.dot - 1) := if_pos e
    have k2 : secC A c = hitC A (fstC c) (c.dot - 1) := if_pos e
    rw [k1, k2]
    exact hu.draw (by rw [a6]; exact ok.lin) (by rw [a5]; exact ok.cnt) (c.dot - 1) (by omega) (by omega)
  have ED : ¬ (c.line < 240 ∧ 1 ≤ c.dot ∧ c.dot ≤ 256) → ∀ u, ST w0 v0 m A (fstC c) u → ST w0 v0 m (secA A c) (secC A c) u := fun e u hu => by
    have k1 : secA A c = A := if_neg e
    have k2 : secC A c = fstC c := if_neg e
    rw [k1, k2]; exact hu
  have FR := fun u (hu : ST w0 v0 m (secA A c) (secC A c) u) => (prenders_any hu.px).mono fun _ _ h => And.intro h.1 h.2.symm
  rw [shw_msk s3] at FR
  have FM : shw c 24 = true ∧ (c.line < 240 ∨ c.line = 261) → ∀ u, ST w0 v0 m (secA A c) (secC A c) u → Calls Try.prog 58 #[.pointer (some ⟨m, 0, none⟩)] u fun e v' => e = .returned (.tuple #[]) ∧ ST w0 v0 m (secA A c) (thiC A c) v' := fun e u hu => by
    have k : thiC A c = withS (secC A c) (movL (secC A c)) := if_pos e
    rw [k]; exact hu.move (by rw [s2]; exact g2)
  have EM : ¬ (shw c 24 = true ∧ (c.line < 240 ∨ c.line = 261)) → ∀ u, ST w0 v0 m (secA A c) (secC A c) u → ST w0 v0 m (secA A c) (thiC A c) u := fun e u hu => by
    have k : thiC A c = secC A c := if_neg e
    rw [k]; exact hu
  have FP : c.dot = 257 → ∀ u, ST w0 v0 m (secA A c) (thiC A c) u → Calls Try.prog 59 #[.pointer (some ⟨m, 0, none⟩)] u fun e v' => e = .returned (.tuple #[]) ∧ ST w0 v0 m (fouA A c) (fouC A c) v' := fun e u hu => by
    have k1 : fouA A c = pckA (secA A c) (thiC A c) := if_pos e
    have k2 : fouC A c = pckC (secA A c) (thiC A c) := if_pos e
    rw [k1, k2]; exact hu.pick (by rw [t1]; exact g0)
  have EP : ¬ c.dot = 257 → ∀ u, ST w0 v0 m (secA A c) (thiC A c) u → ST w0 v0 m (fouA A c) (fouC A c) u := fun e u hu => by
    have k1 : fouA A c = secA A c := if_neg e
    have k2 : fouC A c = thiC A c := if_neg e
    rw [k1, k2]; exact hu
  have FN := fun u (hu : ST w0 v0 m (fouA A c) (fouC A c) u) => hu.next (by rw [u4]; split <;> omega) (by rw [u1]; exact ok.line) (by rw [u2]; exact ok.dot)
  rw [show nexC (fouC A c) = clkC A c from rfl] at FN
  have E1 : c.dot = 1 → fstC c = flgC c := fun e => if_pos e
  have E2 : ¬ c.dot = 1 → fstC c = c := fun e => if_neg e
  have ql : v.cell? ⟨m, 10582, none⟩ = some (.int .i64 c.line) := h.c_line
  have qd : v.cell? ⟨m, 10583, none⟩ = some (.int .i64 c.dot) := h.c_dot
  clear ok a4 a5 a6 s4 s5 s6 t4 t5 t6 u1 u2 u3 u4 u5 u6 f0 f1 t3 s3 a3
  generalize clkC A c = c5 at *
  generalize fouC A c = c4 at *
  generalize fouA A c = A4 at *
  generalize thiC A c = c3 at *
  generalize secC A c = c2 at *
  generalize secA A c = A2 at *
  have e1 : ¬ c.dot = 1 := by omega
  have e3 : ¬ (c.line < 240 ∧ 1 ≤ c.dot ∧ c.dot ≤ 256) := by omega
  have n1 : (c.dot == 1) = false := by simp [e1]
  have h1 : ST w0 v0 m A (fstC c) v := by rw [E2 e1]; exact h
  clear E1 E2 FF
  generalize fstC c = c1 at *
  rw [e2] at qd
  go_enter Try.func32, Try.ntmps32
  replace h1 := ED e3 _ h1
  clear FD ED
  rcases Bool.eq_false_or_eq_true (shw c 24) with es | es
  · skip
    rcases (by omega : c.line < 240 ∨ c.line = 261 ∨ (¬ c.line < 240 ∧ ¬ c.line = 261)) with el | el | ⟨el0, el⟩
    · have em : c.line < 240 ∨ c.line = 261 := .inl el
      rw [es] at FR
      replace FM := FM ⟨es, em⟩
      clear EM
      replace FP := FP e2
      clear EP
      go_wp2_with (first | (go_at_call 57; refine (FR _ h1).mono ?_; rintro e x ⟨rfl, rfl⟩) | (go_at_call 58; refine (FM _ h1).mono ?_; rintro e v3 ⟨rfl, h3⟩; have qd3 : v3.cell? ⟨m, 10583, none⟩ = some (.int .i64 257) := h3.c_dot.trans (by rw [t2, e2])) | (go_at_call 59; refine (FP _ h3).mono ?_; rintro e v4 ⟨rfl, h4⟩) | (go_at_call 60; refine (FN _ h4).mono ?_; rintro e v5 ⟨rfl, h5⟩))
      all_goals (first | refine bodyPost_end (results_none rfl _ _ _) rfl ?_ | refine bodyPost_ret (results_none rfl _ _ _) rfl ?_)
      all_goals exact ⟨rfl, h5⟩
    · have em : c.line < 240 ∨ c.line = 261 := .inr el
      rw [el] at ql
      rw [es] at FR
      replace FM := FM ⟨es, em⟩
      clear EM
      replace FP := FP e2
      clear EP
      go_wp2_with (first | (go_at_call 57; refine (FR _ h1).mono ?_; rintro e x ⟨rfl, rfl⟩) | (go_at_call 58; refine (FM _ h1).mono ?_; rintro e v3 ⟨rfl, h3⟩; have qd3 : v3.cell? ⟨m, 10583, none⟩ = some (.int .i64 257) := h3.c_dot.trans (by rw [t2, e2])) | (go_at_call 59; refine (FP _ h3).mono ?_; rintro e v4 ⟨rfl, h4⟩) | (go_at_call 60; refine (FN _ h4).mono ?_; rintro e v5 ⟨rfl, h5⟩))
      all_goals (first | refine bodyPost_end (results_none rfl _ _ _) rfl ?_ | refine bodyPost_ret (results_none rfl _ _ _) rfl ?_)
      all_goals exact ⟨rfl, h5⟩
    · have em : ¬ (shw c 24 = true ∧ (c.line < 240 ∨ c.line = 261)) := by omega
      have el2 : (c.line == 261) = false := by simp [el]
      rw [es] at FR
      have h3 := EM em _ h1
      clear FM EM
      replace FP := FP e2
      clear EP
      go_wp2_with (first | (go_at_call 57; refine (FR _ h1).mono ?_; rintro e x ⟨rfl, rfl⟩) | (go_at_call 59; refine (FP _ h3).mono ?_; rintro e v4 ⟨rfl, h4⟩) | (go_at_call 60; refine (FN _ h4).mono ?_; rintro e v5 ⟨rfl, h5⟩))
      all_goals (first | refine bodyPost_end (results_none rfl _ _ _) rfl ?_ | refine bodyPost_ret (results_none rfl _ _ _) rfl ?_)
      all_goals exact ⟨rfl, h5⟩
  · have em : ¬ (shw c 24 = true ∧ (c.line < 240 ∨ c.line = 261)) := fun k => by rw [es] at k; exact absurd k.1 (by decide)
    rw [es] at FR
    have h3 := EM em _ h1
    clear FM EM
    replace FP := FP e2
    clear EP
    go_wp2_with (first | (go_at_call 57; refine (FR _ h1).mono ?_; rintro e x ⟨rfl, rfl⟩) | (go_at_call 59; refine (FP _ h3).mono ?_; rintro e v4 ⟨rfl, h4⟩) | (go_at_call 60; refine (FN _ h4).mono ?_; rintro e v5 ⟨rfl, h5⟩))
    all_goals (first | refine bodyPost_end (results_none rfl _ _ _) rfl ?_ | refine bodyPost_ret (results_none rfl _ _ _) rfl ?_)
    all_goals exact ⟨rfl, h5⟩

set_option maxRecDepth 100000 in
set_option maxHeartbeats 4000000 in
theorem ST.clk_xd (h : ST w0 v0 m A c v) (ok : COk c) (e1 : ¬ c.dot = 1) (e2 : ¬ c.dot = 257) (e3 : c.line < 240 ∧ 1 ≤ c.dot ∧ c.dot ≤ 256) :
    Calls Try.prog 32 #[.pointer (some ⟨m, 0, none⟩)] v fun e v' => e = .returned (.tuple #[]) ∧ ST w0 v0 m (fouA A c) (clkC A c) v' := by
  have h2 := h
  obtain ⟨f0, f1⟩ := ok.fr
  obtain ⟨g0, g1⟩ := ok.line
  obtain ⟨g2, g3⟩ := ok.dot
  have FF := h.flags ok.fr
  obtain ⟨a1, a2, a3, a4, a5, a6⟩ := fstC_f c
  obtain ⟨s1, s2, s3, s4, s5, s6⟩ := secC_f A c
  obtain ⟨t1, t2, t3, t4, t5, t6⟩ := thiC_f A ok.lin
  obtain ⟨u1, u2, u3, u4, u5, u6⟩ := fouC_f A ok.lin ok.cnt
  have FD : c.line < 240 ∧ 1 ≤ c.dot ∧ c.dot ≤ 256 → ∀ u, ST w0 v0 m A (fstC c) u → Calls Try.prog 56 #[.pointer (some ⟨m, 0, none⟩), .int .i64 (c.dot - 1)] u fun e v' => e = .returned (.tuple #[]) ∧ ST w0 v0 m (secA A c) (secC A c) v' := fun e u hu => by
    have k1 : secA A c = drwA A (fstC c) (c.dot - 1) := if_pos e
    have k2 : secC A c = hitC A (fstC c) (c.dot - 1) := if_pos e
    rw [k1, k2]
    exact hu.draw (by rw [a6]; exact ok.lin) (by rw [a5]; exact ok.cnt) (c.dot - 1) (by omega) (by omega)
  have ED : ¬ (c.line < 240 ∧ 1 ≤ c.dot ∧ c.dot ≤ 256) → ∀ u, ST w0 v0 m A (fstC c) u → ST w0 v0 m (secA A c) (secC A c) u := fun e u hu => by
    have k1 : secA A c = A := if_neg e
    have k2 : secC A c = fstC c := if_neg e
    rw [k1, k2]; exact hu
  have FR := fun u (hu : ST w0 v0 m (secA A c) (secC A c) u) => (prenders_any hu.px).mono fun _ _ h => And.intro h.1 h.2.symm
  rw [shw_msk s3] at FR
  have FM : shw c 24 = true ∧ (c.line < 240 ∨ c.line = 261) → ∀ u, ST w0 v0 m (secA A c) (secC A c) u → Calls Try.prog 58 #[.pointer (some ⟨m, 0, none⟩)] u fun e v' => e = .returned (.tuple #[]) ∧ ST w0 v0 m (secA A c) (thiC A c) v' := fun e u hu => by
    have k : thiC A c = withS (secC A c) (movL (secC A c)) := if_pos e
    rw [k]; exact hu.move (by rw [s2]; exact g2)
  have EM : ¬ (shw c 24 = true ∧ (c.line < 240 ∨ c.line = 261)) → ∀ u, ST w0 v0 m (secA A c) (secC A c) u → ST w0 v0 m (secA A c) (thiC A c) u := fun e u hu => by
    have k : thiC A c = secC A c := if_neg e
    rw [k]; exact hu
  have FP : c.dot = 257 → ∀ u, ST w0 v0 m (secA A c) (thiC A c) u → Calls Try.prog 59 #[.pointer (some ⟨m, 0, none⟩)] u fun e v' => e = .returned (.tuple #[]) ∧ ST w0 v0 m (fouA A c) (fouC A c) v' := fun e u hu => by
    have k1 : fouA A c = pckA (secA A c) (thiC A c) := if_pos e
    have k2 : fouC A c = pckC (secA A c) (thiC A c) := if_pos e
    rw [k1, k2]; exact hu.pick (by rw [t1]; exact g0)
  have EP : ¬ c.dot = 257 → ∀ u, ST w0 v0 m (secA A c) (thiC A c) u → ST w0 v0 m (fouA A c) (fouC A c) u := fun e u hu => by
    have k1 : fouA A c = secA A c := if_neg e
    have k2 : fouC A c = thiC A c := if_neg e
    rw [k1, k2]; exact hu
  have FN := fun u (hu : ST w0 v0 m (fouA A c) (fouC A c) u) => hu.next (by rw [u4]; split <;> omega) (by rw [u1]; exact ok.line) (by rw [u2]; exact ok.dot)
  rw [show nexC (fouC A c) = clkC A c from rfl] at FN
  have E1 : c.dot = 1 → fstC c = flgC c := fun e => if_pos e
  have E2 : ¬ c.dot = 1 → fstC c = c := fun e => if_neg e
  have ql : v.cell? ⟨m, 10582, none⟩ = some (.int .i64 c.line) := h.c_line
  have qd : v.cell? ⟨m, 10583, none⟩ = some (.int .i64 c.dot) := h.c_dot
  clear ok a4 a5 a6 s4 s5 s6 t4 t5 t6 u1 u2 u3 u4 u5 u6 f0 f1 t3 s3 a3
  generalize clkC A c = c5 at *
  generalize fouC A c = c4 at *
  generalize fouA A c = A4 at *
  generalize thiC A c = c3 at *
  generalize secC A c = c2 at *
  generalize secA A c = A2 at *
  have n1 : (c.dot == 1) = false := by simp [e1]
  have h1 : ST w0 v0 m A (fstC c) v := by rw [E2 e1]; exact h
  clear E1 E2 FF
  generalize fstC c = c1 at *
  go_enter Try.func32, Try.ntmps32
  replace FD := FD e3
  have e31 := e3.1
  have e32 := e3.2.1
  have e33 := e3.2.2
  go_upto_region 5 with (go_at_call 56; refine (FD _ h1).mono ?_; rintro e v2 ⟨rfl, h2⟩)
  clear FD ED h1 ql qd
  have ql : v2.cell? ⟨m, 10582, none⟩ = some (.int .i64 c.line) := h2.c_line.trans (by rw [s1])
  have qd : v2.cell? ⟨m, 10583, none⟩ = some (.int .i64 c.dot) := h2.c_dot.trans (by rw [s2])
  have n2 : (c.dot == 257) = false := by simp [e2]
  rcases Bool.eq_false_or_eq_true (shw c 24) with es | es
  · skip
    have em : c.line < 240 ∨ c.line = 261 := .inl (by omega)
    have el : c.line < 240 := by omega
    rw [es] at FR
    replace FM := FM ⟨es, em⟩
    clear EM
    clear FP
    go_wp2_with (first | (go_at_call 57; refine (FR _ h2).mono ?_; rintro e x ⟨rfl, rfl⟩) | (go_at_call 58; refine (FM _ h2).mono ?_; rintro e v3 ⟨rfl, h3⟩; have qd3 : v3.cell? ⟨m, 10583, none⟩ = some (.int .i64 c.dot) := h3.c_dot.trans (by rw [t2]); have h4 := EP e2 _ h3) | (go_at_call 60; refine (FN _ h4).mono ?_; rintro e v5 ⟨rfl, h5⟩))
    all_goals (first | refine bodyPost_end (results_none rfl _ _ _) rfl ?_ | refine bodyPost_ret (results_none rfl _ _ _) rfl ?_)
    all_goals exact ⟨rfl, h5⟩
  · have em : ¬ (shw c 24 = true ∧ (c.line < 240 ∨ c.line = 261)) := fun k => by rw [es] at k; exact absurd k.1 (by decide)
    rw [es] at FR
    have h3 := EM em _ h2
    clear FM EM
    have h4 := EP e2 _ h3
    clear FP
    go_wp2_with (first | (go_at_call 57; refine (FR _ h2).mono ?_; rintro e x ⟨rfl, rfl⟩) | (go_at_call 60; refine (FN _ h4).mono ?_; rintro e v5 ⟨rfl, h5⟩))
    all_goals (first | refine bodyPost_end (results_none rfl _ _ _) rfl ?_ | refine bodyPost_ret (results_none rfl _ _ _) rfl ?_)
    all_goals exact ⟨rfl, h5⟩

set_option maxRecDepth 100000 in
set_option maxHeartbeats 4000000 in
theorem ST.clk_xn0 (h : ST w0 v0 m A c v) (ok : COk c) (e1 : ¬ c.dot = 1) (e2 : ¬ c.dot = 257) (e3 : ¬ c.line < 240) :
    Calls Try.prog 32 #[.pointer (some ⟨m, 0, none⟩)] v fun e v' => e = .returned (.tuple #[]) ∧ ST w0 v0 m (fouA A c) (clkC A c) v' := by
  have h2 := h
  obtain ⟨f0, f1⟩ := ok.fr
  obtain ⟨g0, g1⟩ := ok.line
  obtain ⟨g2, g3⟩ := ok.dot
  have FF := h.flags ok.fr
  obtain ⟨a1, a2, a3, a4, a5, a6⟩ := fstC_f c
  obtain ⟨s1, s2, s3, s4, s5, s6⟩ := secC_f A c
  obtain ⟨t1, t2, t3, t4, t5, t6⟩ := thiC_f A ok.lin
  obtain ⟨u1, u2, u3, u4, u5, u6⟩ := fouC_f A ok.lin ok.cnt
  have FD : c.line < 240 ∧ 1 ≤ c.dot ∧ c.dot ≤ 256 → ∀ u, ST w0 v0 m A (fstC c) u → Calls Try.prog 56 #[.pointer (some ⟨m, 0, none⟩), .int .i64 (c.dot - 1)] u fun e v' => e = .returned (.tuple #[]) ∧ ST w0 v0 m (secA A c) (secC A c) v' := fun e u hu => by
    have k1 : secA A c = drwA A (fstC c) (c.dot - 1) := if_pos e
    have k2 : secC A c = hitC A (fstC c) (c.dot - 1) := if_pos e
    rw [k1, k2]
    exact hu.draw (by rw [a6]; exact ok.lin) (by rw [a5]; exact ok.cnt) (c.dot - 1) (by omega) (by omega)
  have ED : ¬ (c.line < 240 ∧ 1 ≤ c.dot ∧ c.dot ≤ 256) → ∀ u, ST w0 v0 m A (fstC c) u → ST w0 v0 m (secA A c) (secC A c) u := fun e u hu => by
    have k1 : secA A c = A := if_neg e
    have k2 : secC A c = fstC c := if_neg e
    rw [k1, k2]; exact hu
  have FR := fun u (hu : ST w0 v0 m (secA A c) (secC A c) u) => (prenders_any hu.px).mono fun _ _ h => And.intro h.1 h.2.symm
  rw [shw_msk s3] at FR
  have FM : shw c 24 = true ∧ (c.line < 240 ∨ c.line = 261) → ∀ u, ST w0 v0 m (secA A c) (secC A c) u → Calls Try.prog 58 #[.pointer (some ⟨m, 0, none⟩)] u fun e v' => e = .returned (.tuple #[]) ∧ ST w0 v0 m (secA A c) (thiC A c) v' := fun e u hu => by
    have k : thiC A c = withS (secC A c) (movL (secC A c)) := if_pos e
    rw [k]; exact hu.move (by rw [s2]; exact g2)
  have EM : ¬ (shw c 24 = true ∧ (c.line < 240 ∨ c.line = 261)) → ∀ u, ST w0 v0 m (secA A c) (secC A c) u → ST w0 v0 m (secA A c) (thiC A c) u := fun e u hu => by
    have k : thiC A c = secC A c := if_neg e
    rw [k]; exact hu
  have FP : c.dot = 257 → ∀ u, ST w0 v0 m (secA A c) (thiC A c) u → Calls Try.prog 59 #[.pointer (some ⟨m, 0, none⟩)] u fun e v' => e = .returned (.tuple #[]) ∧ ST w0 v0 m (fouA A c) (fouC A c) v' := fun e u hu => by
    have k1 : fouA A c = pckA (secA A c) (thiC A c) := if_pos e
    have k2 : fouC A c = pckC (secA A c) (thiC A c) := if_pos e
    rw [k1, k2]; exact hu.pick (by rw [t1]; exact g0)
  have EP : ¬ c.dot = 257 → ∀ u, ST w0 v0 m (secA A c) (thiC A c) u → ST w0 v0 m (fouA A c) (fouC A c) u := fun e u hu => by
    have k1 : fouA A c = secA A c := if_neg e
    have k2 : fouC A c = thiC A c := if_neg e
    rw [k1, k2]; exact hu
  have FN := fun u (hu : ST w0 v0 m (fouA A c) (fouC A c) u) => hu.next (by rw [u4]; split <;> omega) (by rw [u1]; exact ok.line) (by rw [u2]; exact ok.dot)
  rw [show nexC (fouC A c) = clkC A c from rfl] at FN
  have E1 : c.dot = 1 → fstC c = flgC c := fun e => if_pos e
  have E2 : ¬ c.dot = 1 → fstC c = c := fun e => if_neg e
  have ql : v.cell? ⟨m, 10582, none⟩ = some (.int .i64 c.line) := h.c_line
  have qd : v.cell? ⟨m, 10583, none⟩ = some (.int .i64 c.dot) := h.c_dot
  clear ok a4 a5 a6 s4 s5 s6 t4 t5 t6 u1 u2 u3 u4 u5 u6 f0 f1 t3 s3 a3
  generalize clkC A c = c5 at *
  generalize fouC A c = c4 at *
  generalize fouA A c = A4 at *
  generalize thiC A c = c3 at *
  generalize secC A c = c2 at *
  generalize secA A c = A2 at *
  have e4 := e3
  replace e3 : ¬ (c.line < 240 ∧ 1 ≤ c.dot ∧ c.dot ≤ 256) := fun k => e4 k.1
  have n1 : (c.dot == 1) = false := by simp [e1]
  have h1 : ST w0 v0 m A (fstC c) v := by rw [E2 e1]; exact h
  clear E1 E2 FF
  generalize fstC c = c1 at *
  go_enter Try.func32, Try.ntmps32
  replace h1 := ED e3 _ h1
  clear FD ED
  have n2 : (c.dot == 257) = false := by simp [e2]
  rcases Bool.eq_false_or_eq_true (shw c 24) with es | es
  · skip
    rcases (by omega : c.line = 261 ∨ ¬ c.line = 261) with el | el
    · have em : c.line < 240 ∨ c.line = 261 := .inr el
      rw [el] at ql
      rw [es] at FR
      replace FM := FM ⟨es, em⟩
      clear EM
      clear FP
      go_wp2_with (first | (go_at_call 57; refine (FR _ h1).mono ?_; rintro e x ⟨rfl, rfl⟩) | (go_at_call 58; refine (FM _ h1).mono ?_; rintro e v3 ⟨rfl, h3⟩; have qd3 : v3.cell? ⟨m, 10583, none⟩ = some (.int .i64 c.dot) := h3.c_dot.trans (by rw [t2]); have h4 := EP e2 _ h3) | (go_at_call 60; refine (FN _ h4).mono ?_; rintro e v5 ⟨rfl, h5⟩))
      all_goals (first | refine bodyPost_end (results_none rfl _ _ _) rfl ?_ | refine bodyPost_ret (results_none rfl _ _ _) rfl ?_)
      all_goals exact ⟨rfl, h5⟩
    · have em : ¬ (shw c 24 = true ∧ (c.line < 240 ∨ c.line = 261)) := by omega
      have el2 : (c.line == 261) = false := by simp [el]
      rw [es] at FR
      have h3 := EM em _ h1
      clear FM EM
      have h4 := EP e2 _ h3
      clear FP
      go_wp2_with (first | (go_at_call 57; refine (FR _ h1).mono ?_; rintro e x ⟨rfl, rfl⟩) | (go_at_call 60; refine (FN _ h4).mono ?_; rintro e v5 ⟨rfl, h5⟩))
      all_goals (first | refine bodyPost_end (results_none rfl _ _ _) rfl ?_ | refine bodyPost_ret (results_none rfl _ _ _) rfl ?_)
      all_goals exact ⟨rfl, h5⟩
  · have em : ¬ (shw c 24 = true ∧ (c.line < 240 ∨ c.line = 261)) := fun k => by rw [es] at k; exact absurd k.1 (by decide)
    rw [es] at FR
    have h3 := EM em _ h1
    clear FM EM
    have h4 := EP e2 _ h3
    clear FP
    go_wp2_with (first | (go_at_call 57; refine (FR _ h1).mono ?_; rintro e x ⟨rfl, rfl⟩) | (go_at_call 60; refine (FN _ h4).mono ?_; rintro e v5 ⟨rfl, h5⟩))
    all_goals (first | refine bodyPost_end (results_none rfl _ _ _) rfl ?_ | refine bodyPost_ret (results_none rfl _ _ _) rfl ?_)
    all_goals exact ⟨rfl, h5⟩

set_option maxRecDepth 100000 in
set_option maxHeartbeats 4000000 in
theorem ST.clk_xn1 (h : ST w0 v0 m A c v) (ok : COk c) (e1 : ¬ c.dot = 1) (e2 : ¬ c.dot = 257) (e4 : c.line < 240) (e5 : c.dot = 0) :
    Calls Try.prog 32 #[.pointer (some ⟨m, 0, none⟩)] v fun e v' => e = .returned (.tuple #[]) ∧ ST w0 v0 m (fouA A c) (clkC A c) v' := by
  have h2 := h
  obtain ⟨f0, f1⟩ := ok.fr
  obtain ⟨g0, g1⟩ := ok.line
  obtain ⟨g2, g3⟩ := ok.dot
  have FF := h.flags ok.fr
  obtain ⟨a1, a2, a3, a4, a5, a6⟩ := fstC_f c
  obtain ⟨s1, s2, s3, s4, s5, s6⟩ := secC_f A c
  obtain ⟨t1, t2, t3, t4, t5, t6⟩ := thiC_f A ok.lin
  obtain ⟨u1, u2, u3, u4, u5, u6⟩ := fouC_f A ok.lin ok.cnt
  have FD : c.line < 240 ∧ 1 ≤ c.dot ∧ c.dot ≤ 256 → ∀ u, ST w0 v0 m A (fstC c) u → Calls Try.prog 56 #[.pointer (some ⟨m, 0, none⟩), .int .i64 (c.dot - 1)] u fun e v' => e = .returned (.tuple #[]) ∧ ST w0 v0 m (secA A c) (secC A c) v' := fun e u hu => by
    have k1 : secA A c = drwA A (fstC c) (c.dot - 1) := if_pos e
    have k2 : secC A c = hitC A (fstC c) (c.dot - 1) := if_pos e
    rw [k1, k2]
    exact hu.draw (by rw [a6]; exact ok.lin) (by rw [a5]; exact ok.cnt) (c.dot - 1) (by omega) (by omega)
  have ED : ¬ (c.line < 240 ∧ 1 ≤ c.dot ∧ c.dot ≤ 256) → ∀ u, ST w0 v0 m A (fstC c) u → ST w0 v0 m (secA A c) (secC A c) u := fun e u hu => by
    have k1 : secA A c = A := if_neg e
    have k2 : secC A c = fstC c := if_neg e
    rw [k1, k2]; exact hu
  have FR := fun u (hu : ST w0 v0 m (secA A c) (secC A c) u) => (prenders_any hu.px).mono fun _ _ h => And.intro h.1 h.2.symm
  rw [shw_msk s3] at FR
  have FM : shw c 24 = true ∧ (c.line < 240 ∨ c.line = 261) → ∀ u, ST w0 v0 m (secA A c) (secC A c) u → Calls Try.prog 58 #[.pointer (some ⟨m, 0, none⟩)] u fun e v' => e = .returned (.tuple #[]) ∧ ST w0 v0 m (secA A c) (thiC A c) v' := fun e u hu => by
    have k : thiC A c = withS (secC A c) (movL (secC A c)) := if_pos e
    rw [k]; exact hu.move (by rw [s2]; exact g2)
  have EM : ¬ (shw c 24 = true ∧ (c.line < 240 ∨ c.line = 261)) → ∀ u, ST w0 v0 m (secA A c) (secC A c) u → ST w0 v0 m (secA A c) (thiC A c) u := fun e u hu => by
    have k : thiC A c = secC A c := if_neg e
    rw [k]; exact hu
  have FP : c.dot = 257 → ∀ u, ST w0 v0 m (secA A c) (thiC A c) u → Calls Try.prog 59 #[.pointer (some ⟨m, 0, none⟩)] u fun e v' => e = .returned (.tuple #[]) ∧ ST w0 v0 m (fouA A c) (fouC A c) v' := fun e u hu => by
    have k1 : fouA A c = pckA (secA A c) (thiC A c) := if_pos e
    have k2 : fouC A c = pckC (secA A c) (thiC A c) := if_pos e
    rw [k1, k2]; exact hu.pick (by rw [t1]; exact g0)
  have EP : ¬ c.dot = 257 → ∀ u, ST w0 v0 m (secA A c) (thiC A c) u → ST w0 v0 m (fouA A c) (fouC A c) u := fun e u hu => by
    have k1 : fouA A c = secA A c := if_neg e
    have k2 : fouC A c = thiC A c := if_neg e
    rw [k1, k2]; exact hu
  have FN := fun u (hu : ST w0 v0 m (fouA A c) (fouC A c) u) => hu.next (by rw [u4]; split <;> omega) (by rw [u1]; exact ok.line) (by rw [u2]; exact ok.dot)
  rw [show nexC (fouC A c) = clkC A c from rfl] at FN
  have E1 : c.dot = 1 → fstC c = flgC c := fun e => if_pos e
  have E2 : ¬ c.dot = 1 → fstC c = c := fun e => if_neg e
  have ql : v.cell? ⟨m, 10582, none⟩ = some (.int .i64 c.line) := h.c_line
  have qd : v.cell? ⟨m, 10583, none⟩ = some (.int .i64 c.dot) := h.c_dot
  clear ok a4 a5 a6 s4 s5 s6 t4 t5 t6 u1 u2 u3 u4 u5 u6 f0 f1 t3 s3 a3
  generalize clkC A c = c5 at *
  generalize fouC A c = c4 at *
  generalize fouA A c = A4 at *
  generalize thiC A c = c3 at *
  generalize secC A c = c2 at *
  generalize secA A c = A2 at *
  have e3 : ¬ (c.line < 240 ∧ 1 ≤ c.dot ∧ c.dot ≤ 256) := by omega
  have e6 : ¬ 1 ≤ c.dot := by omega
  have n1 : (c.dot == 1) = false := by simp [e1]
  have h1 : ST w0 v0 m A (fstC c) v := by rw [E2 e1]; exact h
  clear E1 E2 FF
  generalize fstC c = c1 at *
  go_enter Try.func32, Try.ntmps32
  replace h1 := ED e3 _ h1
  clear FD ED
  have n2 : (c.dot == 257) = false := by simp [e2]
  rcases Bool.eq_false_or_eq_true (shw c 24) with es | es
  · skip
    have em : c.line < 240 ∨ c.line = 261 := .inl (by omega)
    have el : c.line < 240 := by omega
    rw [es] at FR
    replace FM := FM ⟨es, em⟩
    clear EM
    clear FP
    go_wp2_with (first | (go_at_call 57; refine (FR _ h1).mono ?_; rintro e x ⟨rfl, rfl⟩) | (go_at_call 58; refine (FM _ h1).mono ?_; rintro e v3 ⟨rfl, h3⟩; have qd3 : v3.cell? ⟨m, 10583, none⟩ = some (.int .i64 c.dot) := h3.c_dot.trans (by rw [t2]); have h4 := EP e2 _ h3) | (go_at_call 60; refine (FN _ h4).mono ?_; rintro e v5 ⟨rfl, h5⟩))
    all_goals (first | refine bodyPost_end (results_none rfl _ _ _) rfl ?_ | refine bodyPost_ret (results_none rfl _ _ _) rfl ?_)
    all_goals exact ⟨rfl, h5⟩
  · have em : ¬ (shw c 24 = true ∧ (c.line < 240 ∨ c.line = 261)) := fun k => by rw [es] at k; exact absurd k.1 (by decide)
    rw [es] at FR
    have h3 := EM em _ h1
    clear FM EM
    have h4 := EP e2 _ h3
    clear FP
    go_wp2_with (first | (go_at_call 57; refine (FR _ h1).mono ?_; rintro e x ⟨rfl, rfl⟩) | (go_at_call 60; refine (FN _ h4).mono ?_; rintro e v5 ⟨rfl, h5⟩))
    all_goals (first | refine bodyPost_end (results_none rfl _ _ _) rfl ?_ | refine bodyPost_ret (results_none rfl _ _ _) rfl ?_)
    all_goals exact ⟨rfl, h5⟩

set_option maxRecDepth 100000 in
set_option maxHeartbeats 4000000 in
theorem ST.clk_xn2 (h : ST w0 v0 m A c v) (ok : COk c) (e1 : ¬ c.dot = 1) (e2 : ¬ c.dot = 257) (e4 : c.line < 240) (e5 : 256 < c.dot) :
    Calls Try.prog 32 #[.pointer (some ⟨m, 0, none⟩)] v fun e v' => e = .returned (.tuple #[]) ∧ ST w0 v0 m (fouA A c) (clkC A c) v' := by
  have h2 := h
  obtain ⟨f0, f1⟩ := ok.fr
  obtain ⟨g0, g1⟩ := ok.line
  obtain ⟨g2, g3⟩ := ok.dot
  have FF := h.flags ok.fr
  obtain ⟨a1, a2, a3, a4, a5, a6⟩ := fstC_f c
  obtain ⟨s1, s2, s3, s4, s5, s6⟩ := secC_f A c
  obtain ⟨t1, t2, t3, t4, t5, t6⟩ := thiC_f A ok.lin
  obtain ⟨u1, u2, u3, u4, u5, u6⟩ := fouC_f A ok.lin ok.cnt
  have FD : c.line < 240 ∧ 1 ≤ c.dot ∧ c.dot ≤ 256 → ∀ u, ST w0 v0 m A (fstC c) u → Calls Try.prog 56 #[.pointer (some ⟨m, 0, none⟩), .int .i64 (c.dot - 1)] u fun e v' => e = .returned (.tuple #[]) ∧ ST w0 v0 m (secA A c) (secC A c) v' := fun e u hu => by
    have k1 : secA A c = drwA A (fstC c) (c.dot - 1) := if_pos e
    have k2 : secC A c = hitC A (fstC c) (c.dot - 1) := if_pos e
    rw [k1, k2]
    exact hu.draw (by rw [a6]; exact ok.lin) (by rw [a5]; exact ok.cnt) (c.dot - 1) (by omega) (by omega)
  have ED : ¬ (c.line < 240 ∧ 1 ≤ c.dot ∧ c.dot ≤ 256) → ∀ u, ST w0 v0 m A (fstC c) u → ST w0 v0 m (secA A c) (secC A c) u := fun e u hu => by
    have k1 : secA A c = A := if_neg e
    have k2 : secC A c = fstC c := if_neg e
    rw [k1, k2]; exact hu
  have FR := fun u (hu : ST w0 v0 m (secA A c) (secC A c) u) => (prenders_any hu.px).mono fun _ _ h => And.intro h.1 h.2.symm
  rw [shw_msk s3] at FR
  have FM : shw c 24 = true ∧ (c.line < 240 ∨ c.line = 261) → ∀ u, ST w0 v0 m (secA A c) (secC A c) u → Calls Try.prog 58 #[.pointer (some ⟨m, 0, none⟩)] u fun e v' => e = .returned (.tuple #[]) ∧ ST w0 v0 m (secA A c) (thiC A c) v' := fun e u hu => by
    have k : thiC A c = withS (secC A c) (movL (secC A c)) := if_pos e
    rw [k]; exact hu.move (by rw [s2]; exact g2)
  have EM : ¬ (shw c 24 = true ∧ (c.line < 240 ∨ c.line = 261)) → ∀ u, ST w0 v0 m (secA A c) (secC A c) u → ST w0 v0 m (secA A c) (thiC A c) u := fun e u hu => by
    have k : thiC A c = secC A c := if_neg e
    rw [k]; exact hu
  have FP : c.dot = 257 → ∀ u, ST w0 v0 m (secA A c) (thiC A c) u → Calls Try.prog 59 #[.pointer (some ⟨m, 0, none⟩)] u fun e v' => e = .returned (.tuple #[]) ∧ ST w0 v0 m (fouA A c) (fouC A c) v' := fun e u hu => by
    have k1 : fouA A c = pckA (secA A c) (thiC A c) := if_pos e
    have k2 : fouC A c = pckC (secA A c) (thiC A c) := if_pos e
    rw [k1, k2]; exact hu.pick (by rw [t1]; exact g0)
  have EP : ¬ c.dot = 257 → ∀ u, ST w0 v0 m (secA A c) (thiC A c) u → ST w0 v0 m (fouA A c) (fouC A c) u := fun e u hu => by
    have k1 : fouA A c = secA A c := if_neg e
    have k2 : fouC A c = thiC A c := if_neg e
    rw [k1, k2]; exact hu
  have FN := fun u (hu : ST w0 v0 m (fouA A c) (fouC A c) u) => hu.next (by rw [u4]; split <;> omega) (by rw [u1]; exact ok.line) (by rw [u2]; exact ok.dot)
  rw [show nexC (fouC A c) = clkC A c from rfl] at FN
  have E1 : c.dot = 1 → fstC c = flgC c := fun e => if_pos e
  have E2 : ¬ c.dot = 1 → fstC c = c := fun e => if_neg e
  have ql : v.cell? ⟨m, 10582, none⟩ = some (.int .i64 c.line) := h.c_line
  have qd : v.cell? ⟨m, 10583, none⟩ = some (.int .i64 c.dot) := h.c_dot
  clear ok a4 a5 a6 s4 s5 s6 t4 t5 t6 u1 u2 u3 u4 u5 u6 f0 f1 t3 s3 a3
  generalize clkC A c = c5 at *
  generalize fouC A c = c4 at *
  generalize fouA A c = A4 at *
  generalize thiC A c = c3 at *
  generalize secC A c = c2 at *
  generalize secA A c = A2 at *
  have e3 : ¬ (c.line < 240 ∧ 1 ≤ c.dot ∧ c.dot ≤ 256) := by omega
  have e6 : ¬ c.dot ≤ 256 := by omega
  have e7 : 1 ≤ c.dot := by omega
  have n1 : (c.dot == 1) = false := by simp [e1]
  have h1 : ST w0 v0 m A (fstC c) v := by rw [E2 e1]; exact h
  clear E1 E2 FF
  generalize fstC c = c1 at *
  go_enter Try.func32, Try.ntmps32
  replace h1 := ED e3 _ h1
  clear FD ED
  have n2 : (c.dot == 257) = false := by simp [e2]
  rcases Bool.eq_false_or_eq_true (shw c 24) with es | es
  · skip
    have em : c.line < 240 ∨ c.line = 261 := .inl (by omega)
    have el : c.line < 240 := by omega
    rw [es] at FR
    replace FM := FM ⟨es, em⟩
    clear EM
    clear FP
    go_wp2_with (first | (go_at_call 57; refine (FR _ h1).mono ?_; rintro e x ⟨rfl, rfl⟩) | (go_at_call 58; refine (FM _ h1).mono ?_; rintro e v3 ⟨rfl, h3⟩; have qd3 : v3.cell? ⟨m, 10583, none⟩ = some (.int .i64 c.dot) := h3.c_dot.trans (by rw [t2]); have h4 := EP e2 _ h3) | (go_at_call 60; refine (FN _ h4).mono ?_; rintro e v5 ⟨rfl, h5⟩))
    all_goals (first | refine bodyPost_end (results_none rfl _ _ _) rfl ?_ | refine bodyPost_ret (results_none rfl _ _ _) rfl ?_)
    all_goals exact ⟨rfl, h5⟩
  · have em : ¬ (shw c 24 = true ∧ (c.line < 240 ∨ c.line = 261)) := fun k => by rw [es] at k; exact absurd k.1 (by decide)
    rw [es] at FR
    have h3 := EM em _ h1
    clear FM EM
    have h4 := EP e2 _ h3
    clear FP
    go_wp2_with (first | (go_at_call 57; refine (FR _ h1).mono ?_; rintro e x ⟨rfl, rfl⟩) | (go_at_call 60; refine (FN _ h4).mono ?_; rintro e v5 ⟨rfl, h5⟩))
    all_goals (first | refine bodyPost_end (results_none rfl _ _ _) rfl ?_ | refine bodyPost_ret (results_none rfl _ _ _) rfl ?_)
    all_goals exact ⟨rfl, h5⟩

theorem ST.clk (h : ST w0 v0 m A c v) (ok : COk c) :
    Calls Try.prog 32 #[.pointer (some ⟨m, 0, none⟩)] v fun e v' => e = .returned (.tuple #[]) ∧ ST w0 v0 m (fouA A c) (clkC A c) v' := by
  have hd := ok.dot
  by_cases e1 : c.dot = 1
  · by_cases e3 : c.line < 240
    · exact h.clk_fd ok e1 ⟨e3, by omega, by omega⟩
    · exact h.clk_fn ok e1 e3
  · by_cases e2 : c.dot = 257
    · exact h.clk_pn ok e2
    · by_cases e3 : c.line < 240
      · rcases (by omega : c.dot = 0 ∨ 256 < c.dot ∨ (1 ≤ c.dot ∧ c.dot ≤ 256)) with e4 | e4 | e4
        · exact h.clk_xn1 ok e1 e2 e3 e4
        · exact h.clk_xn2 ok e1 e2 e3 e4
        · exact h.clk_xd ok e1 e2 ⟨e3, e4⟩
      · exact h.clk_xn0 ok e1 e2 e3

end Go.Proofs.Ythldppdkheclkaa
