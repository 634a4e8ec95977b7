/- The picture unit: a dot that is drawn. No law is claimed here. -/
import Derived.Test.YthldppdkheclkaaPc10
set_option linter.unusedSimpArgs false
set_option linter.unusedVariables false
namespace Go.Proofs.Ythldppdkheclkaa
open Go.RowKit Go.Great

variable {w0 v0 v v' : World} {m : Nat} {A : Nat → Value} {c : PC}

def pixV (A : Nat → Value) (c : PC) (x : Int) : Int := if bits .and .u8 c.msk 1 != 0 then bits .and .u8 (memV A c.up (16128 + colV A c x)) 48 else memV A c.up (16128 + colV A c x)
def pixI (c : PC) (x : Int) : Nat := 10585 + c.line.toNat * 256 + x.toNat
def drwA (A : Nat → Value) (c : PC) (x : Int) : Nat → Value := updV A (pixI c x) (.int .u8 (pixV A c x))
theorem hitC_f (A : Nat → Value) (c : PC) (x : Int) : (hitC A c x).up = c.up ∧ (hitC A c x).msk = c.msk ∧ (hitC A c x).line = c.line ∧ (hitC A c x).dot = c.dot ∧ (hitC A c x).fr = c.fr ∧ (hitC A c x).cnt = c.cnt ∧ scrC (hitC A c x) = scrC c := by
  unfold hitC; split <;> exact ⟨rfl, rfl, rfl, rfl, rfl, rfl, rfl⟩
theorem and48_b (b : Int) : 0 ≤ bits .and .u8 b 48 ∧ bits .and .u8 b 48 < 256 := by
  obtain ⟨k, hk⟩ : ∃ k, bits .and .u8 b 48 = IntKind.u8.wrap k := ⟨_, rfl⟩
  rw [hk, wrap_u8_mod]
  omega

set_option maxRecDepth 100000 in
set_option maxHeartbeats 4000000 in
theorem ST.draw (h : ST w0 v0 m A c v) (hS : LIn (scrC c)) (hn : 0 ≤ c.cnt ∧ c.cnt ≤ 8) (x : Int) (hx : 0 ≤ x ∧ x < 256) (hl : 0 ≤ c.line ∧ c.line < 240) :
    Calls Try.prog 56 #[.pointer (some ⟨m, 0, none⟩), .int .i64 x] v fun e v' => e = .returned (.tuple #[]) ∧ ST w0 v0 m (drwA A c x) (hitC A c x) v' := by
  have FC := fun (u : World) (hu : ST w0 v0 m A c u) => hu.colour hS hn x hx
  have bC := colV_b A c x
  obtain ⟨f1, f2, f3, f4, f5, f6, f7⟩ := hitC_f A c x
  have FG := fun (u : World) (hu : ST w0 v0 m A (hitC A c x) u) => hu.mget (16128 + colV A c x) (by omega)
  rw [f1] at FG
  have hM := (h.tb.mem_is c.up (16128 + colV A c x)).2
  have ep : pixV A c x = if bits .and .u8 c.msk 1 != 0 then bits .and .u8 (memV A c.up (16128 + colV A c x)) 48 else memV A c.up (16128 + colV A c x) := rfl
  have ed : drwA A c x = updV A (pixI c x) (.int .u8 (pixV A c x)) := rfl
  have b48 := and48_b (memV A c.up (16128 + colV A c x))
  have ei : pixI c x = 10585 + c.line.toNat * 256 + x.toNat := rfl
  have hR := h.tb.rows
  generalize drwA A c x = A2 at *
  generalize pixV A c x = px at *
  generalize pixI c x = pi at *
  generalize hitC A c x = c2 at *
  generalize colV A c x = C at *
  have z0 : IntKind.u16.wrap C = C := by rw [wrap_u16_mod]; omega
  have z1 : IntKind.u16.wrap (16128 + C) = 16128 + C := by rw [wrap_u16_mod]; omega
  generalize memV A c.up (16128 + C) = M at *
  obtain ⟨j, hj⟩ := natP x hx.1
  obtain ⟨l, hl1⟩ := natP c.line hl.1
  have hj2 : j < 256 := by omega
  have hl2 : l < 240 := by omega
  have ei2 : pi = 10585 + (l * 256 + j) := by omega
  subst hj
  go_enter Try.func56, Try.ntmps56
  go_upto_region 0 with (fail)
  go_region_held3 (fun _ => True) (exact trivial) (first | (go_at_call 82; refine (FC _ (by first | exact h | exact h.drew)).mono ?_; rintro e v1 ⟨rfl, h1⟩) | (go_at_call 50; refine (FG _ h1).mono ?_; rintro e v2 ⟨rfl, b2⟩; have h2 := h1.past b2))
  clear FC FG h h1 b2
  have q1 := h2.c_msk
  rw [f2] at q1
  have q2 := h2.c_line
  rw [f3, hl1] at q2
  obtain ⟨y, hy, _⟩ := hR (l * 256 + j) (by omega)
  have q3 : v2.cell? ⟨m, 10585 + l * 256 + j, none⟩ = some (.int .u8 y) := by
    have := (h2.big (10585 + (l * 256 + j)) (.inr (.inr (by omega))) (by omega)).trans (congrArg some hy)
    rwa [← Nat.add_assoc] at this
  have z3 := h2.fz (10585 + l * 256 + j)
  have hl3 : (l : Int) < 240 := by omega
  have hl4 : (j : Int) < 256 := by omega
  have hP := fun (y : Int) (hy : 0 ≤ y ∧ y < 256) => h2.drew.byte (10585 + l * 256 + j) y (.inr (.inr (by omega))) hy
  clear hR hy hx hl
  rw [show pi = 10585 + l * 256 + j by omega] at ed
  by_cases e1 : (bits .and .u8 c.msk 1 != 0) = true
  · rw [if_pos e1] at ep
    subst ep
    replace hP := hP _ b48
    rw [← ed] at hP
    clear ed h2
    go_upto_region 3 with (fail)
    go_still_tail 11, (by kernel_rfl)
    go_wp2
    (first | refine bodyPost_end (results_none rfl _ _ _) rfl ?_ | refine bodyPost_ret (results_none rfl _ _ _) rfl ?_)
    exact ⟨rfl, hP⟩
  · rw [if_neg e1] at ep
    subst ep
    replace hP := hP _ hM
    rw [← ed] at hP
    clear ed h2
    have e2 : (bits .and .u8 c.msk 1 != 0) = false := by simpa using e1
    go_upto_region 3 with (fail)
    go_still_tail 11, (by kernel_rfl)
    go_wp2
    (first | refine bodyPost_end (results_none rfl _ _ _) rfl ?_ | refine bodyPost_ret (results_none rfl _ _ _) rfl ?_)
    exact ⟨rfl, hP⟩

end Go.Proofs.Ythldppdkheclkaa
