/- The picture unit: its dots, counted. No law is claimed here. -/
import Derived.Test.YthldppdkheclkaaPc17
import Derived.Test.YthldppdkheclkaaPc6
set_option linter.unusedSimpArgs false
set_option linter.unusedVariables false
namespace Go.Proofs.Ythldppdkheclkaa
open Go.RowKit Go.Great

variable {w0 v0 v v' : World} {m : Nat} {A : Nat → Value} {c : PC}

def lasN (S : Bool) (L F : Int) : Int := if L = 261 ∧ F % 2 = 0 ∧ S = true then 339 else 340
def nxF (L D F : Int) : Int := if D = 1 ∧ L = 241 then F + 1 else F
def nxD (S : Bool) (L D F : Int) : Int := if D < lasN S L (nxF L D F) then D + 1 else 0
def nxL (S : Bool) (L D F : Int) : Int := if D < lasN S L (nxF L D F) then L else if L = 261 then 0 else L + 1
/-- how many dots lie before the picture k -/
def basN (S : Bool) (k : Int) : Int := 89342 * k - (if S = true then k / 2 else 0)
structure CN (S : Bool) (k L D F N : Int) : Prop where
  rl : 0 ≤ L ∧ L ≤ 261
  rd : 0 ≤ D ∧ D ≤ 340
  rk : 0 ≤ k ∧ k ≤ 4
  st : (F = k ∧ 341 * L + D < 82183 ∧ N = basN S k + 341 * L + D) ∨
    (F = k ∧ 82183 ≤ 341 * L + D ∧ 1 ≤ k ∧ N = basN S (k - 1) + 341 * L + D ∧ ¬ (L = 261 ∧ D = 340 ∧ k % 2 = 0 ∧ S = true)) ∨
    (F = k + 1 ∧ L = 241 ∧ D = 2 ∧ N = basN S k + 82183)
theorem CN.first (S : Bool) : CN S 0 0 0 0 0 := ⟨by omega, by omega, by omega, .inl ⟨rfl, by omega, by unfold basN; cases S <;> simp⟩⟩
theorem basN_next (S : Bool) (k : Int) : basN S (k + 1) = basN S k + 89342 - (if k % 2 = 1 ∧ S = true then 1 else 0) := by
  unfold basN
  cases S
  · simp; omega
  · simp; split <;> omega
theorem CN.step {S : Bool} {k L D F N : Int} (h : CN S k L D F N) (e : F = k) : CN S k (nxL S L D F) (nxD S L D F) (nxF L D F) (N + 1) := by
  obtain ⟨h1, h2, h3, h4⟩ := h
  subst e
  have hb := basN_next S (F - 1)
  rw [show F - 1 + 1 = F by omega] at hb
  generalize hB0 : basN S (F - 1) = B0 at *
  generalize hB : basN S F = B at *
  by_cases t : D = 1 ∧ L = 241
  · obtain ⟨rfl, rfl⟩ := t
    have e0 : nxF 241 1 F = F + 1 := rfl
    have e1 : ∀ b, lasN S 241 b = 340 := fun b => if_neg (by simp)
    have e2 : nxL S 241 1 F = 241 := by unfold nxL; rw [e1]; rfl
    have e3 : nxD S 241 1 F = 2 := by unfold nxD; rw [e1]; rfl
    rw [e0, e2, e3]
    refine ⟨by omega, by omega, h3, .inr (.inr ⟨rfl, rfl, rfl, ?_⟩)⟩
    rw [hB]; omega
  · have e0 : nxF L D F = F := if_neg t
    unfold nxL nxD
    rw [e0]
    have e1 : (L = 261 ∧ F % 2 = 0 ∧ S = true ∧ lasN S L F = 339) ∨ (¬ (L = 261 ∧ F % 2 = 0 ∧ S = true) ∧ lasN S L F = 340) := by
      unfold lasN; split
      · rename_i g; exact .inl ⟨g.1, g.2.1, g.2.2, rfl⟩
      · rename_i g; exact .inr ⟨g, rfl⟩
    generalize lasN S L F = Z at *
    clear e0
    by_cases t1 : D < Z
    · rw [if_pos t1, if_pos t1]
      refine ⟨h1, by omega, h3, ?_⟩
      rcases h4 with ⟨_, a2, a3⟩ | ⟨_, a2, a3, a4, a5⟩ | ⟨a1, _⟩
      · refine .inl ⟨rfl, ?_, by rw [hB]; omega⟩
        rcases (by omega : 341 * L + D < 82182 ∨ 341 * L + D = 82182) with g | g
        · omega
        · have : L = 241 := by omega
          exact absurd ⟨by omega, this⟩ t
      · refine .inr (.inl ⟨rfl, by omega, a3, by rw [hB0]; omega, ?_⟩)
        rintro ⟨g1, g2, g3, g4⟩
        rcases e1 with g | g
        · omega
        · exact g.1 ⟨g1, g3, g4⟩
      · omega
    · rw [if_neg t1, if_neg t1]
      rcases h4 with ⟨_, a2, a3⟩ | ⟨_, a2, a3, a4, a5⟩ | ⟨a1, _⟩
      · have l1 : L ≤ 241 := by omega
        rw [if_neg (by omega)]
        have d1 : D = 340 := by omega
        refine ⟨by omega, by omega, h3, .inl ⟨rfl, by omega, by rw [hB]; omega⟩⟩
      · by_cases t2 : L = 261
        · rw [if_pos t2]
          refine ⟨by omega, by omega, h3, .inl ⟨rfl, by omega, ?_⟩⟩
          rw [hB, hb, a4, t2]
          rcases e1 with ⟨_, g2, g3, g4⟩ | ⟨g, g4⟩
          · rw [if_pos ⟨by omega, g3⟩]
            have : ¬ D = 340 := fun h => a5 ⟨t2, h, g2, g3⟩
            omega
          · rw [if_neg (fun ⟨x, y⟩ => g ⟨t2, by omega, y⟩)]
            omega
        · rw [if_neg t2]
          refine ⟨by omega, by omega, h3, .inr (.inl ⟨rfl, by omega, a3, by rw [hB0]; omega, ?_⟩)⟩
          rintro ⟨g1, g2, g3, g4⟩
          omega
      · omega
theorem CN.out {S : Bool} {k L D F N : Int} (h : CN S k L D F N) (e : ¬ F = k) : F = k + 1 ∧ L = 241 ∧ D = 2 ∧ N = basN S k + 82183 := by
  obtain ⟨h1, h2, h3, h4⟩ := h
  omega
theorem CN.lt {S : Bool} {k L D F N : Int} (h : CN S k L D F N) : 0 ≤ N ∧ N < 500000 := by
  obtain ⟨h1, h2, h3, h4⟩ := h
  unfold basN at h4
  cases S <;> simp at h4 <;> omega
theorem CN.next (S : Bool) {k : Int} (hk : 0 ≤ k ∧ k ≤ 3) : CN S (k + 1) 241 2 (k + 1) (basN S k + 82183) :=
  ⟨by omega, by omega, by omega, .inr (.inl ⟨rfl, by omega, by omega, by rw [show k + 1 - 1 = k by omega]; omega, by omega⟩)⟩

set_option maxRecDepth 100000 in
set_option maxHeartbeats 2000000 in
theorem ST.put1 (h : ST w0 v0 m A c v) (b : Int) :
    Calls Try.prog 31 #[.pointer (some ⟨m, 0, none⟩), .int .u8 1, .int .u8 b] v fun e v' => e = .returned (.tuple #[]) ∧ ST w0 v0 m A { c with bus := b, msk := b } v' := by
  have hP := (h.set_bus b).set_msk b
  have q1 := h.c_bus
  have q2 := h.c_msk
  have z1 := h.fz 10279
  have z2 := h.fz 10278
  go_enter Try.func31, Try.ntmps31
  go_wp2
  (first | refine bodyPost_end (results_none rfl _ _ _) rfl ?_ | refine bodyPost_ret (results_none rfl _ _ _) rfl ?_)
  exact ⟨rfl, hP⟩

/-- where it is, whatever is drawn -/
structure CS (w0 v0 : World) (m : Nat) (k L D F : Int) (v : World) : Prop where
  ex : ∃ A c, ST w0 v0 m A c v ∧ LIn (scrC c) ∧ (0 ≤ c.cnt ∧ c.cnt ≤ 8) ∧ c.msk = k ∧ c.line = L ∧ c.dot = D ∧ c.fr = F
theorem CS.bel {k L D F : Int} (h : CS w0 v0 m k L D F v) : Below m w0 v := by
  obtain ⟨A, c, hS, _⟩ := h.ex
  exact hS.px.bel
theorem CS.frame {k L D F : Int} (h : CS w0 v0 m k L D F v) :
    Calls Try.prog 34 #[.pointer (some ⟨m, 0, none⟩)] v fun e v' => e = .returned (.int .i64 F) ∧ v' = v := by
  obtain ⟨A, c, hS, _, _, _, _, _, rfl⟩ := h.ex
  exact pFrame_any hS.px
def shwK (k : Int) : Bool := !decide (bits .and .u8 k 24 = 0)
theorem CS.clk {k L D F : Int} (h : CS w0 v0 m k L D F v) (hL : 0 ≤ L ∧ L ≤ 261) (hD : 0 ≤ D ∧ D ≤ 340) (hF : 0 ≤ F ∧ F < 4611686018427387904) :
    Calls Try.prog 32 #[.pointer (some ⟨m, 0, none⟩)] v fun e v' => e = .returned (.tuple #[]) ∧ CS w0 v0 m k (nxL (shwK k) L D F) (nxD (shwK k) L D F) (nxF L D F) v' := by
  obtain ⟨A, c, hS, h1, h2, rfl, rfl, rfl, rfl⟩ := h.ex
  refine (hS.clk ⟨hF, hL, hD, h1, h2⟩).mono fun e v' hh => ⟨hh.1, ⟨fouA A c, clkC A c, hh.2, ?_⟩⟩
  obtain ⟨u1, u2, u3, u4, u5, u6⟩ := fouC_f A h1 h2
  have e1 : (fouC A c).fr = nxF c.line c.dot c.fr := u4
  have e2 : lasC (fouC A c) = lasN (shwK c.msk) c.line (nxF c.line c.dot c.fr) := by
    unfold lasC lasN
    rw [u1, e1, show shw (fouC A c) 24 = shwK c.msk by unfold shw shwK; rw [u3]]
  unfold clkC nexC nxL nxD
  rw [e2, u2, u1]
  by_cases t : c.dot < lasN (shwK c.msk) c.line (nxF c.line c.dot c.fr)
  · rw [if_pos t, if_pos t, if_pos t]
    exact ⟨u6, u5, u3, rfl, rfl, e1⟩
  · rw [if_neg t, if_neg t, if_neg t]
    exact ⟨u6, u5, u3, rfl, rfl, e1⟩

end Go.Proofs.Ythldppdkheclkaa
