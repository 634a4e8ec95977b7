/- The picture unit, dot by dot, where nothing is shown; the document's example. No law is claimed here. -/
import Derived.Test.YthldppdkheclkaaPc5
set_option linter.unusedSimpArgs false
set_option linter.unusedVariables false
namespace Go.Proofs.Ythldppdkheclkaa
open Go.RowKit Go.Great

variable {w0 v v' : World} {m : Nat} {A : Nat → Value} {c : PC}

theorem pc_ext {a b : PC} (h0 : a.up = b.up) (h1 : a.V = b.V) (h2 : a.T = b.T) (h3 : a.X = b.X) (h4 : a.W = b.W) (h5 : a.con = b.con) (h6 : a.msk = b.msk) (h7 : a.bus = b.bus) (h8 : a.buf = b.buf) (h9 : a.ad = b.ad) (h10 : a.cnt = b.cnt)
    (h11 : a.blank = b.blank) (h12 : a.hit = b.hit) (h13 : a.over = b.over) (h14 : a.line = b.line) (h15 : a.dot = b.dot) (h16 : a.fr = b.fr) : a = b := by
  cases a; cases b; simp only at *; subst_vars; rfl
/-- behind i dots of the first picture, where nothing is shown -/
def dkC (c : PC) (i : Nat) : PC := { c with cnt := 0, line := (i / 341 : Nat), dot := (i % 341 : Nat), blank := decide (82183 ≤ i ∧ i < 89003), hit := false, over := false, fr := if 82183 ≤ i then 1 else 0 }
theorem dk_ok (i : Nat) (h : i < 89342) : POk (dkC c i) := by
  refine ⟨?_, ?_, ?_⟩
  · show 0 ≤ (if 82183 ≤ i then (1 : Int) else 0) ∧ (if 82183 ≤ i then (1 : Int) else 0) < _
    split <;> decide
  · show 0 ≤ ((i / 341 : Nat) : Int) ∧ ((i / 341 : Nat) : Int) ≤ 261
    omega
  · show 0 ≤ ((i % 341 : Nat) : Int) ∧ ((i % 341 : Nat) : Int) ≤ 340
    omega
theorem las_dark (x : PC) (h : x.msk = 0) : lasC x = 340 := by
  have : shw x 24 = false := by unfold shw; rw [h]; decide +kernel
  unfold lasC
  rw [this]
  simp
theorem dk_step (hk : c.msk = 0) (i : Nat) (h : i < 89341) : clkD (dkC c i) = dkC c (i + 1) := by
  have e0 : i = 341 * (i / 341) + i % 341 := by omega
  have e1 : i % 341 < 341 := by omega
  have hl : (dkC c i).line = (i / 341 : Nat) := rfl
  have hd : (dkC c i).dot = (i % 341 : Nat) := rfl
  have hm : (dkC c i).msk = 0 := hk
  by_cases d1 : i % 341 = 1
  · have f1 : (i + 1) / 341 = i / 341 := by omega
    have f2 : (i + 1) % 341 = 2 := by omega
    have g : clkD (dkC c i) = nexC (flgC (dkC c i)) := by
      unfold clkD
      simp only [hd, d1]
      rfl
    rw [g]
    have hm2 : (flgC (dkC c i)).msk = 0 := (flg_line _).2.2.1.trans hm
    have hd2 : (flgC (dkC c i)).dot = 1 := (flg_line _).2.1.trans (by rw [hd, d1]; rfl)
    have g2 : nexC (flgC (dkC c i)) = { flgC (dkC c i) with dot := 2 } := by
      unfold nexC
      rw [las_dark _ hm2, hd2]
      rfl
    rw [g2]
    by_cases l1 : i / 341 = 241
    · have g3 : flgC (dkC c i) = { dkC c i with blank := true, fr := (dkC c i).fr + 1 } := by unfold flgC; rw [if_pos (by rw [hl, l1]; rfl)]
      rw [g3]
      have : i = 82182 := by omega
      subst this
      rfl
    · by_cases l2 : i / 341 = 261
      · have g3 : flgC (dkC c i) = { dkC c i with blank := false, hit := false, over := false } := by unfold flgC; rw [if_neg (by rw [hl, l2]; decide), if_pos (by rw [hl, l2]; rfl)]
        rw [g3]
        have : i = 89002 := by omega
        subst this
        rfl
      · have g3 : flgC (dkC c i) = dkC c i := by unfold flgC; rw [if_neg (by rw [hl]; omega), if_neg (by rw [hl]; omega)]
        rw [g3]
        apply pc_ext <;> first | rfl | skip
        · show decide _ = decide _
          exact decide_eq_decide.2 (by omega)
        · show ((i / 341 : Nat) : Int) = (((i + 1) / 341 : Nat) : Int)
          rw [f1]
        · show (2 : Int) = (((i + 1) % 341 : Nat) : Int)
          rw [f2]; rfl
        · show (if 82183 ≤ i then (1 : Int) else 0) = (if 82183 ≤ i + 1 then 1 else 0)
          split <;> split <;> omega
  · have g : clkD (dkC c i) = nexC (dkC c i) := by
      have n1 : ¬ (dkC c i).dot = 1 := by rw [hd]; omega
      by_cases d2 : (dkC c i).dot = 257
      · simp only [clkD, if_neg n1, if_pos d2]
        rfl
      · simp only [clkD, if_neg n1, if_neg d2]
    rw [g]
    by_cases d3 : i % 341 = 340
    · have f1 : (i + 1) / 341 = i / 341 + 1 := by omega
      have f2 : (i + 1) % 341 = 0 := by omega
      have g2 : nexC (dkC c i) = { dkC c i with dot := 0, line := (dkC c i).line + 1 } := by
        unfold nexC
        rw [las_dark _ hm, if_neg (by rw [hd]; omega), if_neg (by rw [hl]; omega)]
      rw [g2]
      apply pc_ext <;> first | rfl | skip
      · show decide _ = decide _
        exact decide_eq_decide.2 (by omega)
      · show ((i / 341 : Nat) : Int) + 1 = (((i + 1) / 341 : Nat) : Int)
        rw [f1]; rfl
      · show (0 : Int) = (((i + 1) % 341 : Nat) : Int)
        rw [f2]; rfl
      · show (if 82183 ≤ i then (1 : Int) else 0) = (if 82183 ≤ i + 1 then 1 else 0)
        split <;> split <;> omega
    · have f1 : (i + 1) / 341 = i / 341 := by omega
      have f2 : (i + 1) % 341 = i % 341 + 1 := by omega
      have g2 : nexC (dkC c i) = { dkC c i with dot := (dkC c i).dot + 1 } := by
        unfold nexC
        rw [las_dark _ hm, if_pos (by rw [hd]; omega)]
      rw [g2]
      apply pc_ext <;> first | rfl | skip
      · show decide _ = decide _
        exact decide_eq_decide.2 (by omega)
      · show ((i / 341 : Nat) : Int) = (((i + 1) / 341 : Nat) : Int)
        rw [f1]
      · show ((i % 341 : Nat) : Int) + 1 = (((i + 1) % 341 : Nat) : Int)
        rw [f2]; rfl
      · show (if 82183 ≤ i then (1 : Int) else 0) = (if 82183 ≤ i + 1 then 1 else 0)
        split <;> split <;> omega
theorem dk_clock (hk : c.msk = 0) (i : Nat) (hi : i < 89341) (h : PX w0 m (dkC c i) v) :
    Calls Try.prog 32 #[.pointer (some ⟨m, 0, none⟩)] v fun e v' => e = .returned (.tuple #[]) ∧ PX w0 m (dkC c (i + 1)) v' := by
  have := pClock_dark h hk (dk_ok i (by omega))
  rwa [dk_step hk i hi] at this

set_option maxRecDepth 100000 in
set_option maxHeartbeats 2000000 in
theorem awake15_any (w : World) : Calls Try.prog 12 #[] w fun e w' => e = .returned (.bool true) ∧ Below w.heap.size w w' := by
  have FN := pnew_any w
  obtain ⟨m, hm⟩ : ∃ m, w.heap.size = m := ⟨_, rfl⟩
  rw [hm] at FN ⊢
  go_enter Try.func12, Try.ntmps12
  go_upto_region 3 with (go_at_call 13; refine FN.mono ?_; rintro e w1 ⟨rfl, h1⟩)
  clear FN
  go_loopw [3] (fun i wr => ∃ j : Nat, i = .int .i64 j ∧ j ≤ 82183 ∧ PX w m (dkC c0 j) wr) (fun i _ => 82183 - (intOf i).toNat)
  case atStart => exact ⟨0, rfl, by decide, h1⟩
  case round =>
    clear h1
    obtain ⟨v, rfl⟩ : ∃ v, v = wr := ⟨wr, rfl⟩
    obtain ⟨j, rfl, hj, hX⟩ := hrel
    by_cases t1 : (j : Int) < 82183
    · have FC := dk_clock (c := c0) rfl j (by omega) hX
      go_wp2_with (go_at_call 32; refine FC.mono ?_; rintro e w2 ⟨rfl, h2⟩)
      go_roundw
      case rel => exact ⟨j + 1, by go_num, by omega, h2⟩
      case measure => simp [intOf]; omega
    · have ej : j = 82183 := by omega
      subst ej
      have b1 : lkB (dkC c0 82183).bus (dkC c0 82183).over (dkC c0 82183).hit (dkC c0 82183).blank = 128 := by decide +kernel
      have FG := pGet2_any hX
      rw [b1] at FG
      have b2 : lkB (lkC (dkC c0 82183)).bus (lkC (dkC c0 82183)).over (lkC (dkC c0 82183)).hit (lkC (dkC c0 82183)).blank = 0 := by decide +kernel
      go_wp2_with (first | (go_at_call 17; refine FG.mono ?_; clear FG hX; rintro e w2 ⟨rfl, h2⟩; have FH := pGet2_any h2; rw [b2] at FH) | (go_at_call 17; refine FH.mono ?_; rintro e w3 ⟨rfl, h3⟩))
      go_ret
      exact ⟨rfl, h3.bel⟩

end Go.Proofs.Ythldppdkheclkaa
