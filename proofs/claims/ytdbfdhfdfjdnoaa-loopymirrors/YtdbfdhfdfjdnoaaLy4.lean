/- LoopyMirrors, LoopyColours (walks). No law is claimed here. -/
import Derived.Test.YtdbfdhfdfjdnoaaLy3
namespace Go.Proofs.Ytdbfdhfdfjdnoaa
open Go.RowKit

set_option maxRecDepth 100000 in
set_option maxHeartbeats 1000000 in
theorem rmirror_any (a : Int) (up : Bool) (w : World) (ha : 0 ≤ a ∧ a < 65536) :
    Calls Try.prog 37 #[.int .i64 a, .bool up] w fun e w' => e = .returned (.int .i64 (mirN a up)) ∧ w' = w := by
  have y1 := ha.1
  have y2 := ha.2
  clear ha
  cases up
  all_goals
    go_enter Try.func37, Try.ntmps37
    go_wp2
    go_ret
    refine ⟨?_, rfl⟩
    simp [mirN]
    try omega

set_option maxRecDepth 100000 in
set_option maxHeartbeats 1000000 in
theorem rcolour_any (a : Int) (w : World) (ha : 0 ≤ a ∧ a < 65536) :
    Calls Try.prog 39 #[.int .i64 a] w fun e w' => e = .returned (.int .i64 (colN a)) ∧ w' = w := by
  have y1 := ha.1
  have y2 := ha.2
  clear ha
  rcases (by by_cases h : 16 ≤ a % 32; exact .inl h; exact .inr (by omega) : 16 ≤ a % 32 ∨ a % 32 < 16) with e1 | e1
  all_goals
    rcases (by by_cases h : a % 32 % 4 = 0; exact .inl h; exact .inr h : a % 32 % 4 = 0 ∨ ¬ a % 32 % 4 = 0) with e2 | e2
    all_goals
      go_enter Try.func39, Try.ntmps39
      go_wp2
      go_ret
      refine ⟨congrArg (fun z => Ending.returned (Value.int .i64 z)) ?_, rfl⟩
      unfold colN
      split <;> omega

theorem xm1024 (a : Int) : (a + 1024 - 2 * (a / 1024 % 2 * 1024)) % 1024 = a % 1024 ∧ (a + 1024 - 2 * (a / 1024 % 2 * 1024)) / 1024 % 2 = 1 - a / 1024 % 2 ∧ (a + 1024 - 2 * (a / 1024 % 2 * 1024)) / 2048 % 2 = a / 2048 % 2 := by
  refine ⟨by omega, by omega, by omega⟩
theorem xm2048 (a : Int) : (a + 2048 - 2 * (a / 2048 % 2 * 2048)) % 1024 = a % 1024 ∧ (a + 2048 - 2 * (a / 2048 % 2 * 2048)) / 2048 % 2 = 1 - a / 2048 % 2 ∧ (a + 2048 - 2 * (a / 2048 % 2 * 2048)) / 1024 % 2 = a / 1024 % 2 := by
  refine ⟨by omega, by omega, by omega⟩
theorem xm4096 (a : Int) : (a + 4096 - 2 * (a / 4096 % 2 * 4096)) % 1024 = a % 1024 ∧ (a + 4096 - 2 * (a / 4096 % 2 * 4096)) / 2048 % 2 = a / 2048 % 2 ∧ (a + 4096 - 2 * (a / 4096 % 2 * 4096)) / 1024 % 2 = a / 1024 % 2 := by
  refine ⟨by omega, by omega, by omega⟩
theorem mir_arith (a : Int) (up : Bool) : 0 ≤ mirN a up ∧ mirN a up < 2048 ∧ mirN (a + 4096 - 2 * (a / 4096 % 2 * 4096)) up = mirN a up ∧
    (up = true → mirN (a + 1024 - 2 * (a / 1024 % 2 * 1024)) up ≠ mirN a up ∧ mirN (a + 2048 - 2 * (a / 2048 % 2 * 2048)) up = mirN a up) ∧
    (up = false → mirN (a + 1024 - 2 * (a / 1024 % 2 * 1024)) up = mirN a up ∧ mirN (a + 2048 - 2 * (a / 2048 % 2 * 2048)) up ≠ mirN a up) := by
  obtain ⟨a1, a2, a3⟩ := xm1024 a
  obtain ⟨b1, b2, b3⟩ := xm2048 a
  obtain ⟨c1, c2, c3⟩ := xm4096 a
  unfold mirN
  rw [a1, a2, a3, b1, b2, b3, c1, c2, c3]
  have h1 : 0 ≤ a / 1024 % 2 ∧ a / 1024 % 2 < 2 := by omega
  have h2 : 0 ≤ a / 2048 % 2 ∧ a / 2048 % 2 < 2 := by omega
  have h3 : 0 ≤ a % 1024 ∧ a % 1024 < 1024 := by omega
  generalize a / 1024 % 2 = x at *
  generalize a / 2048 % 2 = y at *
  generalize a % 1024 = z at *
  cases up <;> simp only [if_true, if_false, Bool.false_eq_true, false_implies, true_implies, reduceCtorEq] <;> refine ⟨by omega, by omega, trivial, ?_, ?_⟩ <;> first | trivial | (constructor <;> first | trivial | omega)

set_option maxRecDepth 100000 in
set_option maxHeartbeats 1000000 in
theorem loopyMirrors_walk (a : Int) (up : Bool) (w : World) (ha : 0 ≤ a ∧ a < 65536) :
    Calls Try.prog 8 #[.int .u16 a, .bool up] w fun e w' => e = .returned (.bool true) ∧ Below w.heap.size w w' := by
  have x1 := xor_is a 1024 ha (by decide)
  have x2 := xor_is a 2048 ha (by decide)
  have x3 := xor_is a 4096 ha (by decide)
  rw [m1024 a ha] at x1
  rw [m2048 a ha] at x2
  rw [m4096 a ha] at x3
  have FA := awake14_any
  have F0 := fun w => mirror_any a up w ha
  have F1 := fun w => mirror_any (bits .xor .u16 a 1024) up w (by omega)
  have F2 := fun w => mirror_any (bits .xor .u16 a 2048) up w (by omega)
  have F3 := fun w => mirror_any (bits .xor .u16 a 4096) up w (by omega)
  have F4 := fun w => rmirror_any a up w ha
  obtain ⟨M, hM⟩ : ∃ M, mirN a up = M := ⟨_, rfl⟩
  obtain ⟨M1, hM1⟩ : ∃ M, mirN (bits .xor .u16 a 1024) up = M := ⟨_, rfl⟩
  obtain ⟨M2, hM2⟩ : ∃ M, mirN (bits .xor .u16 a 2048) up = M := ⟨_, rfl⟩
  obtain ⟨M3, hM3⟩ : ∃ M, mirN (bits .xor .u16 a 4096) up = M := ⟨_, rfl⟩
  rw [hM] at F0 F4
  rw [hM1] at F1
  rw [hM2] at F2
  rw [hM3] at F3
  have q : 0 ≤ M ∧ M < 2048 ∧ M3 = M ∧ (up = true → M1 ≠ M ∧ M2 = M) ∧ (up = false → M1 = M ∧ M2 ≠ M) := by
    rw [x1] at hM1
    rw [x2] at hM2
    rw [x3] at hM3
    have := mir_arith a up
    rw [hM, hM1, hM2, hM3] at this
    exact this
  obtain ⟨q0, q1, rfl, q2, q3⟩ := q
  have y1 := ha.1
  have y2 := ha.2
  clear ha hM hM1 hM2 hM3 x1 x2 x3
  have e1 : IntKind.i64.wrap a = a := IntWalk.i64_in _ ⟨by omega, by omega⟩
  have e2 : IntKind.i64.wrap M3 = M3 := IntWalk.i64_in _ ⟨by omega, by omega⟩
  have p1 : (M1 == M3) = !up := by cases up; simpa using (q3 rfl).1; simpa using (q2 rfl).1
  have p2 : (M2 == M3) = up := by cases up; simpa using (q3 rfl).2; simpa using (q2 rfl).2
  clear q2 q3
  cases up
  all_goals
    go_enter Try.func8, Try.ntmps8
    go_wp2_with (first
      | (go_at_call 10; refine (FA _).mono ?_; rintro e w1 ⟨rfl, hE⟩; clear FA; have hB := hE.below)
      | (go_at_call_of 36 (bits .xor .u16 a 1024); refine (F1 _).mono ?_; rintro e w2 ⟨rfl, rfl⟩)
      | (go_at_call_of 36 (bits .xor .u16 a 2048); refine (F2 _).mono ?_; rintro e w2 ⟨rfl, rfl⟩)
      | (go_at_call_of 36 (bits .xor .u16 a 4096); refine (F3 _).mono ?_; rintro e w2 ⟨rfl, rfl⟩)
      | (go_at_call 36; refine (F0 _).mono ?_; rintro e w2 ⟨rfl, rfl⟩)
      | (go_at_call 37; refine (F4 _).mono ?_; rintro e w2 ⟨rfl, rfl⟩))
    all_goals go_ret
    all_goals exact ⟨rfl, hB⟩

/-- how many of the first k colours are at their own place -/
def cntC : Nat → Int
  | 0 => 0
  | k + 1 => if colN (k : Int) = (k : Int) then cntC k + 1 else cntC k
theorem cntC_b : ∀ k, 0 ≤ cntC k ∧ cntC k ≤ k := by
  intro k
  induction k with
  | zero => exact ⟨by decide, by decide⟩
  | succ k ih => unfold cntC; split <;> push_cast <;> omega
theorem xor16 (a : Int) (ha : 0 ≤ a ∧ a < 65536) : bits .xor .u16 a 16 = a + 16 - 2 * (a / 16 % 2 * 16) := by
  have e := nat_mask a 16 (fun v => v / 16 % 2 * 16) ha (by decide) fun n _ => by
    rw [show n &&& 16 = _ from fld n 4 1]; simp only [show (2 : Nat) ^ 4 = 16 from rfl, Nat.pow_one]; omega
  rw [xor_is a 16 ha (by decide), show bits .and .u16 a 16 = _ from e]
theorem colN_b (a : Int) : 0 ≤ colN a ∧ colN a < 32 := by unfold colN; split <;> omega
theorem colN_2 (a : Int) : colN (colN a) = colN a := by unfold colN; split <;> (split <;> first | rfl | omega)
theorem colN_x (a : Int) : colN (a + 16 - 2 * (a / 16 % 2 * 16)) = colN a ↔ a % 4 = 0 := by
  have h1 : (a + 16 - 2 * (a / 16 % 2 * 16)) % 4 = a % 4 := by omega
  have h2 : (a + 16 - 2 * (a / 16 % 2 * 16)) % 16 = a % 16 := by omega
  have h3 : (a + 16 - 2 * (a / 16 % 2 * 16)) % 32 ≠ a % 32 := by omega
  unfold colN
  rw [h1, h2]
  split
  · exact ⟨fun _ => by assumption, fun _ => rfl⟩
  · exact ⟨fun h => absurd h h3, fun h => absurd h (by assumption)⟩

set_option maxRecDepth 100000 in
set_option maxHeartbeats 2000000 in
theorem loopyColours_walk (a : Int) (w : World) (ha : 0 ≤ a ∧ a < 65536) :
    Calls Try.prog 9 #[.int .u16 a] w fun e w' => e = .returned (.bool true) ∧ Below w.heap.size w w' := by
  have x1 := xor16 a ha
  have FA := awake14_any
  have F0 := fun w => colour_any a w ha
  have F1 := fun w => colour_any (bits .xor .u16 a 16) w (by omega)
  have F2 := fun w => rcolour_any a w ha
  have c0 := colN_b a
  have F3 := fun w => colour_any (colN a) w (by omega)
  have c1 := colN_x a
  rw [← x1] at c1
  rw [colN_2] at F3
  have p1 : (bits .and .u16 a 3 == 0) = (colN (bits .xor .u16 a 16) == colN a) := by
    rw [m3 a ha]
    by_cases h : a % 4 = 0
    · rw [beq_iff_eq.mpr (c1.mpr h), beq_iff_eq.mpr h]
    · rw [beq_eq_false_iff_ne.mpr h, beq_eq_false_iff_ne.mpr (fun e => h (c1.mp e))]
  generalize hz : colN a = C at *
  generalize hx : colN (bits .xor .u16 a 16) = X at *
  have y1 := ha.1
  have y2 := ha.2
  have e1 : IntKind.i64.wrap a = a := IntWalk.i64_in _ ⟨by omega, by omega⟩
  have e2 : IntKind.i64.wrap C = C := IntWalk.i64_in _ ⟨by omega, by omega⟩
  obtain ⟨y3, y4⟩ := c0
  have e3 : IntKind.u16.wrap C = C := by rw [wrap_u16_mod]; omega
  clear ha x1 c1 hz hx
  go_enter Try.func9, Try.ntmps9
  go_upto_region 6 with (first
      | (go_at_call 10; refine (FA _).mono ?_; rintro e w1 ⟨rfl, hE⟩; clear FA; have hB := hE.below)
      | (go_at_call 38; refine (F0 _).mono ?_; rintro e w2 ⟨rfl, rfl⟩))
  go_loopw [4, 10] (fun sn i wr => ∃ k : Nat, k ≤ 32 ∧ i = .int .u16 k ∧ sn = .int .i64 (cntC k) ∧ Below w.heap.size w wr) (fun _ i _ => 32 - (intOf i).toNat)
  case atStart => exact ⟨0, Nat.zero_le _, rfl, rfl, hB⟩
  case round =>
    obtain ⟨k, hk, rfl, rfl, hb⟩ := hrel
    by_cases h : k < 32
    · have t1 : (k : Int) < 32 := by omega
      have F4 := fun w => colour_any (k : Int) w ⟨by omega, by omega⟩
      have b := cntC_b k
      have y4 : IntKind.i64.wrap (cntC k + 1) = cntC k + 1 := IntWalk.i64_in _ ⟨by omega, by omega⟩
      have e4 : IntKind.u8.wrap (k : Int) = k := by rw [wrap_u8_mod]; omega
      generalize hn : cntC k = N at *
      rcases (by by_cases e : colN (k : Int) = k; exact .inl e; exact .inr e : colN (k : Int) = k ∨ ¬ colN (k : Int) = k) with he | he
      · rw [he] at F4
        clear b
        go_wp2_with (go_at_call 38; refine (F4 _).mono ?_; rintro e w2 ⟨rfl, rfl⟩)
        go_roundw
        case rel => exact ⟨k + 1, by omega, by go_num, by unfold cntC; rw [if_pos he, hn], hb⟩
        case measure => simp [intOf]; omega
      · have he2 : (colN (k : Int) == (k : Int)) = false := by simpa using he
        generalize hQ : colN (k : Int) = Q at *
        clear b
        go_wp2_with (go_at_call 38; refine (F4 _).mono ?_; rintro e w2 ⟨rfl, rfl⟩)
        go_roundw
        case rel => exact ⟨k + 1, by omega, by go_num, by unfold cntC; rw [if_neg (by rw [hQ]; exact he), hn], hb⟩
        case measure => simp [intOf]; omega
    · have : k = 32 := by omega
      subst this
      have e5 : cntC 32 = 28 := by decide +kernel
      rw [e5]
      go_wp2_with (first
        | (go_at_call 39; refine (F2 _).mono ?_; rintro e w2 ⟨rfl, rfl⟩)
        | (go_at_call_of 38 (bits .xor .u16 a 16); refine (F1 _).mono ?_; rintro e w2 ⟨rfl, rfl⟩)
        | (go_at_call_of 38 (Value.int IntKind.u16 C); refine (F3 _).mono ?_; rintro e w2 ⟨rfl, rfl⟩))
      go_ret
      exact ⟨rfl, hb⟩

end Go.Proofs.Ytdbfdhfdfjdnoaa
