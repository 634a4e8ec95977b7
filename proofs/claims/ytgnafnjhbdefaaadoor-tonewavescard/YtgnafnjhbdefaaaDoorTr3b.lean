/- The document's voice (kotatsuref11): target, mute. No law is claimed here. -/
import Derived.Test.YtgnafnjhbdefaaaDoorTr3
set_option linter.unusedSimpArgs false
set_option linter.unusedVariables false
namespace Go.Proofs.YtgnafnjhbdefaaaDoor
open Go.RowKit Go.Great

/-- halved k times -/
def hlv (p : Int) : Nat → Int
  | 0 => p
  | k + 1 => hlv p k / 2
theorem hlv_is (p : Int) : ∀ k, hlv p k = p / 2 ^ k := by
  intro k
  induction k with
  | zero => unfold hlv; simp
  | succ k ih =>
    unfold hlv
    rw [ih, Int.ediv_ediv_of_nonneg (by exact Int.pow_nonneg (by decide)), Int.pow_succ]
theorem hlv_b (p : Int) (h : 0 ≤ p ∧ p < 4096) : ∀ k, 0 ≤ hlv p k ∧ hlv p k ≤ p := by
  intro k
  induction k with
  | zero => unfold hlv; omega
  | succ k ih => unfold hlv; omega
/-- where the sweep leads -/
def tgR (x : RT) : Int :=
  if x.r1 / 8 % 2 = 0 then x.per + x.per / 2 ^ (x.r1 % 8).toNat else max (x.per - (x.per / 2 ^ (x.r1 % 8).toNat + (if x.kind = 0 then 1 else 0))) 0

set_option maxRecDepth 100000 in
set_option maxHeartbeats 2000000 in
theorem rtarget_any (x : RT) (w : World) (b0 : 0 ≤ x.per ∧ x.per < 4096) (b1 : 0 ≤ x.r1 ∧ x.r1 < 256) :
    Calls Tryd.prog 47 #[rtv x] w fun e w' => e = .returned (.int .i64 (tgR x)) ∧ Below w.heap.size w w' := by
  obtain ⟨W, hW, hB, hL⟩ := box1 w x
  have e8 : x.r1.tmod 8 = x.r1 % 8 := Int.tmod_eq_emod_of_nonneg b1.1
  obtain ⟨m, hm⟩ : ∃ m : Nat, x.r1 % 8 = m := ⟨(x.r1 % 8).toNat, by omega⟩
  have hm8 : m < 8 := by omega
  have hT : tgR x = if x.r1 / 8 % 2 = 0 then x.per + hlv x.per m else max (x.per - (hlv x.per m + (if x.kind = 0 then 1 else 0))) 0 := by
    unfold tgR
    rw [hlv_is, hm, Int.toNat_natCast]
  have hbm := hlv_b x.per b0 m
  rcases (by omega : x.r1 / 8 % 2 = 0 ∨ x.r1 / 8 % 2 = 1) with h1 | h1 <;> rcases (by by_cases e : x.kind = 0; exact .inl e; exact .inr e : x.kind = 0 ∨ ¬ x.kind = 0) with h2 | h2
  all_goals
    simp only [h1, h2, if_true, if_false, show ¬ ((1 : Int) = 0) by decide, Int.add_zero] at hT
    rw [hT]
    clear hT
    go_enter Tryd.func47, Tryd.ntmps47
    first | refine wp_region_lit ?_ | (refine wp_seq ?_; refine wp_region_lit ?_)
    refine wpList_boxTo rfl 29 _ rfl (some 1) rfl w.heap.size rfl x.cells.toArray rfl ?_
    rw [hW]
    obtain ⟨c0, c1, c2, c3, c4, c5, c6, c7, c8, c9, c10, c11, c12, c13, c14, c15, c16, fz⟩ := rT_cf W w.heap.size x hL
    have hBv : Below w.heap.size w (rT W w.heap.size x) := rowT_below hB _ (Nat.le_refl _) _ _
    generalize rT W w.heap.size x = v at *
    clear hW hB hL
    go_upto_region 3 with (fail)
    go_loopw [3, 4] (fun nv i wr => ∃ k : Nat, k ≤ m ∧ i = .int .i64 k ∧ nv = .int .i64 (hlv x.per k) ∧ wr = v) (fun _ i _ => m - (intOf i).toNat)
    case atStart => exact ⟨0, Nat.zero_le _, rfl, rfl, rfl⟩
    case round =>
      obtain ⟨k, hk, rfl, rfl, rfl⟩ := hrel
      have hb := hlv_b x.per b0 k
      by_cases h : k < m
      · have t1 : (k : Int) < m := by omega
        have hn : hlv x.per (k + 1) = hlv x.per k / 2 := rfl
        clear hbm
        generalize hlv x.per k = p at *
        go_wp2
        go_roundw
        case rel => exact ⟨k + 1, by omega, by go_num, by rw [hn], by first | rfl | trivial⟩
        case measure => simp [intOf]; omega
      · have hkm : k = m := by omega
        subst hkm
        generalize hp : hlv x.per k = p at *
        have hN : ¬ ((k : Int) < (k : Int)) := by omega
        have e9 : IntKind.i64.wrap (x.per + p) = x.per + p := IntWalk.i64_in _ ⟨by omega, by omega⟩
        go_wp2
        go_ret
        subst hp
        exact ⟨rfl, hBv⟩

set_option maxRecDepth 100000 in
set_option maxHeartbeats 1000000 in
theorem rmute_any (x : RT) (w : World) (b0 : 0 ≤ x.per ∧ x.per < 4096) (b1 : 0 ≤ x.r1 ∧ x.r1 < 256) :
    Calls Tryd.prog 46 #[rtv x] w fun e w' => e = .returned (.bool (decide (x.per < 8) || decide (2047 < tgR x))) ∧ Below w.heap.size w w' := by
  obtain ⟨W, hW, hB, hL⟩ := box1 w x
  have FT := fun w => rtarget_any x w b0 b1
  generalize tgR x = T at *
  rcases (by omega : x.per < 8 ∨ ¬ x.per < 8) with h1 | h1
  all_goals
    go_enter Tryd.func46, Tryd.ntmps46
    first | refine wp_region_lit ?_ | (refine wp_seq ?_; refine wp_region_lit ?_)
    refine wpList_boxTo rfl 29 _ rfl (some 1) rfl w.heap.size rfl x.cells.toArray rfl ?_
    rw [hW]
    obtain ⟨c0, c1, c2, c3, c4, c5, c6, c7, c8, c9, c10, c11, c12, c13, c14, c15, c16, fz⟩ := rT_cf W w.heap.size x hL
    have hBv : Below w.heap.size w (rT W w.heap.size x) := rowT_below hB _ (Nat.le_refl _) _ _
    have hvl : w.heap.size ≤ (rT W w.heap.size x).heap.size := hBv.size
    unfold rtv RT.cells at FT
    generalize rT W w.heap.size x = v at *
    clear hW hB hL
    go_wp2_with (go_at_call 47; refine (FT _).mono ?_; rintro e w' ⟨rfl, b2⟩)
    go_ret
    refine ⟨congrArg (fun b => Ending.returned (Value.bool b)) ?_, ?_⟩
    · first
        | (show true = _; rw [show decide (x.per < 8) = true from decide_eq_true h1]; rfl)
        | (show decide (2047 < T) = _; rw [show decide (x.per < 8) = false from decide_eq_false (by omega)]; rfl)
    · first
        | exact hBv
        | exact hBv.trans (b2.mono hvl)
end Go.Proofs.YtgnafnjhbdefaaaDoor
