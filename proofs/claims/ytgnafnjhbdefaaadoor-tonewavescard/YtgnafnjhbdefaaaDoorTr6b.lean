/- The document's voice (kotatsuref11): what a pulse puts out. No law is claimed here. -/
import Derived.Test.YtgnafnjhbdefaaaDoorTr5b
import Derived.Test.YtgnafnjhbdefaaaDoorTr6
set_option linter.unusedSimpArgs false
set_option linter.unusedVariables false
namespace Go.Proofs.YtgnafnjhbdefaaaDoor
open Go.RowKit Go.Great

/-- what a pulse puts out -/
def poR (x : RT) : Int := ifB (decide (0 < x.len) && !mutR x && at0 dutL (x.r0 / 64 * 8 + x.stp) == 1) (volR x) 0

set_option maxRecDepth 100000 in
set_option maxHeartbeats 4000000 in
theorem rout_p0 (x : RT) (w : World) (hk : x.kind < 2) (b0 : 0 ≤ x.r0 ∧ x.r0 < 256) (b1 : 0 ≤ x.len ∧ x.len < 256) (b2 : 0 ≤ x.stp ∧ x.stp < 8) (h1 : x.len = 0) :
    Calls Tryd.prog 34 #[rtv x] w fun e w' => e = .returned (.int .i64 (poR x)) ∧ Below w.heap.size w w' := by
  obtain ⟨W, hW, hB, hL⟩ := box1 w x
  obtain ⟨R, hR⟩ : ∃ R, poR x = R := ⟨_, rfl⟩
  have HR : Hid (poR x = R) := hR
  rw [hR]
  clear hR
  rcases (by omega : x.r0 / 64 = 0 ∨ x.r0 / 64 = 1 ∨ x.r0 / 64 = 2 ∨ x.r0 / 64 = 3) with h2 | h2 | h2 | h2
  all_goals
    go_enter Tryd.func34, Tryd.ntmps34
    first | refine wp_region_lit ?_ | (refine wp_seq ?_; refine wp_region_lit ?_)
    refine wpList_boxTo rfl 29 _ rfl (some 1) rfl w.heap.size rfl x.cells.toArray rfl ?_
    rw [hW]
    obtain ⟨c0, c1, c2, c3, c4, c5, c6, c7, c8, c9, c10, c11, c12, c13, c14, c15, c16, fz⟩ := rT_cf W w.heap.size x hL
    have hBv : Below w.heap.size w (rT W w.heap.size x) := rowT_below hB _ (Nat.le_refl _) _ _
    have hvl : w.heap.size < (rT W w.heap.size x).heap.size := by unfold rT; rw [rowT_size]; omega
    generalize rT W w.heap.size x = v at *
    clear hW hB hL
    go_wp2
    all_goals
      go_ret
      refine ⟨congrArg (fun z => Ending.returned (Value.int .i64 z)) ?_, ?_⟩
      · rw [← HR.out]; simp [poR, ifB, h1]
      · exact hBv.alloc (Nat.le_of_lt hvl) _

set_option maxRecDepth 100000 in
set_option maxHeartbeats 4000000 in
theorem rout_pm (x : RT) (w : World) (hk : x.kind < 2) (b0 : 0 ≤ x.r0 ∧ x.r0 < 256) (b1 : 0 ≤ x.len ∧ x.len < 256) (b2 : 0 ≤ x.stp ∧ x.stp < 8) (b3 : 0 ≤ x.per ∧ x.per < 4096) (b4 : 0 ≤ x.r1 ∧ x.r1 < 256) (h1 : 0 < x.len) (hm : mutR x = true) :
    Calls Tryd.prog 34 #[rtv x] w fun e w' => e = .returned (.int .i64 (poR x)) ∧ Below w.heap.size w w' := by
  obtain ⟨W, hW, hB, hL⟩ := box1 w x
  have m1 := more_cell
  have m2 := more_frozen
  have m3 := more_setCell
  have m4 := more_lt
  have FM : ∀ (S : Int) (w : World), (0 ≤ S) → Calls Tryd.prog 46 #[rtv { x with stp := S }] w fun e w' => e = .returned (.bool (mutR x)) ∧ Below w.heap.size w w' := fun S w _ => rmute_any { x with stp := S } w b3 b4
  unfold rtv RT.cells at FM
  simp only at FM
  rw [hm] at FM
  obtain ⟨R, hR⟩ : ∃ R, poR x = R := ⟨_, rfl⟩
  have HR : Hid (poR x = R) := hR
  rw [hR]
  clear hR
  rcases (by omega : x.r0 / 64 = 0 ∨ x.r0 / 64 = 1 ∨ x.r0 / 64 = 2 ∨ x.r0 / 64 = 3) with h2 | h2 | h2 | h2
  all_goals
    go_enter Tryd.func34, Tryd.ntmps34
    first | refine wp_region_lit ?_ | (refine wp_seq ?_; refine wp_region_lit ?_)
    refine wpList_boxTo rfl 29 _ rfl (some 1) rfl w.heap.size rfl x.cells.toArray rfl ?_
    rw [hW]
    obtain ⟨c0, c1, c2, c3, c4, c5, c6, c7, c8, c9, c10, c11, c12, c13, c14, c15, c16, fz⟩ := rT_cf W w.heap.size x hL
    have hBv : Below w.heap.size w (rT W w.heap.size x) := rowT_below hB _ (Nat.le_refl _) _ _
    have hvl : w.heap.size < (rT W w.heap.size x).heap.size := by unfold rT; rw [rowT_size]; omega
    generalize rT W w.heap.size x = v at *
    clear hW hB hL
    go_wp2_with (go_at_call 46; refine (FM _ _ ?_).mono ?_; omega; rintro e w' ⟨rfl, b9⟩; obtain ⟨os, d, rfl⟩ := more_of b9)
    all_goals
      go_ret
      refine ⟨congrArg (fun z => Ending.returned (Value.int .i64 z)) ?_, ?_⟩
      · rw [← HR.out]; simp [poR, ifB, hm]
      · exact more_below (hBv.alloc (Nat.le_of_lt hvl) _) (by simp; omega) _ _

set_option maxRecDepth 100000 in
set_option maxHeartbeats 4000000 in
theorem rout_p1 (x : RT) (w : World) (hk : x.kind < 2) (b0 : 0 ≤ x.r0 ∧ x.r0 < 256) (b1 : 0 ≤ x.len ∧ x.len < 256) (b2 : 0 ≤ x.stp ∧ x.stp < 8) (b3 : 0 ≤ x.per ∧ x.per < 4096) (b4 : 0 ≤ x.r1 ∧ x.r1 < 256) (h1 : 0 < x.len) (hm : mutR x = false) (h2 : x.r0 / 64 = 0) :
    Calls Tryd.prog 34 #[rtv x] w fun e w' => e = .returned (.int .i64 (poR x)) ∧ Below w.heap.size w w' := by
  obtain ⟨W, hW, hB, hL⟩ := box1 w x
  have m1 := more_cell
  have m2 := more_frozen
  have m3 := more_setCell
  have m4 := more_lt
  have FM : ∀ (S : Int) (w : World), (0 ≤ S) → Calls Tryd.prog 46 #[rtv { x with stp := S }] w fun e w' => e = .returned (.bool (mutR x)) ∧ Below w.heap.size w w' := fun S w _ => rmute_any { x with stp := S } w b3 b4
  unfold rtv RT.cells at FM
  simp only at FM
  rw [hm] at FM
  obtain ⟨R, hR⟩ : ∃ R, poR x = R := ⟨_, rfl⟩
  have HR : Hid (poR x = R) := hR
  rw [hR]
  clear hR
  rcases (by omega : x.stp = 0 ∨ x.stp = 1 ∨ x.stp = 2 ∨ x.stp = 3 ∨ x.stp = 4 ∨ x.stp = 5 ∨ x.stp = 6 ∨ x.stp = 7) with h3 | h3 | h3 | h3 | h3 | h3 | h3 | h3
  all_goals
    go_enter Tryd.func34, Tryd.ntmps34
    first | refine wp_region_lit ?_ | (refine wp_seq ?_; refine wp_region_lit ?_)
    refine wpList_boxTo rfl 29 _ rfl (some 1) rfl w.heap.size rfl x.cells.toArray rfl ?_
    rw [hW]
    obtain ⟨c0, c1, c2, c3, c4, c5, c6, c7, c8, c9, c10, c11, c12, c13, c14, c15, c16, fz⟩ := rT_cf W w.heap.size x hL
    have hBv : Below w.heap.size w (rT W w.heap.size x) := rowT_below hB _ (Nat.le_refl _) _ _
    have hvl : w.heap.size < (rT W w.heap.size x).heap.size := by unfold rT; rw [rowT_size]; omega
    generalize rT W w.heap.size x = v at *
    clear hW hB hL
    go_wp2_with (go_at_call 46; refine (FM _ _ ?_).mono ?_; omega; rintro e w' ⟨rfl, b9⟩; obtain ⟨os, d, rfl⟩ := more_of b9)
    all_goals
      go_ret
      refine ⟨congrArg (fun z => Ending.returned (Value.int .i64 z)) ?_, ?_⟩
      · rw [← HR.out]; simp_all [poR, volR, ifB, at0, dutL]
      · exact more_below (hBv.alloc (Nat.le_of_lt hvl) _) (by simp; omega) _ _

set_option maxRecDepth 100000 in
set_option maxHeartbeats 4000000 in
theorem rout_p2 (x : RT) (w : World) (hk : x.kind < 2) (b0 : 0 ≤ x.r0 ∧ x.r0 < 256) (b1 : 0 ≤ x.len ∧ x.len < 256) (b2 : 0 ≤ x.stp ∧ x.stp < 8) (b3 : 0 ≤ x.per ∧ x.per < 4096) (b4 : 0 ≤ x.r1 ∧ x.r1 < 256) (h1 : 0 < x.len) (hm : mutR x = false) (h2 : x.r0 / 64 = 1) :
    Calls Tryd.prog 34 #[rtv x] w fun e w' => e = .returned (.int .i64 (poR x)) ∧ Below w.heap.size w w' := by
  obtain ⟨W, hW, hB, hL⟩ := box1 w x
  have m1 := more_cell
  have m2 := more_frozen
  have m3 := more_setCell
  have m4 := more_lt
  have FM : ∀ (S : Int) (w : World), (0 ≤ S) → Calls Tryd.prog 46 #[rtv { x with stp := S }] w fun e w' => e = .returned (.bool (mutR x)) ∧ Below w.heap.size w w' := fun S w _ => rmute_any { x with stp := S } w b3 b4
  unfold rtv RT.cells at FM
  simp only at FM
  rw [hm] at FM
  obtain ⟨R, hR⟩ : ∃ R, poR x = R := ⟨_, rfl⟩
  have HR : Hid (poR x = R) := hR
  rw [hR]
  clear hR
  rcases (by omega : x.stp = 0 ∨ x.stp = 1 ∨ x.stp = 2 ∨ x.stp = 3 ∨ x.stp = 4 ∨ x.stp = 5 ∨ x.stp = 6 ∨ x.stp = 7) with h3 | h3 | h3 | h3 | h3 | h3 | h3 | h3
  all_goals
    go_enter Tryd.func34, Tryd.ntmps34
    first | refine wp_region_lit ?_ | (refine wp_seq ?_; refine wp_region_lit ?_)
    refine wpList_boxTo rfl 29 _ rfl (some 1) rfl w.heap.size rfl x.cells.toArray rfl ?_
    rw [hW]
    obtain ⟨c0, c1, c2, c3, c4, c5, c6, c7, c8, c9, c10, c11, c12, c13, c14, c15, c16, fz⟩ := rT_cf W w.heap.size x hL
    have hBv : Below w.heap.size w (rT W w.heap.size x) := rowT_below hB _ (Nat.le_refl _) _ _
    have hvl : w.heap.size < (rT W w.heap.size x).heap.size := by unfold rT; rw [rowT_size]; omega
    generalize rT W w.heap.size x = v at *
    clear hW hB hL
    go_wp2_with (go_at_call 46; refine (FM _ _ ?_).mono ?_; omega; rintro e w' ⟨rfl, b9⟩; obtain ⟨os, d, rfl⟩ := more_of b9)
    all_goals
      go_ret
      refine ⟨congrArg (fun z => Ending.returned (Value.int .i64 z)) ?_, ?_⟩
      · rw [← HR.out]; simp_all [poR, volR, ifB, at0, dutL]
      · exact more_below (hBv.alloc (Nat.le_of_lt hvl) _) (by simp; omega) _ _

set_option maxRecDepth 100000 in
set_option maxHeartbeats 4000000 in
theorem rout_p3 (x : RT) (w : World) (hk : x.kind < 2) (b0 : 0 ≤ x.r0 ∧ x.r0 < 256) (b1 : 0 ≤ x.len ∧ x.len < 256) (b2 : 0 ≤ x.stp ∧ x.stp < 8) (b3 : 0 ≤ x.per ∧ x.per < 4096) (b4 : 0 ≤ x.r1 ∧ x.r1 < 256) (h1 : 0 < x.len) (hm : mutR x = false) (h2 : x.r0 / 64 = 2) :
    Calls Tryd.prog 34 #[rtv x] w fun e w' => e = .returned (.int .i64 (poR x)) ∧ Below w.heap.size w w' := by
  obtain ⟨W, hW, hB, hL⟩ := box1 w x
  have m1 := more_cell
  have m2 := more_frozen
  have m3 := more_setCell
  have m4 := more_lt
  have FM : ∀ (S : Int) (w : World), (0 ≤ S) → Calls Tryd.prog 46 #[rtv { x with stp := S }] w fun e w' => e = .returned (.bool (mutR x)) ∧ Below w.heap.size w w' := fun S w _ => rmute_any { x with stp := S } w b3 b4
  unfold rtv RT.cells at FM
  simp only at FM
  rw [hm] at FM
  obtain ⟨R, hR⟩ : ∃ R, poR x = R := ⟨_, rfl⟩
  have HR : Hid (poR x = R) := hR
  rw [hR]
  clear hR
  rcases (by omega : x.stp = 0 ∨ x.stp = 1 ∨ x.stp = 2 ∨ x.stp = 3 ∨ x.stp = 4 ∨ x.stp = 5 ∨ x.stp = 6 ∨ x.stp = 7) with h3 | h3 | h3 | h3 | h3 | h3 | h3 | h3
  all_goals
    go_enter Tryd.func34, Tryd.ntmps34
    first | refine wp_region_lit ?_ | (refine wp_seq ?_; refine wp_region_lit ?_)
    refine wpList_boxTo rfl 29 _ rfl (some 1) rfl w.heap.size rfl x.cells.toArray rfl ?_
    rw [hW]
    obtain ⟨c0, c1, c2, c3, c4, c5, c6, c7, c8, c9, c10, c11, c12, c13, c14, c15, c16, fz⟩ := rT_cf W w.heap.size x hL
    have hBv : Below w.heap.size w (rT W w.heap.size x) := rowT_below hB _ (Nat.le_refl _) _ _
    have hvl : w.heap.size < (rT W w.heap.size x).heap.size := by unfold rT; rw [rowT_size]; omega
    generalize rT W w.heap.size x = v at *
    clear hW hB hL
    go_wp2_with (go_at_call 46; refine (FM _ _ ?_).mono ?_; omega; rintro e w' ⟨rfl, b9⟩; obtain ⟨os, d, rfl⟩ := more_of b9)
    all_goals
      go_ret
      refine ⟨congrArg (fun z => Ending.returned (Value.int .i64 z)) ?_, ?_⟩
      · rw [← HR.out]; simp_all [poR, volR, ifB, at0, dutL]
      · exact more_below (hBv.alloc (Nat.le_of_lt hvl) _) (by simp; omega) _ _

set_option maxRecDepth 100000 in
set_option maxHeartbeats 4000000 in
theorem rout_p4 (x : RT) (w : World) (hk : x.kind < 2) (b0 : 0 ≤ x.r0 ∧ x.r0 < 256) (b1 : 0 ≤ x.len ∧ x.len < 256) (b2 : 0 ≤ x.stp ∧ x.stp < 8) (b3 : 0 ≤ x.per ∧ x.per < 4096) (b4 : 0 ≤ x.r1 ∧ x.r1 < 256) (h1 : 0 < x.len) (hm : mutR x = false) (h2 : x.r0 / 64 = 3) :
    Calls Tryd.prog 34 #[rtv x] w fun e w' => e = .returned (.int .i64 (poR x)) ∧ Below w.heap.size w w' := by
  obtain ⟨W, hW, hB, hL⟩ := box1 w x
  have m1 := more_cell
  have m2 := more_frozen
  have m3 := more_setCell
  have m4 := more_lt
  have FM : ∀ (S : Int) (w : World), (0 ≤ S) → Calls Tryd.prog 46 #[rtv { x with stp := S }] w fun e w' => e = .returned (.bool (mutR x)) ∧ Below w.heap.size w w' := fun S w _ => rmute_any { x with stp := S } w b3 b4
  unfold rtv RT.cells at FM
  simp only at FM
  rw [hm] at FM
  obtain ⟨R, hR⟩ : ∃ R, poR x = R := ⟨_, rfl⟩
  have HR : Hid (poR x = R) := hR
  rw [hR]
  clear hR
  rcases (by omega : x.stp = 0 ∨ x.stp = 1 ∨ x.stp = 2 ∨ x.stp = 3 ∨ x.stp = 4 ∨ x.stp = 5 ∨ x.stp = 6 ∨ x.stp = 7) with h3 | h3 | h3 | h3 | h3 | h3 | h3 | h3
  all_goals
    go_enter Tryd.func34, Tryd.ntmps34
    first | refine wp_region_lit ?_ | (refine wp_seq ?_; refine wp_region_lit ?_)
    refine wpList_boxTo rfl 29 _ rfl (some 1) rfl w.heap.size rfl x.cells.toArray rfl ?_
    rw [hW]
    obtain ⟨c0, c1, c2, c3, c4, c5, c6, c7, c8, c9, c10, c11, c12, c13, c14, c15, c16, fz⟩ := rT_cf W w.heap.size x hL
    have hBv : Below w.heap.size w (rT W w.heap.size x) := rowT_below hB _ (Nat.le_refl _) _ _
    have hvl : w.heap.size < (rT W w.heap.size x).heap.size := by unfold rT; rw [rowT_size]; omega
    generalize rT W w.heap.size x = v at *
    clear hW hB hL
    go_wp2_with (go_at_call 46; refine (FM _ _ ?_).mono ?_; omega; rintro e w' ⟨rfl, b9⟩; obtain ⟨os, d, rfl⟩ := more_of b9)
    all_goals
      go_ret
      refine ⟨congrArg (fun z => Ending.returned (Value.int .i64 z)) ?_, ?_⟩
      · rw [← HR.out]; simp_all [poR, volR, ifB, at0, dutL]
      · exact more_below (hBv.alloc (Nat.le_of_lt hvl) _) (by simp; omega) _ _

theorem rout_p (x : RT) (w : World) (hk : x.kind < 2) (b0 : 0 ≤ x.r0 ∧ x.r0 < 256) (b1 : 0 ≤ x.len ∧ x.len < 256) (b2 : 0 ≤ x.stp ∧ x.stp < 8) (b3 : 0 ≤ x.per ∧ x.per < 4096) (b4 : 0 ≤ x.r1 ∧ x.r1 < 256) :
    Calls Tryd.prog 34 #[rtv x] w fun e w' => e = .returned (.int .i64 (poR x)) ∧ Below w.heap.size w w' := by
  rcases (by omega : x.len = 0 ∨ 0 < x.len) with h1 | h1
  · exact rout_p0 x w hk b0 b1 b2 h1
  · cases hm : mutR x with
    | true => exact rout_pm x w hk b0 b1 b2 b3 b4 h1 hm
    | false =>
      rcases (by omega : x.r0 / 64 = 0 ∨ x.r0 / 64 = 1 ∨ x.r0 / 64 = 2 ∨ x.r0 / 64 = 3) with h2 | h2 | h2 | h2
      · exact rout_p1 x w hk b0 b1 b2 b3 b4 h1 hm h2
      · exact rout_p2 x w hk b0 b1 b2 b3 b4 h1 hm h2
      · exact rout_p3 x w hk b0 b1 b2 b3 b4 h1 hm h2
      · exact rout_p4 x w hk b0 b1 b2 b3 b4 h1 hm h2

end Go.Proofs.YtgnafnjhbdefaaaDoor
