/- The document's voice (kotatsuref11): Out. No law is claimed here. -/
import Derived.Test.YtgnafnjhbdefaaaDoorTr4
import Derived.Test.YtgnafnjhbdefaaaDoorTr3b
set_option linter.unusedSimpArgs false
set_option linter.unusedVariables false
namespace Go.Proofs.YtgnafnjhbdefaaaDoor
open Go.RowKit Go.Great

def volR (x : RT) : Int := ifB (decide (x.r0 / 16 % 2 = 1)) (x.r0 % 16) x.lev

set_option maxRecDepth 100000 in
set_option maxHeartbeats 1000000 in
theorem rout_2 (x : RT) (w : World) (hk : x.kind = 2) (b1 : 0 ≤ x.stp ∧ x.stp < 32) :
    Calls Tryd.prog 34 #[rtv x] w fun e w' => e = .returned (.int .i64 (ifB (decide (x.stp < 16)) (15 - x.stp) (x.stp - 16))) ∧ Below w.heap.size w w' := by
  obtain ⟨W, hW, hB, hL⟩ := box1 w x
  obtain ⟨R, hR⟩ : ∃ R, ifB (decide (x.stp < 16)) (15 - x.stp) (x.stp - 16) = R := ⟨_, rfl⟩
  have HR : Hid (ifB (decide (x.stp < 16)) (15 - x.stp) (x.stp - 16) = R) := hR
  rw [hR]
  clear hR
  rcases (by omega : x.stp < 16 ∨ 16 ≤ x.stp) with h1 | h1
  all_goals
    go_enter Tryd.func34, Tryd.ntmps34
    first | refine wp_region_lit ?_ | (refine wp_seq ?_; refine wp_region_lit ?_)
    refine wpList_boxTo rfl 29 _ rfl (some 1) rfl w.heap.size rfl x.cells.toArray rfl ?_
    rw [hW]
    obtain ⟨c0, c1, c2, c3, c4, c5, c6, c7, c8, c9, c10, c11, c12, c13, c14, c15, c16, fz⟩ := rT_cf W w.heap.size x hL
    have hBv : Below w.heap.size w (rT W w.heap.size x) := rowT_below hB _ (Nat.le_refl _) _ _
    generalize rT W w.heap.size x = v at *
    clear hW hB hL
    go_wp2
    go_ret
    refine ⟨congrArg (fun z => Ending.returned (Value.int .i64 z)) ?_, hBv⟩
    rw [← HR.out]
    unfold ifB
    split <;> simp_all <;> omega

/-- the first bit of the row -/
def Row0 (w : World) (x : RT) (b : Int) : Prop := ∃ g off, x.row = some ⟨g, off, none⟩ ∧ g < w.heap.size ∧ 0 < x.nr ∧ w.cell? ⟨g, off, none⟩ = some (.int .i64 b)

set_option maxRecDepth 100000 in
set_option maxHeartbeats 1000000 in
theorem rout_3 (x : RT) (b : Int) (w : World) (hk : x.kind = 3) (b0 : 0 ≤ x.r0 ∧ x.r0 < 256) (b1 : 0 ≤ x.len ∧ x.len < 256) (hr : Row0 w x b) (hb : b = 0 ∨ b = 1) :
    Calls Tryd.prog 34 #[rtv x] w fun e w' => e = .returned (.int .i64 (ifB (decide (0 < x.len) && b == 0) (volR x) 0)) ∧ Below w.heap.size w w' := by
  obtain ⟨W, hW, hB, hL⟩ := box1 w x
  obtain ⟨g, off, hrow, hg, hn, hc⟩ := hr
  have hc' : (rT W w.heap.size x).cell? ⟨g, off, none⟩ = some (.int .i64 b) := ((rowT_below hB w.heap.size (Nat.le_refl _) 29 x.cells).cell (p := ⟨g, off, none⟩) hg).trans hc
  have hgv : g < (rT W w.heap.size x).heap.size := by have := (rowT_below hB w.heap.size (Nat.le_refl _) 29 x.cells).size; unfold rT; omega
  obtain ⟨R, hR⟩ : ∃ R, ifB (decide (0 < x.len) && b == 0) (volR x) 0 = R := ⟨_, rfl⟩
  have HR : Hid (ifB (decide (0 < x.len) && b == 0) (volR x) 0 = R) := hR
  rw [hR]
  clear hR
  rcases (by omega : x.len = 0 ∨ 0 < x.len) with h1 | h1 <;> rcases hb with h2 | h2 <;> rcases (by omega : x.r0 / 16 % 2 = 0 ∨ x.r0 / 16 % 2 = 1) with h3 | h3
  all_goals
    go_enter Tryd.func34, Tryd.ntmps34
    first | refine wp_region_lit ?_ | (refine wp_seq ?_; refine wp_region_lit ?_)
    refine wpList_boxTo rfl 29 _ rfl (some 1) rfl w.heap.size rfl x.cells.toArray rfl ?_
    rw [hW]
    obtain ⟨c0, c1, c2, c3, c4, c5, c6, c7, c8, c9, c10, c11, c12, c13, c14, c15, c16, fz⟩ := rT_cf W w.heap.size x hL
    have hBv : Below w.heap.size w (rT W w.heap.size x) := rowT_below hB _ (Nat.le_refl _) _ _
    rw [hrow] at c16
    have hn2 : (0 : Int) < (x.nr : Int) := by omega
    have hn3 := hn
    generalize rT W w.heap.size x = v at *
    clear hW hB hL
    go_wp2
    go_ret
    refine ⟨congrArg (fun z => Ending.returned (Value.int .i64 z)) ?_, hBv⟩
    rw [← HR.out]
    simp [ifB, volR, h1, h2, h3]

end Go.Proofs.YtgnafnjhbdefaaaDoor
