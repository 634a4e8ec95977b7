/- The document's voice (kotatsuref11): Half of a pulse. No law is claimed here. -/
import Derived.Test.YtgnafnjhbdefaaaDoorTr4
import Derived.Test.YtgnafnjhbdefaaaDoorTr3b
set_option linter.unusedSimpArgs false
set_option linter.unusedVariables false
namespace Go.Proofs.YtgnafnjhbdefaaaDoor
open Go.RowKit Go.Great

def mutR (x : RT) : Bool := decide (x.per < 8) || decide (2047 < tgR x)

set_option maxRecDepth 100000 in
set_option maxHeartbeats 2000000 in
theorem rhalf_pn (x : RT) (w : World) (hk : x.kind < 2) (b0 : 0 ≤ x.r0 ∧ x.r0 < 256) (b1 : 0 ≤ x.len ∧ x.len < 256) (b4 : 0 ≤ x.r1 ∧ x.r1 < 256) (b5 : 0 < x.swp ∧ x.swp < 8) :
    Calls Tryd.prog 33 #[rtv x] w fun e w' => e = .returned (rtv { x with len := ifB (decide (x.r0 / 32 % 2 = 0)) (max (x.len - 1) 0) x.len, swp := ifB x.swept (x.r1 / 16 % 8) (x.swp - 1), swept := false }) ∧ Below w.heap.size w w' := by
  obtain ⟨W, hW, hB, hL, hZ⟩ := box2 w x
  rcases (by omega : x.r0 / 32 % 2 = 0 ∨ x.r0 / 32 % 2 = 1) with h1 | h1 <;> rcases Bool.eq_false_or_eq_true x.swept with h2 | h2
  all_goals
    go_enter Tryd.func33, Tryd.ntmps33
    first | refine wp_region_lit ?_ | (refine wp_seq ?_; refine wp_region_lit ?_)
    refine wpList_boxTo rfl 29 _ rfl (some 1) rfl w.heap.size rfl x.cells.toArray rfl ?_
    refine wpList_allocTo rfl (some 2) rfl (.pointer (some ⟨(w.alloc (.cells x.cells.toArray 29 (0, 0))).heap.size, 0, none⟩)) (.cells rtZ 29 (0, 0)) (by kernel_rfl) ?_
    rw [show (w.alloc (.cells x.cells.toArray 29 (0, 0))).heap.size = w.heap.size + 1 by simp, hW]
    obtain ⟨c0, c1, c2, c3, c4, c5, c6, c7, c8, c9, c10, c11, c12, c13, c14, c15, c16, fz⟩ := rT_cf W w.heap.size x (by omega)
    have hvl : w.heap.size < (rT W w.heap.size x).heap.size := by unfold rT; rw [rowT_size]; omega
    generalize hv : rT W w.heap.size x = v at *
    go_upto_region 15 with (fail)
    subst hv
    (repeat (first | rw [rt0] | rw [rt1] | rw [rt2] | rw [rt3] | rw [rt4] | rw [rt5] | rw [rt6] | rw [rt7] | rw [rt8] | rw [rt9] | rw [rt10] | rw [rt11] | rw [rt12] | rw [rt13] | rw [rt14] | rw [rt15]))
    have hB2 := hB
    have hL2 := hL
    have hZ2 := hZ
    unfold rT
    first | refine wp_region_lit ?_ | (refine wp_seq ?_; refine wp_region_lit ?_)
    refine wpList_load_row rfl 29 _ rfl w.heap.size rfl 29 _ (0, 0) _ (rowT_at W w.heap.size 29 _ (by omega)) Tryd.underlying29 rfl (by kernel_rfl) ?_
    refine wpList_store_rowTo rfl 29 _ _ rfl rfl (w.heap.size + 1) _ rfl rfl 29 rtZ ((rowT_far W w.heap.size 29 _ _ (by omega)).trans hZ2) (by kernel_rfl) rfl (rcells_one _) ?_
    rw [setRow_rowT _ _ _ 29 rtZ ((rowT_far W w.heap.size 29 _ _ (by omega)).trans hZ2)]
    go_wp2
    refine bodyPost_ret (results_cell_row rfl _ _ (w.heap.size + 1) 29 _ (0, 0) _ rfl (rowT_at _ (w.heap.size + 1) 29 _ (by rw [rowT_size]; exact hL2)) Tryd.underlying29 rfl (by kernel_rfl)) rfl ⟨?_, ?_⟩
    · exact congrArg (fun z => Ending.returned (rtv z)) (by apply rt_ext <;> first | rfl | (simp [h1, h2, ifB]; done) | (simp [h1, h2, ifB]; omega))
    · exact rowT_below (rowT_below hB2 _ (Nat.le_refl _) _ _) _ (by omega) _ _

set_option maxRecDepth 100000 in
set_option maxHeartbeats 2000000 in
theorem rhalf_pd (x : RT) (w : World) (hk : x.kind < 2) (b0 : 0 ≤ x.r0 ∧ x.r0 < 256) (b1 : 0 ≤ x.len ∧ x.len < 256) (b3 : 0 ≤ x.per ∧ x.per < 4096) (b4 : 0 ≤ x.r1 ∧ x.r1 < 256) (b5 : x.swp = 0) (hc : x.r1 < 128 ∨ x.r1 % 8 = 0) :
    Calls Tryd.prog 33 #[rtv x] w fun e w' => e = .returned (rtv { x with len := ifB (decide (x.r0 / 32 % 2 = 0)) (max (x.len - 1) 0) x.len, swp := x.r1 / 16 % 8, swept := false }) ∧ Below w.heap.size w w' := by
  obtain ⟨W, hW, hB, hL, hZ⟩ := box2 w x
  rcases (by omega : x.r0 / 32 % 2 = 0 ∨ x.r0 / 32 % 2 = 1) with h1 | h1 <;> rcases (by omega : x.r1 < 128 ∨ (128 ≤ x.r1 ∧ x.r1 % 8 = 0)) with h2 | ⟨h2, h3⟩
  all_goals
    go_enter Tryd.func33, Tryd.ntmps33
    first | refine wp_region_lit ?_ | (refine wp_seq ?_; refine wp_region_lit ?_)
    refine wpList_boxTo rfl 29 _ rfl (some 1) rfl w.heap.size rfl x.cells.toArray rfl ?_
    refine wpList_allocTo rfl (some 2) rfl (.pointer (some ⟨(w.alloc (.cells x.cells.toArray 29 (0, 0))).heap.size, 0, none⟩)) (.cells rtZ 29 (0, 0)) (by kernel_rfl) ?_
    rw [show (w.alloc (.cells x.cells.toArray 29 (0, 0))).heap.size = w.heap.size + 1 by simp, hW]
    obtain ⟨c0, c1, c2, c3, c4, c5, c6, c7, c8, c9, c10, c11, c12, c13, c14, c15, c16, fz⟩ := rT_cf W w.heap.size x (by omega)
    have hvl : w.heap.size < (rT W w.heap.size x).heap.size := by unfold rT; rw [rowT_size]; omega
    generalize hv : rT W w.heap.size x = v at *
    go_upto_region 15 with (fail)
    subst hv
    (repeat (first | rw [rt0] | rw [rt1] | rw [rt2] | rw [rt3] | rw [rt4] | rw [rt5] | rw [rt6] | rw [rt7] | rw [rt8] | rw [rt9] | rw [rt10] | rw [rt11] | rw [rt12] | rw [rt13] | rw [rt14] | rw [rt15]))
    have hB2 := hB
    have hL2 := hL
    have hZ2 := hZ
    unfold rT
    first | refine wp_region_lit ?_ | (refine wp_seq ?_; refine wp_region_lit ?_)
    refine wpList_load_row rfl 29 _ rfl w.heap.size rfl 29 _ (0, 0) _ (rowT_at W w.heap.size 29 _ (by omega)) Tryd.underlying29 rfl (by kernel_rfl) ?_
    refine wpList_store_rowTo rfl 29 _ _ rfl rfl (w.heap.size + 1) _ rfl rfl 29 rtZ ((rowT_far W w.heap.size 29 _ _ (by omega)).trans hZ2) (by kernel_rfl) rfl (rcells_one _) ?_
    rw [setRow_rowT _ _ _ 29 rtZ ((rowT_far W w.heap.size 29 _ _ (by omega)).trans hZ2)]
    go_wp2
    refine bodyPost_ret (results_cell_row rfl _ _ (w.heap.size + 1) 29 _ (0, 0) _ rfl (rowT_at _ (w.heap.size + 1) 29 _ (by rw [rowT_size]; exact hL2)) Tryd.underlying29 rfl (by kernel_rfl)) rfl ⟨?_, ?_⟩
    · exact congrArg (fun z => Ending.returned (rtv z)) (by apply rt_ext <;> first | rfl | (simp [h1, ifB]; done) | (simp [h1, ifB]; omega))
    · exact rowT_below (rowT_below hB2 _ (Nat.le_refl _) _ _) _ (by omega) _ _

end Go.Proofs.YtgnafnjhbdefaaaDoor
