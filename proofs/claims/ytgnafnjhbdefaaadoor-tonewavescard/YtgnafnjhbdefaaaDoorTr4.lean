/- The document's voice (kotatsuref11): Put. No law is claimed here. -/
import Derived.Test.YtgnafnjhbdefaaaDoorTrLen
set_option linter.unusedSimpArgs false
set_option linter.unusedVariables false
namespace Go.Proofs.YtgnafnjhbdefaaaDoor
open Go.RowKit Go.Great

def ifB (c : Bool) (a b : Int) : Int := if c then a else b
theorem rT_more (w : World) (n : Nat) (x : RT) (os : List Obj) (d : Nat) (h : n < w.heap.size) : more (rT w n x) os d = rT (more w os d) n x := rowT_more w n _ _ os d h
theorem more_heap (w : World) (os : List Obj) (d k : Nat) (h : k < w.heap.size) : (more w os d).heap[k]? = w.heap[k]? := by
  show (os.foldl World.alloc w).heap[k]? = _
  rw [fold_heap, Array.getElem?_append_left h]

set_option maxRecDepth 100000 in
set_option maxHeartbeats 2000000 in
theorem rput_x (x : RT) (r b : Int) (w : World) (hr : 3 < r) :
    Calls Tryd.prog 19 #[rtv x, .int .i64 r, .int .i64 b] w fun e w' => e = .returned (rtv x) ∧ Below w.heap.size w w' := by
  obtain ⟨W, hW, hB, hL, hZ⟩ := box2 w x
  go_enter Tryd.func19, Tryd.ntmps19
  first | refine wp_region_lit ?_ | (refine wp_seq ?_; refine wp_region_lit ?_)
  refine wpList_boxTo rfl 29 _ rfl (some 3) rfl w.heap.size rfl x.cells.toArray rfl ?_
  refine wpList_allocTo rfl (some 6) rfl (.pointer (some ⟨(w.alloc (.cells x.cells.toArray 29 (0, 0))).heap.size, 0, none⟩)) (.cells rtZ 29 (0, 0)) (by kernel_rfl) ?_
  rw [show (w.alloc (.cells x.cells.toArray 29 (0, 0))).heap.size = w.heap.size + 1 by simp, hW]
  obtain ⟨c0, c1, c2, c3, c4, c5, c6, c7, c8, c9, c10, c11, c12, c13, c14, c15, c16, fz⟩ := rT_cf W w.heap.size x (by omega)
  have hvl : w.heap.size < (rT W w.heap.size x).heap.size := by unfold rT; rw [rowT_size]; omega
  generalize hv : rT W w.heap.size x = v at *
  go_upto_region 2 with (fail)
  subst hv
  (repeat (first | rw [rt0] | rw [rt1] | rw [rt2] | rw [rt3] | rw [rt4] | rw [rt5] | rw [rt6] | rw [rt7] | rw [rt8] | rw [rt9] | rw [rt10] | rw [rt11] | rw [rt12] | rw [rt13] | rw [rt14] | rw [rt15]))
  have hB2 := hB
  have hL2 := hL
  have hZ2 := hZ
  unfold rT
  first | refine wp_region_lit ?_ | (refine wp_seq ?_; refine wp_region_lit ?_)
  refine wpList_load_row rfl 29 _ rfl w.heap.size rfl 29 _ (0, 0) _ (rowT_at W w.heap.size 29 _ (by omega)) Tryd.underlying29 rfl (by kernel_rfl) ?_
  refine wpList_store_rowTo rfl 29 _ _ rfl rfl (w.heap.size + 1) _ rfl rfl 29 rtZ ((rowT_far W w.heap.size 29 _ _ (by omega)).trans hZ2) (by kernel_rfl) rfl (rcells_one _) ?_
  rw [setRow_rowT _ _ _ 29 rtZ ((rowT_far W w.heap.size 29 _ _ (by omega)).trans hZ2)]
  go_wp2
  refine bodyPost_ret (results_cell_row rfl _ _ (w.heap.size + 1) 29 _ (0, 0) _ rfl (rowT_at _ (w.heap.size + 1) 29 _ (by rw [rowT_size]; exact hL2)) Tryd.underlying29 rfl (by kernel_rfl)) rfl ⟨?_, ?_⟩
  · exact congrArg (fun z => Ending.returned (rtv z)) (by apply rt_ext <;> first | rfl | (simp; done) | (simp; omega))
  · exact rowT_below (rowT_below hB2 _ (Nat.le_refl _) _ _) _ (by omega) _ _

set_option maxRecDepth 100000 in
set_option maxHeartbeats 2000000 in
theorem rput_0 (x : RT) (b : Int) (w : World) (b0 : 0 ≤ b ∧ b < 256) (hk : x.kind ≠ 3) :
    Calls Tryd.prog 19 #[rtv x, .int .i64 0, .int .i64 b] w fun e w' => e = .returned (rtv { x with r0 := b }) ∧ Below w.heap.size w w' := by
  obtain ⟨W, hW, hB, hL, hZ⟩ := box2 w x
  go_enter Tryd.func19, Tryd.ntmps19
  first | refine wp_region_lit ?_ | (refine wp_seq ?_; refine wp_region_lit ?_)
  refine wpList_boxTo rfl 29 _ rfl (some 3) rfl w.heap.size rfl x.cells.toArray rfl ?_
  refine wpList_allocTo rfl (some 6) rfl (.pointer (some ⟨(w.alloc (.cells x.cells.toArray 29 (0, 0))).heap.size, 0, none⟩)) (.cells rtZ 29 (0, 0)) (by kernel_rfl) ?_
  rw [show (w.alloc (.cells x.cells.toArray 29 (0, 0))).heap.size = w.heap.size + 1 by simp, hW]
  obtain ⟨c0, c1, c2, c3, c4, c5, c6, c7, c8, c9, c10, c11, c12, c13, c14, c15, c16, fz⟩ := rT_cf W w.heap.size x (by omega)
  have hvl : w.heap.size < (rT W w.heap.size x).heap.size := by unfold rT; rw [rowT_size]; omega
  generalize hv : rT W w.heap.size x = v at *
  go_upto_region 19 with (fail)
  subst hv
  (repeat (first | rw [rt0] | rw [rt1] | rw [rt2] | rw [rt3] | rw [rt4] | rw [rt5] | rw [rt6] | rw [rt7] | rw [rt8] | rw [rt9] | rw [rt10] | rw [rt11] | rw [rt12] | rw [rt13] | rw [rt14] | rw [rt15]))
  have hB2 := hB
  have hL2 := hL
  have hZ2 := hZ
  unfold rT
  first | refine wp_region_lit ?_ | (refine wp_seq ?_; refine wp_region_lit ?_)
  refine wpList_load_row rfl 29 _ rfl w.heap.size rfl 29 _ (0, 0) _ (rowT_at W w.heap.size 29 _ (by omega)) Tryd.underlying29 rfl (by kernel_rfl) ?_
  refine wpList_store_rowTo rfl 29 _ _ rfl rfl (w.heap.size + 1) _ rfl rfl 29 rtZ ((rowT_far W w.heap.size 29 _ _ (by omega)).trans hZ2) (by kernel_rfl) rfl (rcells_one _) ?_
  rw [setRow_rowT _ _ _ 29 rtZ ((rowT_far W w.heap.size 29 _ _ (by omega)).trans hZ2)]
  go_wp2
  refine bodyPost_ret (results_cell_row rfl _ _ (w.heap.size + 1) 29 _ (0, 0) _ rfl (rowT_at _ (w.heap.size + 1) 29 _ (by rw [rowT_size]; exact hL2)) Tryd.underlying29 rfl (by kernel_rfl)) rfl ⟨?_, ?_⟩
  · exact congrArg (fun z => Ending.returned (rtv z)) (by apply rt_ext <;> first | rfl | (simp; done) | (simp; omega))
  · exact rowT_below (rowT_below hB2 _ (Nat.le_refl _) _ _) _ (by omega) _ _

set_option maxRecDepth 100000 in
set_option maxHeartbeats 2000000 in
theorem rput_1 (x : RT) (b : Int) (w : World) (b0 : 0 ≤ b ∧ b < 256) (hk : x.kind ≠ 3) :
    Calls Tryd.prog 19 #[rtv x, .int .i64 1, .int .i64 b] w fun e w' => e = .returned (rtv { x with r1 := b, swept := true }) ∧ Below w.heap.size w w' := by
  obtain ⟨W, hW, hB, hL, hZ⟩ := box2 w x
  go_enter Tryd.func19, Tryd.ntmps19
  first | refine wp_region_lit ?_ | (refine wp_seq ?_; refine wp_region_lit ?_)
  refine wpList_boxTo rfl 29 _ rfl (some 3) rfl w.heap.size rfl x.cells.toArray rfl ?_
  refine wpList_allocTo rfl (some 6) rfl (.pointer (some ⟨(w.alloc (.cells x.cells.toArray 29 (0, 0))).heap.size, 0, none⟩)) (.cells rtZ 29 (0, 0)) (by kernel_rfl) ?_
  rw [show (w.alloc (.cells x.cells.toArray 29 (0, 0))).heap.size = w.heap.size + 1 by simp, hW]
  obtain ⟨c0, c1, c2, c3, c4, c5, c6, c7, c8, c9, c10, c11, c12, c13, c14, c15, c16, fz⟩ := rT_cf W w.heap.size x (by omega)
  have hvl : w.heap.size < (rT W w.heap.size x).heap.size := by unfold rT; rw [rowT_size]; omega
  generalize hv : rT W w.heap.size x = v at *
  go_upto_region 19 with (fail)
  subst hv
  (repeat (first | rw [rt0] | rw [rt1] | rw [rt2] | rw [rt3] | rw [rt4] | rw [rt5] | rw [rt6] | rw [rt7] | rw [rt8] | rw [rt9] | rw [rt10] | rw [rt11] | rw [rt12] | rw [rt13] | rw [rt14] | rw [rt15]))
  have hB2 := hB
  have hL2 := hL
  have hZ2 := hZ
  unfold rT
  first | refine wp_region_lit ?_ | (refine wp_seq ?_; refine wp_region_lit ?_)
  refine wpList_load_row rfl 29 _ rfl w.heap.size rfl 29 _ (0, 0) _ (rowT_at W w.heap.size 29 _ (by omega)) Tryd.underlying29 rfl (by kernel_rfl) ?_
  refine wpList_store_rowTo rfl 29 _ _ rfl rfl (w.heap.size + 1) _ rfl rfl 29 rtZ ((rowT_far W w.heap.size 29 _ _ (by omega)).trans hZ2) (by kernel_rfl) rfl (rcells_one _) ?_
  rw [setRow_rowT _ _ _ 29 rtZ ((rowT_far W w.heap.size 29 _ _ (by omega)).trans hZ2)]
  go_wp2
  refine bodyPost_ret (results_cell_row rfl _ _ (w.heap.size + 1) 29 _ (0, 0) _ rfl (rowT_at _ (w.heap.size + 1) 29 _ (by rw [rowT_size]; exact hL2)) Tryd.underlying29 rfl (by kernel_rfl)) rfl ⟨?_, ?_⟩
  · exact congrArg (fun z => Ending.returned (rtv z)) (by apply rt_ext <;> first | rfl | (simp; done) | (simp; omega))
  · exact rowT_below (rowT_below hB2 _ (Nat.le_refl _) _ _) _ (by omega) _ _

set_option maxRecDepth 100000 in
set_option maxHeartbeats 2000000 in
theorem rput_2 (x : RT) (b : Int) (w : World) (b0 : 0 ≤ b ∧ b < 256) (hk : x.kind ≠ 3) (b1 : 0 ≤ x.per ∧ x.per < 4096) :
    Calls Tryd.prog 19 #[rtv x, .int .i64 2, .int .i64 b] w fun e w' => e = .returned (rtv { x with r2 := b, per := x.per / 256 * 256 + b }) ∧ Below w.heap.size w w' := by
  obtain ⟨W, hW, hB, hL, hZ⟩ := box2 w x
  go_enter Tryd.func19, Tryd.ntmps19
  first | refine wp_region_lit ?_ | (refine wp_seq ?_; refine wp_region_lit ?_)
  refine wpList_boxTo rfl 29 _ rfl (some 3) rfl w.heap.size rfl x.cells.toArray rfl ?_
  refine wpList_allocTo rfl (some 6) rfl (.pointer (some ⟨(w.alloc (.cells x.cells.toArray 29 (0, 0))).heap.size, 0, none⟩)) (.cells rtZ 29 (0, 0)) (by kernel_rfl) ?_
  rw [show (w.alloc (.cells x.cells.toArray 29 (0, 0))).heap.size = w.heap.size + 1 by simp, hW]
  obtain ⟨c0, c1, c2, c3, c4, c5, c6, c7, c8, c9, c10, c11, c12, c13, c14, c15, c16, fz⟩ := rT_cf W w.heap.size x (by omega)
  have hvl : w.heap.size < (rT W w.heap.size x).heap.size := by unfold rT; rw [rowT_size]; omega
  generalize hv : rT W w.heap.size x = v at *
  go_upto_region 19 with (fail)
  subst hv
  (repeat (first | rw [rt0] | rw [rt1] | rw [rt2] | rw [rt3] | rw [rt4] | rw [rt5] | rw [rt6] | rw [rt7] | rw [rt8] | rw [rt9] | rw [rt10] | rw [rt11] | rw [rt12] | rw [rt13] | rw [rt14] | rw [rt15]))
  have hB2 := hB
  have hL2 := hL
  have hZ2 := hZ
  unfold rT
  first | refine wp_region_lit ?_ | (refine wp_seq ?_; refine wp_region_lit ?_)
  refine wpList_load_row rfl 29 _ rfl w.heap.size rfl 29 _ (0, 0) _ (rowT_at W w.heap.size 29 _ (by omega)) Tryd.underlying29 rfl (by kernel_rfl) ?_
  refine wpList_store_rowTo rfl 29 _ _ rfl rfl (w.heap.size + 1) _ rfl rfl 29 rtZ ((rowT_far W w.heap.size 29 _ _ (by omega)).trans hZ2) (by kernel_rfl) rfl (rcells_one _) ?_
  rw [setRow_rowT _ _ _ 29 rtZ ((rowT_far W w.heap.size 29 _ _ (by omega)).trans hZ2)]
  go_wp2
  refine bodyPost_ret (results_cell_row rfl _ _ (w.heap.size + 1) 29 _ (0, 0) _ rfl (rowT_at _ (w.heap.size + 1) 29 _ (by rw [rowT_size]; exact hL2)) Tryd.underlying29 rfl (by kernel_rfl)) rfl ⟨?_, ?_⟩
  · exact congrArg (fun z => Ending.returned (rtv z)) (by apply rt_ext <;> first | rfl | (simp; done) | (simp; omega))
  · exact rowT_below (rowT_below hB2 _ (Nat.le_refl _) _ _) _ (by omega) _ _

set_option maxRecDepth 100000 in
set_option maxHeartbeats 2000000 in
theorem rput_3 (x : RT) (b : Int) (w : World) (b0 : 0 ≤ b ∧ b < 256) (hk : 0 ≤ x.kind ∧ x.kind < 3) (b1 : 0 ≤ x.per ∧ x.per < 4096) :
    Calls Tryd.prog 19 #[rtv x, .int .i64 3, .int .i64 b] w fun e w' => e = .returned (rtv { x with r3 := b, anew := true, len := ifB x.on (at0 lenL (b / 8)) x.len, stp := ifB (decide (x.kind < 2)) 0 x.stp, per := x.per % 256 + b % 8 * 256 }) ∧ Below w.heap.size w w' := by
  obtain ⟨W, hW, hB, hL, hZ⟩ := box2 w x
  have FL := fun (k : Int) (h : 0 ≤ k ∧ k < 32) (w : World) => r11len_any k w h
  have r1 := more_cell
  have r2 := more_frozen
  have r3 := more_setCell
  have r4 := more_lt
  have r5 := more_more
  rcases Bool.eq_false_or_eq_true x.on with h1 | h1 <;> rcases (by omega : x.kind < 2 ∨ x.kind = 2) with h2 | h2
  all_goals
    go_enter Tryd.func19, Tryd.ntmps19
    first | refine wp_region_lit ?_ | (refine wp_seq ?_; refine wp_region_lit ?_)
    refine wpList_boxTo rfl 29 _ rfl (some 3) rfl w.heap.size rfl x.cells.toArray rfl ?_
    refine wpList_allocTo rfl (some 6) rfl (.pointer (some ⟨(w.alloc (.cells x.cells.toArray 29 (0, 0))).heap.size, 0, none⟩)) (.cells rtZ 29 (0, 0)) (by kernel_rfl) ?_
    rw [show (w.alloc (.cells x.cells.toArray 29 (0, 0))).heap.size = w.heap.size + 1 by simp, hW]
    obtain ⟨c0, c1, c2, c3, c4, c5, c6, c7, c8, c9, c10, c11, c12, c13, c14, c15, c16, fz⟩ := rT_cf W w.heap.size x (by omega)
    have hvl : w.heap.size < (rT W w.heap.size x).heap.size := by unfold rT; rw [rowT_size]; omega
    generalize hv : rT W w.heap.size x = v at *
    go_upto_region 19 with (first | (go_at_call 24; refine (FL _ ?_ _).mono ?_; omega; rintro e w' ⟨rfl, hE⟩; obtain ⟨os2, d2, rfl⟩ := more_of hE.below))
    subst hv
    (repeat (first | rw [rt0] | rw [rt1] | rw [rt2] | rw [rt3] | rw [rt4] | rw [rt5] | rw [rt6] | rw [rt7] | rw [rt8] | rw [rt9] | rw [rt10] | rw [rt11] | rw [rt12] | rw [rt13] | rw [rt14] | rw [rt15]))
    first
      | (rw [rT_more _ _ _ _ _ (by omega)]
         generalize hW2 : more W _ _ = W2
         have hB2 : Below w.heap.size w W2 := by rw [← hW2]; exact more_below hB (by omega) _ _
         have hL2 : w.heap.size + 1 < W2.heap.size := by rw [← hW2]; exact more_lt _ _ _ _ hL
         have hZ2 : W2.heap[w.heap.size + 1]? = some (.cells rtZ 29 (0, 0)) := by rw [← hW2, more_heap _ _ _ _ hL]; exact hZ
         clear hB hL hZ hW2)
      | (have hB2 := hB; have hL2 := hL; have hZ2 := hZ; obtain ⟨W2, hW2⟩ : ∃ W2, W2 = W := ⟨_, rfl⟩; rw [← hW2] at hB2 hL2 hZ2 ⊢; clear hB hL hZ hW2)
    unfold rT
    first | refine wp_region_lit ?_ | (refine wp_seq ?_; refine wp_region_lit ?_)
    refine wpList_load_row rfl 29 _ rfl w.heap.size rfl 29 _ (0, 0) _ (rowT_at W2 w.heap.size 29 _ (by omega)) Tryd.underlying29 rfl (by kernel_rfl) ?_
    refine wpList_store_rowTo rfl 29 _ _ rfl rfl (w.heap.size + 1) _ rfl rfl 29 rtZ ((rowT_far W2 w.heap.size 29 _ _ (by omega)).trans hZ2) (by kernel_rfl) rfl (rcells_one _) ?_
    rw [setRow_rowT _ _ _ 29 rtZ ((rowT_far W2 w.heap.size 29 _ _ (by omega)).trans hZ2)]
    go_wp2
    refine bodyPost_ret (results_cell_row rfl _ _ (w.heap.size + 1) 29 _ (0, 0) _ rfl (rowT_at _ (w.heap.size + 1) 29 _ (by rw [rowT_size]; exact hL2)) Tryd.underlying29 rfl (by kernel_rfl)) rfl ⟨?_, ?_⟩
    · exact congrArg (fun z => Ending.returned (rtv z)) (by apply rt_ext <;> first | rfl | (simp [h1, h2, ifB]; done) | (simp [h1, h2, ifB]; omega))
    · exact rowT_below (rowT_below hB2 _ (Nat.le_refl _) _ _) _ (by omega) _ _

set_option maxRecDepth 100000 in
set_option maxHeartbeats 2000000 in
theorem rputn_0 (x : RT) (b : Int) (w : World) (b0 : 0 ≤ b ∧ b < 256) (hk : x.kind = 3) (b2 : 0 ≤ x.r2 ∧ x.r2 < 256) (hp : x.per = at0 noiL (x.r2 % 16) - 1) :
    Calls Tryd.prog 19 #[rtv x, .int .i64 0, .int .i64 b] w fun e w' => e = .returned (rtv { x with r0 := b }) ∧ Below w.heap.size w w' := by
  obtain ⟨W, hW, hB, hL, hZ⟩ := box2 w x
  have FS := fun (k : Int) (h : 0 ≤ k ∧ k < 16) (w : World) => rslow_any k w h
  have r1 := more_cell
  have r2 := more_frozen
  have r3 := more_setCell
  have r4 := more_lt
  have r5 := more_more
  go_enter Tryd.func19, Tryd.ntmps19
  first | refine wp_region_lit ?_ | (refine wp_seq ?_; refine wp_region_lit ?_)
  refine wpList_boxTo rfl 29 _ rfl (some 3) rfl w.heap.size rfl x.cells.toArray rfl ?_
  refine wpList_allocTo rfl (some 6) rfl (.pointer (some ⟨(w.alloc (.cells x.cells.toArray 29 (0, 0))).heap.size, 0, none⟩)) (.cells rtZ 29 (0, 0)) (by kernel_rfl) ?_
  rw [show (w.alloc (.cells x.cells.toArray 29 (0, 0))).heap.size = w.heap.size + 1 by simp, hW]
  obtain ⟨c0, c1, c2, c3, c4, c5, c6, c7, c8, c9, c10, c11, c12, c13, c14, c15, c16, fz⟩ := rT_cf W w.heap.size x (by omega)
  have hvl : w.heap.size < (rT W w.heap.size x).heap.size := by unfold rT; rw [rowT_size]; omega
  generalize hv : rT W w.heap.size x = v at *
  go_upto_region 14 with (first | (go_at_call 32; refine (FS _ ?_ _).mono ?_; omega; rintro e w' ⟨rfl, hE⟩; obtain ⟨os, d, rfl⟩ := more_of hE.below))
  subst hv
  (repeat (first | rw [rt0] | rw [rt1] | rw [rt2] | rw [rt3] | rw [rt4] | rw [rt5] | rw [rt6] | rw [rt7] | rw [rt8] | rw [rt9] | rw [rt10] | rw [rt11] | rw [rt12] | rw [rt13] | rw [rt14] | rw [rt15]))
  first
    | (rw [rT_more _ _ _ _ _ (by omega)]
       generalize hW2 : more W _ _ = W2
       have hB2 : Below w.heap.size w W2 := by rw [← hW2]; exact more_below hB (by omega) _ _
       have hL2 : w.heap.size + 1 < W2.heap.size := by rw [← hW2]; exact more_lt _ _ _ _ hL
       have hZ2 : W2.heap[w.heap.size + 1]? = some (.cells rtZ 29 (0, 0)) := by rw [← hW2, more_heap _ _ _ _ hL]; exact hZ
       clear hB hL hZ hW2)
    | (have hB2 := hB; have hL2 := hL; have hZ2 := hZ; obtain ⟨W2, hW2⟩ : ∃ W2, W2 = W := ⟨_, rfl⟩; rw [← hW2] at hB2 hL2 hZ2 ⊢; clear hB hL hZ hW2)
  unfold rT
  first | refine wp_region_lit ?_ | (refine wp_seq ?_; refine wp_region_lit ?_)
  refine wpList_load_row rfl 29 _ rfl w.heap.size rfl 29 _ (0, 0) _ (rowT_at W2 w.heap.size 29 _ (by omega)) Tryd.underlying29 rfl (by kernel_rfl) ?_
  refine wpList_store_rowTo rfl 29 _ _ rfl rfl (w.heap.size + 1) _ rfl rfl 29 rtZ ((rowT_far W2 w.heap.size 29 _ _ (by omega)).trans hZ2) (by kernel_rfl) rfl (rcells_one _) ?_
  rw [setRow_rowT _ _ _ 29 rtZ ((rowT_far W2 w.heap.size 29 _ _ (by omega)).trans hZ2)]
  go_wp2
  refine bodyPost_ret (results_cell_row rfl _ _ (w.heap.size + 1) 29 _ (0, 0) _ rfl (rowT_at _ (w.heap.size + 1) 29 _ (by rw [rowT_size]; exact hL2)) Tryd.underlying29 rfl (by kernel_rfl)) rfl ⟨?_, ?_⟩
  · exact congrArg (fun z => Ending.returned (rtv z)) (by apply rt_ext <;> first | rfl | (simp [hp]; done) | (simp [hp]; omega))
  · exact rowT_below (rowT_below hB2 _ (Nat.le_refl _) _ _) _ (by omega) _ _

set_option maxRecDepth 100000 in
set_option maxHeartbeats 2000000 in
theorem rputn_1 (x : RT) (b : Int) (w : World) (b0 : 0 ≤ b ∧ b < 256) (hk : x.kind = 3) (b2 : 0 ≤ x.r2 ∧ x.r2 < 256) (hp : x.per = at0 noiL (x.r2 % 16) - 1) :
    Calls Tryd.prog 19 #[rtv x, .int .i64 1, .int .i64 b] w fun e w' => e = .returned (rtv { x with r1 := b, swept := true }) ∧ Below w.heap.size w w' := by
  obtain ⟨W, hW, hB, hL, hZ⟩ := box2 w x
  have FS := fun (k : Int) (h : 0 ≤ k ∧ k < 16) (w : World) => rslow_any k w h
  have r1 := more_cell
  have r2 := more_frozen
  have r3 := more_setCell
  have r4 := more_lt
  have r5 := more_more
  go_enter Tryd.func19, Tryd.ntmps19
  first | refine wp_region_lit ?_ | (refine wp_seq ?_; refine wp_region_lit ?_)
  refine wpList_boxTo rfl 29 _ rfl (some 3) rfl w.heap.size rfl x.cells.toArray rfl ?_
  refine wpList_allocTo rfl (some 6) rfl (.pointer (some ⟨(w.alloc (.cells x.cells.toArray 29 (0, 0))).heap.size, 0, none⟩)) (.cells rtZ 29 (0, 0)) (by kernel_rfl) ?_
  rw [show (w.alloc (.cells x.cells.toArray 29 (0, 0))).heap.size = w.heap.size + 1 by simp, hW]
  obtain ⟨c0, c1, c2, c3, c4, c5, c6, c7, c8, c9, c10, c11, c12, c13, c14, c15, c16, fz⟩ := rT_cf W w.heap.size x (by omega)
  have hvl : w.heap.size < (rT W w.heap.size x).heap.size := by unfold rT; rw [rowT_size]; omega
  generalize hv : rT W w.heap.size x = v at *
  go_upto_region 14 with (first | (go_at_call 32; refine (FS _ ?_ _).mono ?_; omega; rintro e w' ⟨rfl, hE⟩; obtain ⟨os, d, rfl⟩ := more_of hE.below))
  subst hv
  (repeat (first | rw [rt0] | rw [rt1] | rw [rt2] | rw [rt3] | rw [rt4] | rw [rt5] | rw [rt6] | rw [rt7] | rw [rt8] | rw [rt9] | rw [rt10] | rw [rt11] | rw [rt12] | rw [rt13] | rw [rt14] | rw [rt15]))
  first
    | (rw [rT_more _ _ _ _ _ (by omega)]
       generalize hW2 : more W _ _ = W2
       have hB2 : Below w.heap.size w W2 := by rw [← hW2]; exact more_below hB (by omega) _ _
       have hL2 : w.heap.size + 1 < W2.heap.size := by rw [← hW2]; exact more_lt _ _ _ _ hL
       have hZ2 : W2.heap[w.heap.size + 1]? = some (.cells rtZ 29 (0, 0)) := by rw [← hW2, more_heap _ _ _ _ hL]; exact hZ
       clear hB hL hZ hW2)
    | (have hB2 := hB; have hL2 := hL; have hZ2 := hZ; obtain ⟨W2, hW2⟩ : ∃ W2, W2 = W := ⟨_, rfl⟩; rw [← hW2] at hB2 hL2 hZ2 ⊢; clear hB hL hZ hW2)
  unfold rT
  first | refine wp_region_lit ?_ | (refine wp_seq ?_; refine wp_region_lit ?_)
  refine wpList_load_row rfl 29 _ rfl w.heap.size rfl 29 _ (0, 0) _ (rowT_at W2 w.heap.size 29 _ (by omega)) Tryd.underlying29 rfl (by kernel_rfl) ?_
  refine wpList_store_rowTo rfl 29 _ _ rfl rfl (w.heap.size + 1) _ rfl rfl 29 rtZ ((rowT_far W2 w.heap.size 29 _ _ (by omega)).trans hZ2) (by kernel_rfl) rfl (rcells_one _) ?_
  rw [setRow_rowT _ _ _ 29 rtZ ((rowT_far W2 w.heap.size 29 _ _ (by omega)).trans hZ2)]
  go_wp2
  refine bodyPost_ret (results_cell_row rfl _ _ (w.heap.size + 1) 29 _ (0, 0) _ rfl (rowT_at _ (w.heap.size + 1) 29 _ (by rw [rowT_size]; exact hL2)) Tryd.underlying29 rfl (by kernel_rfl)) rfl ⟨?_, ?_⟩
  · exact congrArg (fun z => Ending.returned (rtv z)) (by apply rt_ext <;> first | rfl | (simp [hp]; done) | (simp [hp]; omega))
  · exact rowT_below (rowT_below hB2 _ (Nat.le_refl _) _ _) _ (by omega) _ _

set_option maxRecDepth 100000 in
set_option maxHeartbeats 2000000 in
theorem rputn_2 (x : RT) (b : Int) (w : World) (b0 : 0 ≤ b ∧ b < 256) (hk : x.kind = 3) (b2 : 0 ≤ x.r2 ∧ x.r2 < 256) (hp : x.per = at0 noiL (x.r2 % 16) - 1) :
    Calls Tryd.prog 19 #[rtv x, .int .i64 2, .int .i64 b] w fun e w' => e = .returned (rtv { x with r2 := b, per := at0 noiL (b % 16) - 1 }) ∧ Below w.heap.size w w' := by
  obtain ⟨W, hW, hB, hL, hZ⟩ := box2 w x
  have FS := fun (k : Int) (h : 0 ≤ k ∧ k < 16) (w : World) => rslow_any k w h
  have r1 := more_cell
  have r2 := more_frozen
  have r3 := more_setCell
  have r4 := more_lt
  have r5 := more_more
  go_enter Tryd.func19, Tryd.ntmps19
  first | refine wp_region_lit ?_ | (refine wp_seq ?_; refine wp_region_lit ?_)
  refine wpList_boxTo rfl 29 _ rfl (some 3) rfl w.heap.size rfl x.cells.toArray rfl ?_
  refine wpList_allocTo rfl (some 6) rfl (.pointer (some ⟨(w.alloc (.cells x.cells.toArray 29 (0, 0))).heap.size, 0, none⟩)) (.cells rtZ 29 (0, 0)) (by kernel_rfl) ?_
  rw [show (w.alloc (.cells x.cells.toArray 29 (0, 0))).heap.size = w.heap.size + 1 by simp, hW]
  obtain ⟨c0, c1, c2, c3, c4, c5, c6, c7, c8, c9, c10, c11, c12, c13, c14, c15, c16, fz⟩ := rT_cf W w.heap.size x (by omega)
  have hvl : w.heap.size < (rT W w.heap.size x).heap.size := by unfold rT; rw [rowT_size]; omega
  generalize hv : rT W w.heap.size x = v at *
  go_upto_region 14 with (first | (go_at_call 32; refine (FS _ ?_ _).mono ?_; omega; rintro e w' ⟨rfl, hE⟩; obtain ⟨os, d, rfl⟩ := more_of hE.below))
  subst hv
  (repeat (first | rw [rt0] | rw [rt1] | rw [rt2] | rw [rt3] | rw [rt4] | rw [rt5] | rw [rt6] | rw [rt7] | rw [rt8] | rw [rt9] | rw [rt10] | rw [rt11] | rw [rt12] | rw [rt13] | rw [rt14] | rw [rt15]))
  first
    | (rw [rT_more _ _ _ _ _ (by omega)]
       generalize hW2 : more W _ _ = W2
       have hB2 : Below w.heap.size w W2 := by rw [← hW2]; exact more_below hB (by omega) _ _
       have hL2 : w.heap.size + 1 < W2.heap.size := by rw [← hW2]; exact more_lt _ _ _ _ hL
       have hZ2 : W2.heap[w.heap.size + 1]? = some (.cells rtZ 29 (0, 0)) := by rw [← hW2, more_heap _ _ _ _ hL]; exact hZ
       clear hB hL hZ hW2)
    | (have hB2 := hB; have hL2 := hL; have hZ2 := hZ; obtain ⟨W2, hW2⟩ : ∃ W2, W2 = W := ⟨_, rfl⟩; rw [← hW2] at hB2 hL2 hZ2 ⊢; clear hB hL hZ hW2)
  unfold rT
  first | refine wp_region_lit ?_ | (refine wp_seq ?_; refine wp_region_lit ?_)
  refine wpList_load_row rfl 29 _ rfl w.heap.size rfl 29 _ (0, 0) _ (rowT_at W2 w.heap.size 29 _ (by omega)) Tryd.underlying29 rfl (by kernel_rfl) ?_
  refine wpList_store_rowTo rfl 29 _ _ rfl rfl (w.heap.size + 1) _ rfl rfl 29 rtZ ((rowT_far W2 w.heap.size 29 _ _ (by omega)).trans hZ2) (by kernel_rfl) rfl (rcells_one _) ?_
  rw [setRow_rowT _ _ _ 29 rtZ ((rowT_far W2 w.heap.size 29 _ _ (by omega)).trans hZ2)]
  go_wp2
  refine bodyPost_ret (results_cell_row rfl _ _ (w.heap.size + 1) 29 _ (0, 0) _ rfl (rowT_at _ (w.heap.size + 1) 29 _ (by rw [rowT_size]; exact hL2)) Tryd.underlying29 rfl (by kernel_rfl)) rfl ⟨?_, ?_⟩
  · exact congrArg (fun z => Ending.returned (rtv z)) (by apply rt_ext <;> first | rfl | (simp [hp]; done) | (simp [hp]; omega))
  · exact rowT_below (rowT_below hB2 _ (Nat.le_refl _) _ _) _ (by omega) _ _

set_option maxRecDepth 100000 in
set_option maxHeartbeats 2000000 in
theorem rputn_3 (x : RT) (b : Int) (w : World) (b0 : 0 ≤ b ∧ b < 256) (hk : x.kind = 3) (b2 : 0 ≤ x.r2 ∧ x.r2 < 256) (hp : x.per = at0 noiL (x.r2 % 16) - 1) :
    Calls Tryd.prog 19 #[rtv x, .int .i64 3, .int .i64 b] w fun e w' => e = .returned (rtv { x with r3 := b, anew := true, len := ifB x.on (at0 lenL (b / 8)) x.len }) ∧ Below w.heap.size w w' := by
  obtain ⟨W, hW, hB, hL, hZ⟩ := box2 w x
  have FS := fun (k : Int) (h : 0 ≤ k ∧ k < 16) (w : World) => rslow_any k w h
  have FL := fun (k : Int) (h : 0 ≤ k ∧ k < 32) (w : World) => r11len_any k w h
  have r1 := more_cell
  have r2 := more_frozen
  have r3 := more_setCell
  have r4 := more_lt
  have r5 := more_more
  rcases Bool.eq_false_or_eq_true x.on with h1 | h1
  all_goals
    go_enter Tryd.func19, Tryd.ntmps19
    first | refine wp_region_lit ?_ | (refine wp_seq ?_; refine wp_region_lit ?_)
    refine wpList_boxTo rfl 29 _ rfl (some 3) rfl w.heap.size rfl x.cells.toArray rfl ?_
    refine wpList_allocTo rfl (some 6) rfl (.pointer (some ⟨(w.alloc (.cells x.cells.toArray 29 (0, 0))).heap.size, 0, none⟩)) (.cells rtZ 29 (0, 0)) (by kernel_rfl) ?_
    rw [show (w.alloc (.cells x.cells.toArray 29 (0, 0))).heap.size = w.heap.size + 1 by simp, hW]
    obtain ⟨c0, c1, c2, c3, c4, c5, c6, c7, c8, c9, c10, c11, c12, c13, c14, c15, c16, fz⟩ := rT_cf W w.heap.size x (by omega)
    have hvl : w.heap.size < (rT W w.heap.size x).heap.size := by unfold rT; rw [rowT_size]; omega
    generalize hv : rT W w.heap.size x = v at *
    go_upto_region 14 with (first | (go_at_call 32; refine (FS _ ?_ _).mono ?_; omega; rintro e w' ⟨rfl, hE⟩; obtain ⟨os, d, rfl⟩ := more_of hE.below) | (go_at_call 24; refine (FL _ ?_ _).mono ?_; omega; rintro e w' ⟨rfl, hE⟩; obtain ⟨os2, d2, rfl⟩ := more_of hE.below))
    subst hv
    (repeat (first | rw [rt0] | rw [rt1] | rw [rt2] | rw [rt3] | rw [rt4] | rw [rt5] | rw [rt6] | rw [rt7] | rw [rt8] | rw [rt9] | rw [rt10] | rw [rt11] | rw [rt12] | rw [rt13] | rw [rt14] | rw [rt15]))
    first
      | (rw [rT_more _ _ _ _ _ (by omega)]
         generalize hW2 : more W _ _ = W2
         have hB2 : Below w.heap.size w W2 := by rw [← hW2]; exact more_below hB (by omega) _ _
         have hL2 : w.heap.size + 1 < W2.heap.size := by rw [← hW2]; exact more_lt _ _ _ _ hL
         have hZ2 : W2.heap[w.heap.size + 1]? = some (.cells rtZ 29 (0, 0)) := by rw [← hW2, more_heap _ _ _ _ hL]; exact hZ
         clear hB hL hZ hW2)
      | (have hB2 := hB; have hL2 := hL; have hZ2 := hZ; obtain ⟨W2, hW2⟩ : ∃ W2, W2 = W := ⟨_, rfl⟩; rw [← hW2] at hB2 hL2 hZ2 ⊢; clear hB hL hZ hW2)
    unfold rT
    first | refine wp_region_lit ?_ | (refine wp_seq ?_; refine wp_region_lit ?_)
    refine wpList_load_row rfl 29 _ rfl w.heap.size rfl 29 _ (0, 0) _ (rowT_at W2 w.heap.size 29 _ (by omega)) Tryd.underlying29 rfl (by kernel_rfl) ?_
    refine wpList_store_rowTo rfl 29 _ _ rfl rfl (w.heap.size + 1) _ rfl rfl 29 rtZ ((rowT_far W2 w.heap.size 29 _ _ (by omega)).trans hZ2) (by kernel_rfl) rfl (rcells_one _) ?_
    rw [setRow_rowT _ _ _ 29 rtZ ((rowT_far W2 w.heap.size 29 _ _ (by omega)).trans hZ2)]
    go_wp2
    refine bodyPost_ret (results_cell_row rfl _ _ (w.heap.size + 1) 29 _ (0, 0) _ rfl (rowT_at _ (w.heap.size + 1) 29 _ (by rw [rowT_size]; exact hL2)) Tryd.underlying29 rfl (by kernel_rfl)) rfl ⟨?_, ?_⟩
    · exact congrArg (fun z => Ending.returned (rtv z)) (by apply rt_ext <;> first | rfl | (simp [h1, hp, ifB]; done) | (simp [h1, hp, ifB]; omega))
    · exact rowT_below (rowT_below hB2 _ (Nat.le_refl _) _ _) _ (by omega) _ _

end Go.Proofs.YtgnafnjhbdefaaaDoor
