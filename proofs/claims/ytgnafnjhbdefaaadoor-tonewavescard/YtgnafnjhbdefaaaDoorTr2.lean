/- The document's voice (kotatsuref11): its functions. No law is claimed here. -/
import Derived.Test.YtgnafnjhbdefaaaDoorTr1
set_option linter.unusedSimpArgs false
set_option linter.unusedVariables false
namespace Go.Proofs.YtgnafnjhbdefaaaDoor
open Go.RowKit Go.Great

theorem rt_ext {a b : RT} (h0 : a.kind = b.kind) (h1 : a.on = b.on) (h2 : a.r0 = b.r0) (h3 : a.r1 = b.r1) (h4 : a.r2 = b.r2) (h5 : a.r3 = b.r3) (h6 : a.len = b.len) (h7 : a.tim = b.tim) (h8 : a.per = b.per) (h9 : a.stp = b.stp) (h10 : a.anew = b.anew) (h11 : a.swept = b.swept) (h12 : a.lev = b.lev) (h13 : a.cnt = b.cnt) (h14 : a.lin = b.lin) (h15 : a.swp = b.swp) (h16 : a.row = b.row) (h17 : a.nr = b.nr) (h18 : a.cr = b.cr) : a = b := by
  cases a; cases b; simp only at *; subst_vars; rfl

set_option maxRecDepth 100000 in
set_option maxHeartbeats 2000000 in
theorem rqua_2 (x : RT) (w : World) (hk : x.kind = 2) (b0 : 0 ≤ x.r0 ∧ x.r0 < 256) (b1 : 0 ≤ x.lin ∧ x.lin < 128) :
    Calls Tryd.prog 21 #[rtv x] w fun e w' => e = .returned (rtv { x with lin := if x.anew then x.r0 % 128 else (if 0 < x.lin then x.lin - 1 else 0), anew := if x.r0 < 128 then false else x.anew }) ∧ Below w.heap.size w w' := by
  obtain ⟨W, hW, hB, hL, hZ⟩ := box2 w x
  rcases Bool.eq_false_or_eq_true x.anew with h1 | h1 <;> rcases (by omega : x.r0 < 128 ∨ ¬ x.r0 < 128) with h2 | h2 <;> rcases (by omega : x.lin = 0 ∨ 0 < x.lin) with h3 | h3
  all_goals
    go_enter Tryd.func21, Tryd.ntmps21
    first | refine wp_region_lit ?_ | (refine wp_seq ?_; refine wp_region_lit ?_)
    refine wpList_boxTo rfl 29 _ rfl (some 1) rfl w.heap.size rfl x.cells.toArray rfl ?_
    refine wpList_allocTo rfl (some 2) rfl (.pointer (some ⟨(w.alloc (.cells x.cells.toArray 29 (0, 0))).heap.size, 0, none⟩)) (.cells rtZ 29 (0, 0)) (by kernel_rfl) ?_
    rw [show (w.alloc (.cells x.cells.toArray 29 (0, 0))).heap.size = w.heap.size + 1 by simp, hW]
    obtain ⟨c0, c1, c2, c3, c4, c5, c6, c7, c8, c9, c10, c11, c12, c13, c14, c15, c16, fz⟩ := rT_cf W w.heap.size x (by omega)
    generalize hv : rT W w.heap.size x = v at *
    go_upto_region 7 with (fail)
    subst hv
    (repeat (first | rw [rt0] | rw [rt1] | rw [rt2] | rw [rt3] | rw [rt4] | rw [rt5] | rw [rt6] | rw [rt7] | rw [rt8] | rw [rt9] | rw [rt10] | rw [rt11] | rw [rt12] | rw [rt13] | rw [rt14] | rw [rt15]))
    unfold rT
    first | refine wp_region_lit ?_ | (refine wp_seq ?_; refine wp_region_lit ?_)
    refine wpList_load_row rfl 29 _ rfl w.heap.size rfl 29 _ (0, 0) _ (rowT_at W w.heap.size 29 _ (by omega)) Tryd.underlying29 rfl (by kernel_rfl) ?_
    refine wpList_store_rowTo rfl 29 _ _ rfl rfl (w.heap.size + 1) _ rfl rfl 29 rtZ ((rowT_far W w.heap.size 29 _ _ (by omega)).trans hZ) (by kernel_rfl) rfl (rcells_one _) ?_
    rw [setRow_rowT _ _ _ 29 rtZ ((rowT_far W w.heap.size 29 _ _ (by omega)).trans hZ)]
    go_wp2
    refine bodyPost_ret (results_cell_row rfl _ _ (w.heap.size + 1) 29 _ (0, 0) _ rfl (rowT_at _ (w.heap.size + 1) 29 _ (by rw [rowT_size]; exact hL)) Tryd.underlying29 rfl (by kernel_rfl)) rfl ⟨?_, ?_⟩
    · exact congrArg (fun z => Ending.returned (rtv z)) (by apply rt_ext <;> first | rfl | (simp [h1, h2, h3]; done) | (simp [h1, h2, h3]; omega))
    · exact rowT_below (rowT_below hB _ (Nat.le_refl _) _ _) _ (by omega) _ _

set_option maxRecDepth 100000 in
set_option maxHeartbeats 2000000 in
theorem rqua_new (x : RT) (w : World) (hk : x.kind ≠ 2) (h1 : x.anew = true) (b0 : 0 ≤ x.r0 ∧ x.r0 < 256) :
    Calls Tryd.prog 21 #[rtv x] w fun e w' => e = .returned (rtv { x with anew := false, lev := 15, cnt := x.r0 % 16 }) ∧ Below w.heap.size w w' := by
  obtain ⟨W, hW, hB, hL, hZ⟩ := box2 w x
  go_enter Tryd.func21, Tryd.ntmps21
  first | refine wp_region_lit ?_ | (refine wp_seq ?_; refine wp_region_lit ?_)
  refine wpList_boxTo rfl 29 _ rfl (some 1) rfl w.heap.size rfl x.cells.toArray rfl ?_
  refine wpList_allocTo rfl (some 2) rfl (.pointer (some ⟨(w.alloc (.cells x.cells.toArray 29 (0, 0))).heap.size, 0, none⟩)) (.cells rtZ 29 (0, 0)) (by kernel_rfl) ?_
  rw [show (w.alloc (.cells x.cells.toArray 29 (0, 0))).heap.size = w.heap.size + 1 by simp, hW]
  obtain ⟨c0, c1, c2, c3, c4, c5, c6, c7, c8, c9, c10, c11, c12, c13, c14, c15, c16, fz⟩ := rT_cf W w.heap.size x (by omega)
  generalize hv : rT W w.heap.size x = v at *
  go_upto_region 11 with (fail)
  subst hv
  (repeat (first | rw [rt0] | rw [rt1] | rw [rt2] | rw [rt3] | rw [rt4] | rw [rt5] | rw [rt6] | rw [rt7] | rw [rt8] | rw [rt9] | rw [rt10] | rw [rt11] | rw [rt12] | rw [rt13] | rw [rt14] | rw [rt15]))
  unfold rT
  first | refine wp_region_lit ?_ | (refine wp_seq ?_; refine wp_region_lit ?_)
  refine wpList_load_row rfl 29 _ rfl w.heap.size rfl 29 _ (0, 0) _ (rowT_at W w.heap.size 29 _ (by omega)) Tryd.underlying29 rfl (by kernel_rfl) ?_
  refine wpList_store_rowTo rfl 29 _ _ rfl rfl (w.heap.size + 1) _ rfl rfl 29 rtZ ((rowT_far W w.heap.size 29 _ _ (by omega)).trans hZ) (by kernel_rfl) rfl (rcells_one _) ?_
  rw [setRow_rowT _ _ _ 29 rtZ ((rowT_far W w.heap.size 29 _ _ (by omega)).trans hZ)]
  go_wp2
  refine bodyPost_ret (results_cell_row rfl _ _ (w.heap.size + 1) 29 _ (0, 0) _ rfl (rowT_at _ (w.heap.size + 1) 29 _ (by rw [rowT_size]; exact hL)) Tryd.underlying29 rfl (by kernel_rfl)) rfl ⟨?_, ?_⟩
  · exact congrArg (fun z => Ending.returned (rtv z)) (by apply rt_ext <;> first | rfl | (simp; done) | (simp; omega))
  · exact rowT_below (rowT_below hB _ (Nat.le_refl _) _ _) _ (by omega) _ _

set_option maxRecDepth 100000 in
set_option maxHeartbeats 2000000 in
theorem rqua_dec (x : RT) (w : World) (hk : x.kind ≠ 2) (h1 : x.anew = false) (b0 : 0 ≤ x.r0 ∧ x.r0 < 256) (b1 : 0 < x.cnt ∧ x.cnt < 16) :
    Calls Tryd.prog 21 #[rtv x] w fun e w' => e = .returned (rtv { x with cnt := x.cnt - 1 }) ∧ Below w.heap.size w w' := by
  obtain ⟨W, hW, hB, hL, hZ⟩ := box2 w x
  go_enter Tryd.func21, Tryd.ntmps21
  first | refine wp_region_lit ?_ | (refine wp_seq ?_; refine wp_region_lit ?_)
  refine wpList_boxTo rfl 29 _ rfl (some 1) rfl w.heap.size rfl x.cells.toArray rfl ?_
  refine wpList_allocTo rfl (some 2) rfl (.pointer (some ⟨(w.alloc (.cells x.cells.toArray 29 (0, 0))).heap.size, 0, none⟩)) (.cells rtZ 29 (0, 0)) (by kernel_rfl) ?_
  rw [show (w.alloc (.cells x.cells.toArray 29 (0, 0))).heap.size = w.heap.size + 1 by simp, hW]
  obtain ⟨c0, c1, c2, c3, c4, c5, c6, c7, c8, c9, c10, c11, c12, c13, c14, c15, c16, fz⟩ := rT_cf W w.heap.size x (by omega)
  generalize hv : rT W w.heap.size x = v at *
  go_upto_region 14 with (fail)
  subst hv
  (repeat (first | rw [rt0] | rw [rt1] | rw [rt2] | rw [rt3] | rw [rt4] | rw [rt5] | rw [rt6] | rw [rt7] | rw [rt8] | rw [rt9] | rw [rt10] | rw [rt11] | rw [rt12] | rw [rt13] | rw [rt14] | rw [rt15]))
  unfold rT
  first | refine wp_region_lit ?_ | (refine wp_seq ?_; refine wp_region_lit ?_)
  refine wpList_load_row rfl 29 _ rfl w.heap.size rfl 29 _ (0, 0) _ (rowT_at W w.heap.size 29 _ (by omega)) Tryd.underlying29 rfl (by kernel_rfl) ?_
  refine wpList_store_rowTo rfl 29 _ _ rfl rfl (w.heap.size + 1) _ rfl rfl 29 rtZ ((rowT_far W w.heap.size 29 _ _ (by omega)).trans hZ) (by kernel_rfl) rfl (rcells_one _) ?_
  rw [setRow_rowT _ _ _ 29 rtZ ((rowT_far W w.heap.size 29 _ _ (by omega)).trans hZ)]
  go_wp2
  refine bodyPost_ret (results_cell_row rfl _ _ (w.heap.size + 1) 29 _ (0, 0) _ rfl (rowT_at _ (w.heap.size + 1) 29 _ (by rw [rowT_size]; exact hL)) Tryd.underlying29 rfl (by kernel_rfl)) rfl ⟨?_, ?_⟩
  · exact congrArg (fun z => Ending.returned (rtv z)) (by apply rt_ext <;> first | rfl | (simp; done) | (simp; omega))
  · exact rowT_below (rowT_below hB _ (Nat.le_refl _) _ _) _ (by omega) _ _

set_option maxRecDepth 100000 in
set_option maxHeartbeats 2000000 in
theorem rqua_low (x : RT) (w : World) (hk : x.kind ≠ 2) (h1 : x.anew = false) (b0 : 0 ≤ x.r0 ∧ x.r0 < 256) (b1 : x.cnt = 0) (b2 : 0 < x.lev ∧ x.lev < 16) :
    Calls Tryd.prog 21 #[rtv x] w fun e w' => e = .returned (rtv { x with cnt := x.r0 % 16, lev := x.lev - 1 }) ∧ Below w.heap.size w w' := by
  obtain ⟨W, hW, hB, hL, hZ⟩ := box2 w x
  go_enter Tryd.func21, Tryd.ntmps21
  first | refine wp_region_lit ?_ | (refine wp_seq ?_; refine wp_region_lit ?_)
  refine wpList_boxTo rfl 29 _ rfl (some 1) rfl w.heap.size rfl x.cells.toArray rfl ?_
  refine wpList_allocTo rfl (some 2) rfl (.pointer (some ⟨(w.alloc (.cells x.cells.toArray 29 (0, 0))).heap.size, 0, none⟩)) (.cells rtZ 29 (0, 0)) (by kernel_rfl) ?_
  rw [show (w.alloc (.cells x.cells.toArray 29 (0, 0))).heap.size = w.heap.size + 1 by simp, hW]
  obtain ⟨c0, c1, c2, c3, c4, c5, c6, c7, c8, c9, c10, c11, c12, c13, c14, c15, c16, fz⟩ := rT_cf W w.heap.size x (by omega)
  generalize hv : rT W w.heap.size x = v at *
  go_upto_region 21 with (fail)
  subst hv
  (repeat (first | rw [rt0] | rw [rt1] | rw [rt2] | rw [rt3] | rw [rt4] | rw [rt5] | rw [rt6] | rw [rt7] | rw [rt8] | rw [rt9] | rw [rt10] | rw [rt11] | rw [rt12] | rw [rt13] | rw [rt14] | rw [rt15]))
  unfold rT
  first | refine wp_region_lit ?_ | (refine wp_seq ?_; refine wp_region_lit ?_)
  refine wpList_load_row rfl 29 _ rfl w.heap.size rfl 29 _ (0, 0) _ (rowT_at W w.heap.size 29 _ (by omega)) Tryd.underlying29 rfl (by kernel_rfl) ?_
  refine wpList_store_rowTo rfl 29 _ _ rfl rfl (w.heap.size + 1) _ rfl rfl 29 rtZ ((rowT_far W w.heap.size 29 _ _ (by omega)).trans hZ) (by kernel_rfl) rfl (rcells_one _) ?_
  rw [setRow_rowT _ _ _ 29 rtZ ((rowT_far W w.heap.size 29 _ _ (by omega)).trans hZ)]
  go_wp2
  refine bodyPost_ret (results_cell_row rfl _ _ (w.heap.size + 1) 29 _ (0, 0) _ rfl (rowT_at _ (w.heap.size + 1) 29 _ (by rw [rowT_size]; exact hL)) Tryd.underlying29 rfl (by kernel_rfl)) rfl ⟨?_, ?_⟩
  · exact congrArg (fun z => Ending.returned (rtv z)) (by apply rt_ext <;> first | rfl | (simp; done) | (simp; omega))
  · exact rowT_below (rowT_below hB _ (Nat.le_refl _) _ _) _ (by omega) _ _

set_option maxRecDepth 100000 in
set_option maxHeartbeats 2000000 in
theorem rclock_dec (x : RT) (w : World) (h1 : 0 < x.tim ∧ x.tim < 4096) :
    Calls Tryd.prog 23 #[rtv x] w fun e w' => e = .returned (rtv { x with tim := x.tim - 1 }) ∧ Below w.heap.size w w' := by
  obtain ⟨W, hW, hB, hL, hZ⟩ := box2 w x
  go_enter Tryd.func23, Tryd.ntmps23
  first | refine wp_region_lit ?_ | (refine wp_seq ?_; refine wp_region_lit ?_)
  refine wpList_boxTo rfl 29 _ rfl (some 1) rfl w.heap.size rfl x.cells.toArray rfl ?_
  refine wpList_allocTo rfl (some 2) rfl (.pointer (some ⟨(w.alloc (.cells x.cells.toArray 29 (0, 0))).heap.size, 0, none⟩)) (.cells rtZ 29 (0, 0)) (by kernel_rfl) ?_
  rw [show (w.alloc (.cells x.cells.toArray 29 (0, 0))).heap.size = w.heap.size + 1 by simp, hW]
  obtain ⟨c0, c1, c2, c3, c4, c5, c6, c7, c8, c9, c10, c11, c12, c13, c14, c15, c16, fz⟩ := rT_cf W w.heap.size x (by omega)
  generalize hv : rT W w.heap.size x = v at *
  go_upto_region 3 with (fail)
  subst hv
  (repeat (first | rw [rt0] | rw [rt1] | rw [rt2] | rw [rt3] | rw [rt4] | rw [rt5] | rw [rt6] | rw [rt7] | rw [rt8] | rw [rt9] | rw [rt10] | rw [rt11] | rw [rt12] | rw [rt13] | rw [rt14] | rw [rt15]))
  unfold rT
  first | refine wp_region_lit ?_ | (refine wp_seq ?_; refine wp_region_lit ?_)
  refine wpList_load_row rfl 29 _ rfl w.heap.size rfl 29 _ (0, 0) _ (rowT_at W w.heap.size 29 _ (by omega)) Tryd.underlying29 rfl (by kernel_rfl) ?_
  refine wpList_store_rowTo rfl 29 _ _ rfl rfl (w.heap.size + 1) _ rfl rfl 29 rtZ ((rowT_far W w.heap.size 29 _ _ (by omega)).trans hZ) (by kernel_rfl) rfl (rcells_one _) ?_
  rw [setRow_rowT _ _ _ 29 rtZ ((rowT_far W w.heap.size 29 _ _ (by omega)).trans hZ)]
  go_wp2
  refine bodyPost_ret (results_cell_row rfl _ _ (w.heap.size + 1) 29 _ (0, 0) _ rfl (rowT_at _ (w.heap.size + 1) 29 _ (by rw [rowT_size]; exact hL)) Tryd.underlying29 rfl (by kernel_rfl)) rfl ⟨?_, ?_⟩
  · exact congrArg (fun z => Ending.returned (rtv z)) (by apply rt_ext <;> first | rfl | (simp; done) | (simp; omega))
  · exact rowT_below (rowT_below hB _ (Nat.le_refl _) _ _) _ (by omega) _ _

set_option maxRecDepth 100000 in
set_option maxHeartbeats 2000000 in
theorem rclock_tri (x : RT) (w : World) (hk : x.kind = 2) (h1 : x.tim = 0) (b1 : 0 ≤ x.len ∧ x.len < 256) (b2 : 0 ≤ x.lin ∧ x.lin < 128) (b3 : 0 ≤ x.stp ∧ x.stp < 32) :
    Calls Tryd.prog 23 #[rtv x] w fun e w' => e = .returned (rtv { x with tim := x.per, stp := if 0 < x.len ∧ 0 < x.lin then (x.stp + 1) % 32 else x.stp }) ∧ Below w.heap.size w w' := by
  obtain ⟨W, hW, hB, hL, hZ⟩ := box2 w x
  rcases (by omega : x.len = 0 ∨ 0 < x.len) with h2 | h2 <;> rcases (by omega : x.lin = 0 ∨ 0 < x.lin) with h3 | h3
  all_goals
    go_enter Tryd.func23, Tryd.ntmps23
    first | refine wp_region_lit ?_ | (refine wp_seq ?_; refine wp_region_lit ?_)
    refine wpList_boxTo rfl 29 _ rfl (some 1) rfl w.heap.size rfl x.cells.toArray rfl ?_
    refine wpList_allocTo rfl (some 2) rfl (.pointer (some ⟨(w.alloc (.cells x.cells.toArray 29 (0, 0))).heap.size, 0, none⟩)) (.cells rtZ 29 (0, 0)) (by kernel_rfl) ?_
    rw [show (w.alloc (.cells x.cells.toArray 29 (0, 0))).heap.size = w.heap.size + 1 by simp, hW]
    obtain ⟨c0, c1, c2, c3, c4, c5, c6, c7, c8, c9, c10, c11, c12, c13, c14, c15, c16, fz⟩ := rT_cf W w.heap.size x (by omega)
    generalize hv : rT W w.heap.size x = v at *
    go_upto_region 17 with (fail)
    subst hv
    (repeat (first | rw [rt0] | rw [rt1] | rw [rt2] | rw [rt3] | rw [rt4] | rw [rt5] | rw [rt6] | rw [rt7] | rw [rt8] | rw [rt9] | rw [rt10] | rw [rt11] | rw [rt12] | rw [rt13] | rw [rt14] | rw [rt15]))
    unfold rT
    first | refine wp_region_lit ?_ | (refine wp_seq ?_; refine wp_region_lit ?_)
    refine wpList_load_row rfl 29 _ rfl w.heap.size rfl 29 _ (0, 0) _ (rowT_at W w.heap.size 29 _ (by omega)) Tryd.underlying29 rfl (by kernel_rfl) ?_
    refine wpList_store_rowTo rfl 29 _ _ rfl rfl (w.heap.size + 1) _ rfl rfl 29 rtZ ((rowT_far W w.heap.size 29 _ _ (by omega)).trans hZ) (by kernel_rfl) rfl (rcells_one _) ?_
    rw [setRow_rowT _ _ _ 29 rtZ ((rowT_far W w.heap.size 29 _ _ (by omega)).trans hZ)]
    go_wp2
    refine bodyPost_ret (results_cell_row rfl _ _ (w.heap.size + 1) 29 _ (0, 0) _ rfl (rowT_at _ (w.heap.size + 1) 29 _ (by rw [rowT_size]; exact hL)) Tryd.underlying29 rfl (by kernel_rfl)) rfl ⟨?_, ?_⟩
    · exact congrArg (fun z => Ending.returned (rtv z)) (by apply rt_ext <;> first | rfl | (simp [h2, h3]; done) | (simp [h2, h3]; omega))
    · exact rowT_below (rowT_below hB _ (Nat.le_refl _) _ _) _ (by omega) _ _

set_option maxRecDepth 100000 in
set_option maxHeartbeats 2000000 in
theorem rclock_pul (x : RT) (w : World) (hk : x.kind ≠ 2) (hp : x.kind ≠ 3) (h1 : x.tim = 0) (b3 : 0 ≤ x.stp ∧ x.stp < 32) :
    Calls Tryd.prog 23 #[rtv x] w fun e w' => e = .returned (rtv { x with tim := x.per, stp := (x.stp + 1) % 8 }) ∧ Below w.heap.size w w' := by
  obtain ⟨W, hW, hB, hL, hZ⟩ := box2 w x
  go_enter Tryd.func23, Tryd.ntmps23
  first | refine wp_region_lit ?_ | (refine wp_seq ?_; refine wp_region_lit ?_)
  refine wpList_boxTo rfl 29 _ rfl (some 1) rfl w.heap.size rfl x.cells.toArray rfl ?_
  refine wpList_allocTo rfl (some 2) rfl (.pointer (some ⟨(w.alloc (.cells x.cells.toArray 29 (0, 0))).heap.size, 0, none⟩)) (.cells rtZ 29 (0, 0)) (by kernel_rfl) ?_
  rw [show (w.alloc (.cells x.cells.toArray 29 (0, 0))).heap.size = w.heap.size + 1 by simp, hW]
  obtain ⟨c0, c1, c2, c3, c4, c5, c6, c7, c8, c9, c10, c11, c12, c13, c14, c15, c16, fz⟩ := rT_cf W w.heap.size x (by omega)
  generalize hv : rT W w.heap.size x = v at *
  go_upto_region 17 with (fail)
  subst hv
  (repeat (first | rw [rt0] | rw [rt1] | rw [rt2] | rw [rt3] | rw [rt4] | rw [rt5] | rw [rt6] | rw [rt7] | rw [rt8] | rw [rt9] | rw [rt10] | rw [rt11] | rw [rt12] | rw [rt13] | rw [rt14] | rw [rt15]))
  unfold rT
  first | refine wp_region_lit ?_ | (refine wp_seq ?_; refine wp_region_lit ?_)
  refine wpList_load_row rfl 29 _ rfl w.heap.size rfl 29 _ (0, 0) _ (rowT_at W w.heap.size 29 _ (by omega)) Tryd.underlying29 rfl (by kernel_rfl) ?_
  refine wpList_store_rowTo rfl 29 _ _ rfl rfl (w.heap.size + 1) _ rfl rfl 29 rtZ ((rowT_far W w.heap.size 29 _ _ (by omega)).trans hZ) (by kernel_rfl) rfl (rcells_one _) ?_
  rw [setRow_rowT _ _ _ 29 rtZ ((rowT_far W w.heap.size 29 _ _ (by omega)).trans hZ)]
  go_wp2
  refine bodyPost_ret (results_cell_row rfl _ _ (w.heap.size + 1) 29 _ (0, 0) _ rfl (rowT_at _ (w.heap.size + 1) 29 _ (by rw [rowT_size]; exact hL)) Tryd.underlying29 rfl (by kernel_rfl)) rfl ⟨?_, ?_⟩
  · exact congrArg (fun z => Ending.returned (rtv z)) (by apply rt_ext <;> first | rfl | (simp; done) | (simp; omega))
  · exact rowT_below (rowT_below hB _ (Nat.le_refl _) _ _) _ (by omega) _ _

end Go.Proofs.YtgnafnjhbdefaaaDoor
