/- The document's voice (kotatsuref11): New. No law is claimed here. -/
import Derived.Test.YtgnafnjhbdefaaaDoorTr8
set_option linter.unusedSimpArgs false
set_option linter.unusedVariables false
namespace Go.Proofs.YtgnafnjhbdefaaaDoor
open Go.RowKit Go.Great

/-- a voice that was just made -/
def nwR (k : Int) (A : Option Addr) (c : Nat) : RT := ⟨k, false, 0, 0, 0, 0, 0, 0, 0, 0, false, false, 0, 0, 0, 0, A, 15, c⟩
def row0 : List Int := [1, 0, 0, 0, 0, 0, 0, 0, 0, 0, 0, 0, 0, 0, 0]
theorem newBox (w : World) (x : RT) : ∃ W, (((w.alloc (.cells rtZ 29 (0, 0))).alloc (.cells (row0.map iv).toArray 3)).alloc (.cells rtZ 29 (0, 0))).setRow (w.heap.size + 2) x.cells.toArray = rT W (w.heap.size + 2) x ∧ Below w.heap.size w W ∧ w.heap.size + 2 < W.heap.size ∧
    W.heap[w.heap.size]? = some (.cells rtZ 29 (0, 0)) ∧ RowR W (some ⟨w.heap.size + 1, 0, none⟩) 15 row0 := by
  refine ⟨((w.alloc (.cells rtZ 29 (0, 0))).alloc (.cells (row0.map iv).toArray 3)).alloc (.cells rtZ 29 (0, 0)), ?_, ((((Ext.refl w).alloc _).alloc _).alloc _).below, by simp, ?_, ⟨rfl, Nat.le_refl _, w.heap.size + 1, 0, rfl, by simp, fun j hj => ?_⟩⟩
  · refine setRow_rowT _ _ _ 29 rtZ ?_
    have := heap_alloc_new ((w.alloc (.cells rtZ 29 (0, 0))).alloc (.cells (row0.map iv).toArray 3)) (.cells rtZ 29 (0, 0))
    simpa using this
  · rw [heap_alloc_old _ _ (by simp; omega), heap_alloc_old _ _ (by simp)]
    exact heap_alloc_new w _
  · have h1 : ((w.alloc (.cells rtZ 29 (0, 0))).alloc (.cells (row0.map iv).toArray 3)).heap[w.heap.size + 1]? = some (.cells (row0.map iv).toArray 3 (0, 0)) := by
      have := heap_alloc_new (w.alloc (.cells rtZ 29 (0, 0))) (.cells (row0.map iv).toArray 3)
      simpa using this
    have h2 := heap_alloc_old ((w.alloc (.cells rtZ 29 (0, 0))).alloc (.cells (row0.map iv).toArray 3)) (.cells rtZ 29 (0, 0)) (r := w.heap.size + 1) (by simp)
    rw [h1] at h2
    refine (cell_of_row _ _ _ _ _ _ h2).trans ?_
    rw [Nat.zero_add]
    simp [List.getElem?_map, List.getElem?_eq_getElem hj]

set_option maxRecDepth 100000 in
set_option maxHeartbeats 2000000 in
theorem rnew_any (k : Int) (w : World) (hk : 0 ≤ k ∧ k < 4) :
    Calls Tryd.prog 13 #[.int .i64 k] w fun e w' => ∃ A c, e = .returned (rtv { nwR k A c with per := ifB (k == 3) 3 0 }) ∧ RowR w' A c row0 ∧ Below w.heap.size w w' ∧ (∀ g o, A = some ⟨g, o, none⟩ → w.heap.size ≤ g) := by
  have FS := fun (w : World) => rslow_any 0 w (by decide)
  rw [show at0 noiL 0 - 1 = 3 from by decide +kernel] at FS
  have r1 := more_cell
  have r2 := more_frozen
  have r3 := more_setCell
  have r4 := more_lt
  obtain ⟨W, hW, hB, hL, hZ, hR⟩ := newBox w (nwR k (some ⟨w.heap.size + 1, 0, none⟩) 15)
  have hbs : Tryd.prog.builtSlice 3 15 [(0, .int .i64 1), (1, .int .i64 0), (2, .int .i64 0), (3, .int .i64 0), (4, .int .i64 0), (5, .int .i64 0), (6, .int .i64 0), (7, .int .i64 0), (8, .int .i64 0), (9, .int .i64 0), (10, .int .i64 0), (11, .int .i64 0), (12, .int .i64 0), (13, .int .i64 0), (14, .int .i64 0)] = some (row0.map iv).toArray := by kernel_rfl
  have hbt : Tryd.prog.built 29 [(0, .int .i64 k), (13, .slice (some ⟨w.heap.size + 1, 0, none⟩) 15 15)] = some (nwR k (some ⟨w.heap.size + 1, 0, none⟩) 15).cells.toArray := by kernel_rfl
  rcases (by omega : k = 3 ∨ k < 3) with h1 | h1
  all_goals
    go_enter Tryd.func13, Tryd.ntmps13
    first | refine wp_region_lit ?_ | (refine wp_seq ?_; refine wp_region_lit ?_)
    refine wpList_allocTo rfl (some 2) rfl (.pointer (some ⟨w.heap.size, 0, none⟩)) (.cells rtZ 29 (0, 0)) (by kernel_rfl) ?_
    go_upto_region 1 with (fail)
    first | refine wp_region_lit ?_ | (refine wp_seq ?_; refine wp_region_lit ?_)
    refine wpList_readTo rfl (some 4) rfl (.int .i64 k) (by kernel_rfl) ?_
    refine wpList_buildSliceTo rfl 27 3 15 _ rfl (w.heap.size + 1) (by simp) (some 5) rfl Tryd.underlying27 (row0.map iv).toArray (by kernel_rfl) ?_
    refine wpList_buildTo rfl 29 _ rfl (some 6) rfl (nwR k (some ⟨w.heap.size + 1, 0, none⟩) 15).cells.toArray (by kernel_rfl) ?_
    refine wpList_allocTo rfl (some 3) rfl (.pointer (some ⟨((w.alloc (.cells rtZ 29 (0, 0))).alloc (.cells (row0.map iv).toArray 3 (0, 0))).heap.size, 0, none⟩)) (.cells rtZ 29 (0, 0)) (by kernel_rfl) ?_
    rw [show ((w.alloc (.cells rtZ 29 (0, 0))).alloc (.cells (row0.map iv).toArray 3 (0, 0))).heap.size = w.heap.size + 2 by simp]
    refine wpList_store_rowTo rfl 29 _ _ rfl rfl (w.heap.size + 2) _ rfl rfl 29 rtZ (by have := heap_alloc_new ((w.alloc (.cells rtZ 29 (0, 0))).alloc (.cells (row0.map iv).toArray 3)) (.cells rtZ 29 (0, 0)); simpa using this) (by kernel_rfl) rfl (rcells_one _) ?_
    rw [hW]
    obtain ⟨c0, c1, c2, c3, c4, c5, c6, c7, c8, c9, c10, c11, c12, c13, c14, c15, c16, fz⟩ := rT_cf W (w.heap.size + 2) (nwR k (some ⟨w.heap.size + 1, 0, none⟩) 15) (by omega)
    have hvl : w.heap.size + 2 < (rT W (w.heap.size + 2) (nwR k (some ⟨w.heap.size + 1, 0, none⟩) 15)).heap.size := by unfold rT; rw [rowT_size]; omega
    clear hW hbs hbt
    generalize hv : rT W (w.heap.size + 2) (nwR k (some ⟨w.heap.size + 1, 0, none⟩) 15) = v at *
    go_upto_region 4 with (first | (go_at_call 32; refine (FS _).mono ?_; rintro e w' ⟨rfl, hE⟩; obtain ⟨os, d, rfl⟩ := more_of hE.below))
    clear c0 c1 c2 c3 c4 c5 c6 c7 c8 c9 c10 c11 c12 c13 c14 c15 c16 fz hvl
    subst hv
    first
      | (rw [rt8, rT_more _ _ _ _ _ (by omega)]
         generalize hW2 : more W _ _ = W2
         have hB2 : Below w.heap.size w W2 := by rw [← hW2]; exact more_below hB (by omega) _ _
         have hL2 : w.heap.size + 2 < W2.heap.size := by rw [← hW2]; exact more_lt _ _ _ _ hL
         have hZ2 : W2.heap[w.heap.size]? = some (.cells rtZ 29 (0, 0)) := by rw [← hW2, more_heap _ _ _ _ (by omega)]; exact hZ
         have hR2 : RowR W2 (some ⟨w.heap.size + 1, 0, none⟩) 15 row0 := by rw [← hW2]; exact hR.up (more_self _ _ _)
         clear hB hL hZ hR hW2)
      | (have hB2 := hB; have hL2 := hL; have hZ2 := hZ; have hR2 := hR; obtain ⟨W2, hW2⟩ : ∃ W2, W2 = W := ⟨_, rfl⟩; rw [← hW2] at hB2 hL2 hZ2 hR2 ⊢; clear hB hL hZ hR hW2)
    unfold rT
    first | refine wp_region_lit ?_ | (refine wp_seq ?_; refine wp_region_lit ?_)
    refine wpList_load_row rfl 29 _ rfl (w.heap.size + 2) rfl 29 _ (0, 0) _ (rowT_at W2 (w.heap.size + 2) 29 _ hL2) Tryd.underlying29 rfl (by kernel_rfl) ?_
    refine wpList_store_rowTo rfl 29 _ _ rfl rfl w.heap.size _ rfl rfl 29 rtZ ((rowT_far W2 (w.heap.size + 2) 29 _ _ (by omega)).trans hZ2) (by kernel_rfl) rfl (rcells_one _) ?_
    rw [setRow_rowT _ _ _ 29 rtZ ((rowT_far W2 (w.heap.size + 2) 29 _ _ (by omega)).trans hZ2)]
    go_wp2
    refine bodyPost_ret (results_cell_row rfl _ _ w.heap.size 29 _ (0, 0) _ rfl (rowT_at _ w.heap.size 29 _ (by rw [rowT_size]; omega)) Tryd.underlying29 rfl (by kernel_rfl)) rfl ⟨some ⟨w.heap.size + 1, 0, none⟩, 15, ?_, ?_, ?_, ?_⟩
    · exact congrArg (fun z => Ending.returned (rtv z)) (by apply rt_ext <;> first | rfl | (simp [nwR, ifB, h1]; done) | (simp [nwR, ifB]; omega))
    · refine ⟨hR2.len, hR2.cap, w.heap.size + 1, 0, rfl, by rw [rowT_size, rowT_size]; omega, fun j hj => ?_⟩
      obtain ⟨g, off, e, _, hc⟩ := hR2.at_
      simp at e
      obtain ⟨rfl, rfl⟩ := e
      refine (rowT_cellFar _ _ _ _ _ (by show w.heap.size + 1 ≠ w.heap.size; omega)).trans ((rowT_cellFar _ _ _ _ _ (by show w.heap.size + 1 ≠ w.heap.size + 2; omega)).trans (hc j hj))
    · exact rowT_below (rowT_below hB2 _ (by omega) _ _) _ (Nat.le_refl _) _ _
    · intro g2 o2 hA
      simp at hA
      omega

end Go.Proofs.YtgnafnjhbdefaaaDoor
