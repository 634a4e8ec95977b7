/- The document's voice (kotatsuref11): Slow, target, mute. No law is claimed here. -/
import Derived.Test.YtgnafnjhbdefaaaDoorTr2
set_option linter.unusedSimpArgs false
set_option linter.unusedVariables false
namespace Go.Proofs.YtgnafnjhbdefaaaDoor
open Go.RowKit Go.Great

set_option maxRecDepth 100000 in
set_option maxHeartbeats 2000000 in
theorem rslow_any (k : Int) (w : World) (hk : 0 ≤ k ∧ k < 16) :
    Calls Tryd.prog 32 #[.int .i64 k] w fun e w' => e = .returned (.int .i64 (at0 noiL k - 1)) ∧ Ext w w' := by
  obtain ⟨j, rfl⟩ := nat_of k hk.1
  have hj : j < 16 := by omega
  clear hk
  have : j = 0 ∨ j = 1 ∨ j = 2 ∨ j = 3 ∨ j = 4 ∨ j = 5 ∨ j = 6 ∨ j = 7 ∨ j = 8 ∨ j = 9 ∨ j = 10 ∨ j = 11 ∨ j = 12 ∨ j = 13 ∨ j = 14 ∨ j = 15 := by omega
  rcases this with rfl | rfl | rfl | rfl | rfl | rfl | rfl | rfl | rfl | rfl | rfl | rfl | rfl | rfl | rfl | rfl
  all_goals
    go_enter Tryd.func32, Tryd.ntmps32
    go_wp2
    go_ret
    exact ⟨rfl, (Ext.refl _).alloc _⟩

/-- the parameter's box alone -/
theorem box1 (w : World) (x : RT) : ∃ W, w.alloc (.cells x.cells.toArray 29 (0, 0)) = rT W w.heap.size x ∧ Below w.heap.size w W ∧ w.heap.size < W.heap.size := by
  refine ⟨w.alloc (.cells x.cells.toArray 29 (0, 0)), ?_, ((Ext.refl w).alloc _).below, by simp⟩
  exact (rowT_self _ _ _ _ (heap_alloc_new w _)).symm

end Go.Proofs.YtgnafnjhbdefaaaDoor
