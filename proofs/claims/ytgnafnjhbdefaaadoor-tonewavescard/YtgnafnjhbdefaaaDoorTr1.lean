/- The document's voice as a value (kotatsuref11): small contracts. No law is claimed here. -/
import Derived.Test.YtgnafnjhbdefaaaDoorTn12
import Derived.Great.Ranges
import Derived.Great.Walk
import Derived.Great.BuildSlice
import Derived.Laws.Rows
set_option linter.unusedSimpArgs false
set_option linter.unusedVariables false
namespace Go.Proofs.YtgnafnjhbdefaaaDoor
open Go.RowKit Go.Great

/-- the document's voice -/
structure RT where
  kind : Int
  on : Bool
  r0 : Int
  r1 : Int
  r2 : Int
  r3 : Int
  len : Int
  tim : Int
  per : Int
  stp : Int
  anew : Bool
  swept : Bool
  lev : Int
  cnt : Int
  lin : Int
  swp : Int
  row : Option Addr
  nr : Nat
  cr : Nat
def RT.cells (x : RT) : List Value := [.int .i64 x.kind, .bool x.on, .int .i64 x.r0, .int .i64 x.r1, .int .i64 x.r2, .int .i64 x.r3, .int .i64 x.len, .int .i64 x.tim, .int .i64 x.per, .int .i64 x.stp, .bool x.anew, .bool x.swept,
  .int .i64 x.lev, .int .i64 x.cnt, .int .i64 x.lin, .int .i64 x.swp, .slice x.row x.nr x.cr]
def rtv (x : RT) : Value := .agg x.cells.toArray
def rT (w : World) (n : Nat) (x : RT) : World := rowT w n 29 x.cells
def rtZ : Array Value := #[.int .i64 0, .bool false, .int .i64 0, .int .i64 0, .int .i64 0, .int .i64 0, .int .i64 0, .int .i64 0, .int .i64 0, .int .i64 0, .bool false, .bool false, .int .i64 0, .int .i64 0, .int .i64 0, .int .i64 0, .slice none 0 0]

structure RF (v : World) (n : Nat) (x : RT) : Prop where
  c0 : v.cell? ⟨n, 0, none⟩ = some (.int .i64 x.kind)
  c1 : v.cell? ⟨n, 1, none⟩ = some (.bool x.on)
  c2 : v.cell? ⟨n, 2, none⟩ = some (.int .i64 x.r0)
  c3 : v.cell? ⟨n, 3, none⟩ = some (.int .i64 x.r1)
  c4 : v.cell? ⟨n, 4, none⟩ = some (.int .i64 x.r2)
  c5 : v.cell? ⟨n, 5, none⟩ = some (.int .i64 x.r3)
  c6 : v.cell? ⟨n, 6, none⟩ = some (.int .i64 x.len)
  c7 : v.cell? ⟨n, 7, none⟩ = some (.int .i64 x.tim)
  c8 : v.cell? ⟨n, 8, none⟩ = some (.int .i64 x.per)
  c9 : v.cell? ⟨n, 9, none⟩ = some (.int .i64 x.stp)
  c10 : v.cell? ⟨n, 10, none⟩ = some (.bool x.anew)
  c11 : v.cell? ⟨n, 11, none⟩ = some (.bool x.swept)
  c12 : v.cell? ⟨n, 12, none⟩ = some (.int .i64 x.lev)
  c13 : v.cell? ⟨n, 13, none⟩ = some (.int .i64 x.cnt)
  c14 : v.cell? ⟨n, 14, none⟩ = some (.int .i64 x.lin)
  c15 : v.cell? ⟨n, 15, none⟩ = some (.int .i64 x.swp)
  c16 : v.cell? ⟨n, 16, none⟩ = some (.slice x.row x.nr x.cr)
  fz : ∀ i, v.frozen? ⟨n, i, none⟩ = false
theorem rT_cf (w : World) (n : Nat) (x : RT) (h : n < w.heap.size) : RF (rT w n x) n x := by
  constructor <;> first | (intro i; exact rowT_frozen _ _ _ _ i) | (unfold rT; rw [rowT_cell _ _ _ _ h]; rfl)
theorem rt0 (w : World) (n : Nat) (x : RT) (y : Int) : (rT w n x).setCell ⟨n, 0, none⟩ (.int .i64 y) = rT w n { x with kind := y } := by unfold rT; rw [rowT_set]; rfl
theorem rt1 (w : World) (n : Nat) (x : RT) (y : Bool) : (rT w n x).setCell ⟨n, 1, none⟩ (.bool y) = rT w n { x with on := y } := by unfold rT; rw [rowT_set]; rfl
theorem rt2 (w : World) (n : Nat) (x : RT) (y : Int) : (rT w n x).setCell ⟨n, 2, none⟩ (.int .i64 y) = rT w n { x with r0 := y } := by unfold rT; rw [rowT_set]; rfl
theorem rt3 (w : World) (n : Nat) (x : RT) (y : Int) : (rT w n x).setCell ⟨n, 3, none⟩ (.int .i64 y) = rT w n { x with r1 := y } := by unfold rT; rw [rowT_set]; rfl
theorem rt4 (w : World) (n : Nat) (x : RT) (y : Int) : (rT w n x).setCell ⟨n, 4, none⟩ (.int .i64 y) = rT w n { x with r2 := y } := by unfold rT; rw [rowT_set]; rfl
theorem rt5 (w : World) (n : Nat) (x : RT) (y : Int) : (rT w n x).setCell ⟨n, 5, none⟩ (.int .i64 y) = rT w n { x with r3 := y } := by unfold rT; rw [rowT_set]; rfl
theorem rt6 (w : World) (n : Nat) (x : RT) (y : Int) : (rT w n x).setCell ⟨n, 6, none⟩ (.int .i64 y) = rT w n { x with len := y } := by unfold rT; rw [rowT_set]; rfl
theorem rt7 (w : World) (n : Nat) (x : RT) (y : Int) : (rT w n x).setCell ⟨n, 7, none⟩ (.int .i64 y) = rT w n { x with tim := y } := by unfold rT; rw [rowT_set]; rfl
theorem rt8 (w : World) (n : Nat) (x : RT) (y : Int) : (rT w n x).setCell ⟨n, 8, none⟩ (.int .i64 y) = rT w n { x with per := y } := by unfold rT; rw [rowT_set]; rfl
theorem rt9 (w : World) (n : Nat) (x : RT) (y : Int) : (rT w n x).setCell ⟨n, 9, none⟩ (.int .i64 y) = rT w n { x with stp := y } := by unfold rT; rw [rowT_set]; rfl
theorem rt10 (w : World) (n : Nat) (x : RT) (y : Bool) : (rT w n x).setCell ⟨n, 10, none⟩ (.bool y) = rT w n { x with anew := y } := by unfold rT; rw [rowT_set]; rfl
theorem rt11 (w : World) (n : Nat) (x : RT) (y : Bool) : (rT w n x).setCell ⟨n, 11, none⟩ (.bool y) = rT w n { x with swept := y } := by unfold rT; rw [rowT_set]; rfl
theorem rt12 (w : World) (n : Nat) (x : RT) (y : Int) : (rT w n x).setCell ⟨n, 12, none⟩ (.int .i64 y) = rT w n { x with lev := y } := by unfold rT; rw [rowT_set]; rfl
theorem rt13 (w : World) (n : Nat) (x : RT) (y : Int) : (rT w n x).setCell ⟨n, 13, none⟩ (.int .i64 y) = rT w n { x with cnt := y } := by unfold rT; rw [rowT_set]; rfl
theorem rt14 (w : World) (n : Nat) (x : RT) (y : Int) : (rT w n x).setCell ⟨n, 14, none⟩ (.int .i64 y) = rT w n { x with lin := y } := by unfold rT; rw [rowT_set]; rfl
theorem rt15 (w : World) (n : Nat) (x : RT) (y : Int) : (rT w n x).setCell ⟨n, 15, none⟩ (.int .i64 y) = rT w n { x with swp := y } := by unfold rT; rw [rowT_set]; rfl
theorem rcells_one (x : RT) : x.cells.toArray.all (·.oneCell') = true := by unfold RT.cells; simp [Value.oneCell']
theorem setRow_rowT (w : World) (g : Nat) (cs : List Value) (t : TypeId) (old : Array Value) (h : w.heap[g]? = some (.cells old t (0, 0))) : w.setRow g cs.toArray = rowT w g t cs := by
  unfold World.setRow rowT
  congr 1
  apply Array.ext'
  apply List.ext_getElem?
  intro i
  simp only [Array.toList_modify, List.getElem?_modify, Array.getElem?_toList]
  by_cases e : g = i
  · subst e; simp [h]
  · simp [e]
/-- the parameter's box and the result's -/
theorem box2 (w : World) (x : RT) : ∃ W, (w.alloc (.cells x.cells.toArray 29 (0, 0))).alloc (.cells rtZ 29 (0, 0)) = rT W w.heap.size x ∧ Below w.heap.size w W ∧ w.heap.size + 1 < W.heap.size ∧ W.heap[w.heap.size + 1]? = some (.cells rtZ 29 (0, 0)) := by
  refine ⟨(w.alloc (.cells x.cells.toArray 29 (0, 0))).alloc (.cells rtZ 29 (0, 0)), ?_, (((Ext.refl w).alloc _).alloc _).below, by simp, ?_⟩
  · refine (rowT_self _ _ _ _ ?_).symm
    rw [heap_alloc_old _ _ (by simp)]
    exact heap_alloc_new w _
  · have := heap_alloc_new (w.alloc (.cells x.cells.toArray 29 (0, 0))) (.cells rtZ 29 (0, 0))
    simpa using this

set_option maxRecDepth 100000 in
set_option maxHeartbeats 400000 in
theorem ren_any (x : RT) (on : Bool) (w : World) :
    Calls Tryd.prog 17 #[rtv x, .bool on] w fun e w' => e = .returned (rtv { x with on := on, len := if on then x.len else 0 }) ∧ Below w.heap.size w w' := by
  obtain ⟨W, hW, hB, hL, hZ⟩ := box2 w x
  cases on
  all_goals
    go_enter Tryd.func17, Tryd.ntmps17
    first | refine wp_region_lit ?_ | (refine wp_seq ?_; refine wp_region_lit ?_)
    refine wpList_boxTo rfl 29 _ rfl (some 2) rfl w.heap.size rfl x.cells.toArray rfl ?_
    refine wpList_allocTo rfl (some 4) rfl (.pointer (some ⟨(w.alloc (.cells x.cells.toArray 29 (0, 0))).heap.size, 0, none⟩)) (.cells rtZ 29 (0, 0)) (by kernel_rfl) ?_
    rw [show (w.alloc (.cells x.cells.toArray 29 (0, 0))).heap.size = w.heap.size + 1 by simp, hW]
    obtain ⟨c0, c1, c2, c3, c4, c5, c6, c7, c8, c9, c10, c11, c12, c13, c14, c15, c16, fz⟩ := rT_cf W w.heap.size x (by omega)
    generalize hv : rT W w.heap.size x = v at *
    go_upto_region 4 with (fail)
    subst hv
    (repeat (first | rw [rt1] | rw [rt6]))
    unfold rT
    first | refine wp_region_lit ?_ | (refine wp_seq ?_; refine wp_region_lit ?_)
    refine wpList_load_row rfl 29 _ rfl w.heap.size rfl 29 _ (0, 0) _ (rowT_at W w.heap.size 29 _ (by omega)) Tryd.underlying29 rfl (by kernel_rfl) ?_
    refine wpList_store_rowTo rfl 29 _ _ rfl rfl (w.heap.size + 1) _ rfl rfl 29 rtZ ((rowT_far W w.heap.size 29 _ _ (by omega)).trans hZ) (by kernel_rfl) rfl (rcells_one _) ?_
    rw [setRow_rowT _ _ _ 29 rtZ ((rowT_far W w.heap.size 29 _ _ (by omega)).trans hZ)]
    go_wp2
    refine bodyPost_ret (results_cell_row rfl _ _ (w.heap.size + 1) 29 _ (0, 0) _ rfl (rowT_at _ (w.heap.size + 1) 29 _ (by rw [rowT_size]; exact hL)) Tryd.underlying29 rfl (by kernel_rfl)) rfl ⟨rfl, ?_⟩
    exact rowT_below (rowT_below hB _ (Nat.le_refl _) _ _) _ (by omega) _ _

end Go.Proofs.YtgnafnjhbdefaaaDoor
