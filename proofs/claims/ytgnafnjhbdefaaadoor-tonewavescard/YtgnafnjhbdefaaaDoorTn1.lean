/- Worlds in which one block is a row of cells that are known. No law is claimed here. -/
import Derived.Test.YtgnafnjhbdefaaaDoorMore
namespace Go.Proofs.YtgnafnjhbdefaaaDoor
open Go.RowKit

/-- w with the block n made of the cells l -/
def rowT (w : World) (n : Nat) (t : TypeId) (l : List Value) : World := { w with heap := w.heap.modify n fun _ => .cells l.toArray t (0, 0) }
theorem rowT_size (w : World) (n : Nat) (t : TypeId) (l : List Value) : (rowT w n t l).heap.size = w.heap.size := by simp [rowT]
theorem rowT_at (w : World) (n : Nat) (t : TypeId) (l : List Value) (h : n < w.heap.size) : (rowT w n t l).heap[n]? = some (.cells l.toArray t (0, 0)) := by
  simp [rowT, h, Array.getElem_modify]
theorem rowT_far (w : World) (n : Nat) (t : TypeId) (l : List Value) (b : Nat) (h : b ≠ n) : (rowT w n t l).heap[b]? = w.heap[b]? := by
  simp [rowT, Array.getElem?_modify, Ne.symm h]
theorem rowT_cell (w : World) (n : Nat) (t : TypeId) (l : List Value) (h : n < w.heap.size) (i : Nat) : (rowT w n t l).cell? ⟨n, i, none⟩ = l[i]? := by
  simp [World.cell?, rowT_at w n t l h]
theorem rowT_frozen (w : World) (n : Nat) (t : TypeId) (l : List Value) (i : Nat) : (rowT w n t l).frozen? ⟨n, i, none⟩ = false := by
  by_cases h : n < w.heap.size
  · simp [World.frozen?, rowT_at w n t l h]
  · have : (rowT w n t l).heap[n]? = none := by simp [rowT]; omega
    simp [World.frozen?, this]
theorem rowT_cellFar (w : World) (n : Nat) (t : TypeId) (l : List Value) (p : Addr) (h : p.block ≠ n) : (rowT w n t l).cell? p = w.cell? p := World.cell?_of_block (rowT_far w n t l _ h)
theorem rowT_frozenFar (w : World) (n : Nat) (t : TypeId) (l : List Value) (p : Addr) (h : p.block ≠ n) : (rowT w n t l).frozen? p = w.frozen? p := World.frozen?_of_block (rowT_far w n t l _ h)
theorem modify_modify (a : Array Obj) (n : Nat) (f g : Obj → Obj) : (a.modify n f).modify n g = a.modify n (g ∘ f) := by
  apply Array.ext'
  apply List.ext_getElem?
  intro i
  simp [List.getElem?_modify, Array.toList_modify]
  by_cases h : n = i
  · subst h; simp; rfl
  · simp [h]; exact Option.map_id'
theorem rowT_set (w : World) (n : Nat) (t : TypeId) (l : List Value) (i : Nat) (v : Value) : (rowT w n t l).setCell ⟨n, i, none⟩ v = rowT w n t (l.set i v) := by
  unfold rowT World.setCell
  simp only [modify_modify]
  congr 2
  funext o
  simp [Function.comp]
theorem rowT_rowT (w : World) (n : Nat) (t t' : TypeId) (l l' : List Value) : rowT (rowT w n t l) n t' l' = rowT w n t' l' := by
  unfold rowT
  simp only [modify_modify]
  congr 2
theorem rowT_self (w : World) (n : Nat) (t : TypeId) (l : List Value) (h : w.heap[n]? = some (.cells l.toArray t (0, 0))) : rowT w n t l = w := by
  have : w.heap.modify n (fun _ => .cells l.toArray t (0, 0)) = w.heap := by
    apply Array.ext'
    apply List.ext_getElem?
    intro i
    simp [List.getElem?_modify, Array.toList_modify]
    by_cases e : n = i
    · subst e; simp [h]
    · simp [e]
  unfold rowT
  rw [this]
theorem rowT_drewN (w : World) (n : Nat) (t : TypeId) (l : List Value) (q : Nat) : (rowT w n t l).drewN q = rowT (w.drewN q) n t l := by
  induction q with
  | zero => rfl
  | succ q ih => exact congrArg World.drew ih
theorem rowT_drew (w : World) (n : Nat) (t : TypeId) (l : List Value) : (rowT w n t l).drew = rowT w.drew n t l := rfl
theorem rowT_alloc (w : World) (n : Nat) (t : TypeId) (l : List Value) (o : Obj) (h : n < w.heap.size) : (rowT w n t l).alloc o = rowT (w.alloc o) n t l := by
  unfold rowT World.alloc
  simp only
  congr 1
  apply Array.ext'
  apply List.ext_getElem?
  intro i
  simp [List.getElem?_modify, Array.toList_modify, Array.toList_push, List.getElem?_append]
  by_cases e : n = i
  · subst e; simp [h]
  · simp [e]
theorem rowT_fold (os : List Obj) (n : Nat) (t : TypeId) (l : List Value) : ∀ w : World, n < w.heap.size → os.foldl World.alloc (rowT w n t l) = rowT (os.foldl World.alloc w) n t l := by
  induction os with
  | nil => intro w _; rfl
  | cons o os ih =>
    intro w h
    rw [List.foldl_cons, rowT_alloc w n t l o h, ih (w.alloc o) (by simp; omega)]
    rfl
theorem rowT_ext {w w' : World} {n : Nat} {t : TypeId} {l : List Value} (h : n < w.heap.size) (hE : Ext (rowT w n t l) w') : ∃ w2, w' = rowT w2 n t l ∧ Ext w w2 := by
  obtain ⟨os, q, rfl⟩ := hE
  refine ⟨ext w os q, ?_, os, q, rfl⟩
  unfold ext
  rw [rowT_fold os n t l w h, rowT_drewN]
theorem rowT_new (w : World) (t : TypeId) (l : List Value) : w.alloc (.cells l.toArray t (0, 0)) = rowT (w.alloc (.cells l.toArray t (0, 0))) w.heap.size t l :=
  (rowT_self _ _ _ _ (heap_alloc_new w _)).symm
theorem rowT_below {B : Nat} {a w : World} (h : Below B a w) (n : Nat) (hB : B ≤ n) (t : TypeId) (l : List Value) : Below B a (rowT w n t l) :=
  ⟨h.os, h.tape, h.output, by rw [rowT_size]; exact h.size, fun i hi => by rw [rowT_far w n t l i (by omega)]; exact h.block i hi⟩

end Go.Proofs.YtgnafnjhbdefaaaDoor
