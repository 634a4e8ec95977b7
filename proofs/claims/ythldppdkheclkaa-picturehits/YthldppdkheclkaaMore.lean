/- A world with more in it, told by 'Below': open rules, so that a walk reads and writes old blocks behind any call that keeps what there was. No law is claimed here. -/
import Derived.Test.YthldppdkheclkaaAlu1
namespace Go.Proofs.Ythldppdkheclkaa
open Go.RowKit

/-- w with more blocks, and some draws or other -/
def more (w : World) (os : List Obj) (d : Nat) : World := { os.foldl World.alloc w with drawn := d }
theorem fold_heap (os : List Obj) : ∀ w : World, (os.foldl World.alloc w).heap = w.heap ++ os.toArray := by
  induction os with
  | nil => intro w; simp
  | cons o os ih => intro w; rw [List.foldl_cons, ih (w.alloc o)]; show w.heap.push o ++ _ = _; simp
theorem fold_rest (os : List Obj) : ∀ w : World, (os.foldl World.alloc w).os = w.os ∧ (os.foldl World.alloc w).tape = w.tape ∧ (os.foldl World.alloc w).output = w.output := by
  induction os with
  | nil => intro w; exact ⟨rfl, rfl, rfl⟩
  | cons o os ih => intro w; exact ih (w.alloc o)
theorem more_of {w w' : World} (h : Below w.heap.size w w') : ∃ os d, w' = more w os d := by
  refine ⟨w'.heap.toList.drop w.heap.size, w'.drawn, ?_⟩
  have hh : w'.heap = w.heap ++ (w'.heap.toList.drop w.heap.size).toArray := by
    apply Array.ext'
    rw [Array.toList_append]
    show w'.heap.toList = w.heap.toList ++ w'.heap.toList.drop w.heap.size
    have ht : w.heap.toList = w'.heap.toList.take w.heap.size := by
      apply List.ext_getElem?
      intro i
      rw [List.getElem?_take]
      by_cases hi : i < w.heap.size
      · rw [if_pos hi]
        have := h.block i hi
        rw [Array.getElem?_toList, Array.getElem?_toList, this]
      · rw [if_neg hi, List.getElem?_eq_none (by simpa using hi)]
    rw [ht]
    exact (List.take_append_drop w.heap.size w'.heap.toList).symm
  obtain ⟨f1, f2, f3⟩ := fold_rest (w'.heap.toList.drop w.heap.size) w
  have g1 := fold_heap (w'.heap.toList.drop w.heap.size) w
  obtain ⟨hp, tp, dr, so, ou⟩ := w'
  have e1 := h.os
  have e2 := h.tape
  have e3 := h.output
  unfold more
  simp only at *
  rw [World.mk.injEq]
  exact ⟨hh.trans g1.symm, e2.trans f2.symm, rfl, e1.trans f1.symm, e3.trans f3.symm⟩
theorem more_below {B : Nat} {a w : World} (h : Below B a w) (hB : B ≤ w.heap.size) (os : List Obj) (d : Nat) : Below B a (more w os d) := by
  have := fold_alloc_below os B a w h hB
  exact ⟨this.os, this.tape, this.output, this.size, this.block⟩
theorem more_self (w : World) (os : List Obj) (d : Nat) : Below w.heap.size w (more w os d) := more_below (Below.refl _ w) (Nat.le_refl _) os d
theorem more_cell (w : World) (os : List Obj) (d : Nat) (p : Addr) (h : p.block < w.heap.size) : (more w os d).cell? p = w.cell? p := (more_self w os d).cell h
theorem more_frozen (w : World) (os : List Obj) (d : Nat) (p : Addr) (h : p.block < w.heap.size) : (more w os d).frozen? p = w.frozen? p := (more_self w os d).frozen h
theorem more_lt (w : World) (os : List Obj) (d : Nat) (b : Nat) (h : b < w.heap.size) : b < (more w os d).heap.size := Nat.lt_of_lt_of_le h (more_self w os d).size
theorem more_setCell (w : World) (os : List Obj) (d : Nat) (n i : Nat) (v : Value) (h : n < w.heap.size) : (more w os d).setCell ⟨n, i, none⟩ v = more (w.setCell ⟨n, i, none⟩ v) os d := by
  have := fold_setCell os w n i v h
  unfold more
  rw [← this]
  exact rfl
theorem more_drew (w : World) (os : List Obj) (d : Nat) : more w.drew os d = more w os d := by
  have := drewN_alloc_fold os w 1
  unfold more
  rw [show w.drew = w.drewN 1 from rfl, this]
  exact rfl
theorem drew_more (w : World) (os : List Obj) (d : Nat) : (more w os d).drew = more w os (d + 1) := rfl
theorem more_more (w : World) (os os' : List Obj) (d d' : Nat) : more (more w os d) os' d' = more w (os ++ os') d' := by
  unfold more
  rw [List.foldl_append]
  have : ∀ (l : List Obj) (v : World) (k k' : Nat), ({ l.foldl World.alloc { v with drawn := k } with drawn := k' } : World) = { l.foldl World.alloc v with drawn := k' } := by
    intro l
    induction l with
    | nil => intro v k k'; rfl
    | cons o l ih => intro v k k'; exact ih (v.alloc o) k k'
  exact this os' _ d d'
/-- blocks that were made are the same whatever was written into older ones -/
theorem more_new {v w : World} (hs : v.heap.size = w.heap.size) (os : List Obj) (d : Nat) (p : Addr) (h : w.heap.size ≤ p.block) : (more v os d).cell? p = (more w os d).cell? p := by
  apply World.cell?_of_block
  show (os.foldl World.alloc v).heap[p.block]? = (os.foldl World.alloc w).heap[p.block]?
  rw [fold_heap, fold_heap, Array.getElem?_append_right (by omega), Array.getElem?_append_right (by omega), hs]
theorem more_newFz {v w : World} (hs : v.heap.size = w.heap.size) (os : List Obj) (d : Nat) (p : Addr) (h : w.heap.size ≤ p.block) : (more v os d).frozen? p = (more w os d).frozen? p := by
  apply World.frozen?_of_block
  show (os.foldl World.alloc v).heap[p.block]? = (os.foldl World.alloc w).heap[p.block]?
  rw [fold_heap, fold_heap, Array.getElem?_append_right (by omega), Array.getElem?_append_right (by omega), hs]
theorem more_size {v w : World} (hs : v.heap.size = w.heap.size) (os : List Obj) (d : Nat) : (more v os d).heap.size = (more w os d).heap.size := by
  show (os.foldl World.alloc v).heap.size = (os.foldl World.alloc w).heap.size
  rw [fold_heap, fold_heap]; simp [hs]

end Go.Proofs.Ythldppdkheclkaa
