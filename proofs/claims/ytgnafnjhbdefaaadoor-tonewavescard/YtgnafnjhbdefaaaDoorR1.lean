/- Contracts of the helpers of package kotatsuref01 that work on bytes: Cut, Same, Join. No law is claimed here. -/
import Derived.Test.YtgnafnjhbdefaaaDoorBase
namespace Go.Proofs.YtgnafnjhbdefaaaDoor
open Go.RowKit

theorem take_take_snoc {α : Type} (xs : List α) (k M : Nat) (h : k < xs.length) (hM : k < M) : (xs.take (k + 1)).take M = (xs.take k).take M ++ [xs[k]] := by
  rw [List.take_take, List.take_take, Nat.min_eq_right (by omega), Nat.min_eq_right (by omega)]
  exact List.take_succ_eq_append_getElem h
theorem take_take_same {α : Type} (xs : List α) (k M : Nat) (hM : M ≤ k) : (xs.take (k + 1)).take M = (xs.take k).take M := by
  rw [List.take_take, List.take_take, Nat.min_eq_left (by omega), Nat.min_eq_left (by omega)]

/-- nothing was done but reading, in whatever order -/
def Still (w w' : World) : Prop := ∃ q, w' = w.drewN q
theorem Still.more {w w' : World} (h : Still w w') (k : Nat) : Still w (w'.drewN k) := by
  obtain ⟨q, rfl⟩ := h
  exact ⟨q + k, by simp⟩
theorem Still.below {w w' : World} (h : Still w w') (B : Nat) : Below B w w' := by
  obtain ⟨q, rfl⟩ := h
  exact ⟨rfl, rfl, rfl, Nat.le_refl _, fun _ _ => rfl⟩

def Agree (xs ys : List UInt8) (k : Nat) : Prop := xs.take k = ys.take k
theorem Agree.succ {xs ys : List UInt8} {k : Nat} (h : Agree xs ys k) (h1 : k < xs.length) (h2 : k < ys.length) (e : xs[k] = ys[k]) : Agree xs ys (k + 1) := by
  unfold Agree at *
  rw [List.take_succ_eq_append_getElem h1, List.take_succ_eq_append_getElem h2, h, e]

/-- a slice as an element of a slice -/
def sv (s : Option Addr × Nat × Nat) : Value := .slice s.1 s.2.1 s.2.2
/-- the slices ss read as the lists yss -/
def Rds (w : World) (B : Nat) (ss : List (Option Addr × Nat × Nat)) (yss : List (List UInt8)) : Prop :=
  ss.length = yss.length ∧ ∀ (j : Nat) (s : Option Addr × Nat × Nat) (ys : List UInt8), ss[j]? = some s → yss[j]? = some ys → Rd bv w B s.1 s.2.1 s.2.2 ys

theorem flatten_take_snoc {α : Type} (yss : List (List α)) (k : Nat) (h : k < yss.length) : (yss.take (k + 1)).flatten = (yss.take k).flatten ++ yss[k] := by
  rw [List.take_succ_eq_append_getElem h, List.flatten_append, List.flatten_cons, List.flatten_nil, List.append_nil]
theorem flatten_take_le {α : Type} (yss : List (List α)) (k : Nat) : ((yss.take k).flatten).length ≤ yss.flatten.length := by
  have h : (yss.take k).flatten ++ (yss.drop k).flatten = yss.flatten := by rw [← List.flatten_append, List.take_append_drop]
  rw [← h]; simp

/-- a block that was made of some elements reads as them (marked or not) -/
theorem Rd.made {α : Type} {f : α → Value} (w : World) (e : TypeId) (fr : Nat × Nat) (xs : List α) (cs : Array Value) (g n : Nat) (hcs : cs = (xs.map f).toArray) (hg : g = w.heap.size) (hn : xs.length = n) :
    Rd f (w.alloc (.cells cs e fr)) (g + 1) (some ⟨g, 0, none⟩) n n xs := by
  subst hcs; subst hg; subst hn
  refine ⟨rfl, Nat.le_refl _, fun j hj => ⟨_, _, rfl, by omega, ?_⟩⟩
  rw [cell_of_row _ _ _ _ _ _ (heap_alloc_new w _)]
  simp [hj]

theorem RetL.from_alloc {α : Type} {f : α → Value} {e : TypeId} {w : World} {o : Obj} {xs : List α} {r : Ending} {w' : World} (h : RetL f e (w.alloc o) xs r w') : RetL f e w xs r w' := by
  obtain ⟨A, n, c, rfl, ho, hb⟩ := h
  have hs : (w.alloc o).heap.size = w.heap.size + 1 := by simp
  rw [hs] at ho hb
  exact ⟨A, n, c, rfl, ho.lower (by omega), ((Below.refl _ _).alloc (Nat.le_refl _) o).trans (hb.mono (by omega))⟩

end Go.Proofs.YtgnafnjhbdefaaaDoor
