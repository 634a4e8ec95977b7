/- Words for regions whose order is open: what is there stays there, whatever comes in between; no side conditions. No law is claimed here. -/
import Derived.Test.YtkgccoghdalniaaMem
namespace Go.Proofs.Ytkgccoghdalniaa
open Go.RowKit

/-- reads as xs, in what there is now -/
def RdE {α : Type} (f : α → Value) (w : World) (A : Option Addr) (n c : Nat) (xs : List α) : Prop := Rd f w w.heap.size A n c xs
/-- nothing that was there in w has changed -/
def BlE (w w' : World) : Prop := Below w.heap.size w w'
/-- a cell of what there is now -/
def Has (w : World) (b i : Nat) (v : Value) : Prop := b < w.heap.size ∧ w.cell? ⟨b, i, none⟩ = some v
section
variable {α : Type} {f : α → Value} {w w' : World} {A : Option Addr} {n c : Nat} {xs : List α}
theorem RdE.alloc (h : RdE f w A n c xs) {o : Obj} : RdE f (w.alloc o) A n c xs := (Rd.alloc h (Nat.le_refl _) o).more (by simp)
theorem RdE.drew (h : RdE f w A n c xs) : RdE f w.drew A n c xs := Rd.drew h
theorem RdE.drewN (h : RdE f w A n c xs) {k : Nat} : RdE f (w.drewN k) A n c xs := Rd.drewN h k
theorem RdE.below (h : RdE f w A n c xs) (hb : Below w.heap.size w w') : RdE f w' A n c xs := (Rd.below h hb).more hb.size
theorem RdE.still (h : RdE f w A n c xs) (hs : Still w w') : RdE f w' A n c xs := h.below (hs.below _)
theorem RdE.own {base : Nat} {e : TypeId} (h : Own f w base e A n c xs) : RdE f w A n c xs := h.rd
theorem RdE.of {B : Nat} (h : Rd f w B A n c xs) (hB : B ≤ w.heap.size) : RdE f w A n c xs := h.more hB
theorem RdE.one {e : TypeId} {fr : Nat × Nat} {x : α} : RdE f (w.alloc (.cells #[f x] e fr)) (some ⟨w.heap.size, 0, none⟩) 1 1 [x] :=
  (Rd.made w e fr [x] _ _ 1 rfl rfl rfl).more (by simp)
theorem RdE.made {e : TypeId} {fr : Nat × Nat} {cs : Array Value} {g m : Nat} (hcs : cs = (xs.map f).toArray) (hg : g = w.heap.size) (hn : xs.length = m) : RdE f (w.alloc (.cells cs e fr)) (some ⟨g, 0, none⟩) m m xs :=
  (Rd.made w e fr xs cs g m hcs hg hn).more (by subst hg; simp)
end
section
variable {w w1 w2 : World}
theorem BlE.refl (w : World) : BlE w w := Below.refl _ _
theorem BlE.alloc (h : BlE w w1) {o : Obj} : BlE w (w1.alloc o) := Below.alloc h h.size o
theorem BlE.drew (h : BlE w w1) : BlE w w1.drew := Below.drew h
theorem BlE.drewN (h : BlE w w1) {k : Nat} : BlE w (w1.drewN k) := Below.trans h (Still.below ⟨k, rfl⟩ _)
theorem BlE.below (h : BlE w w1) (hb : Below w1.heap.size w1 w2) : BlE w w2 := Below.trans h (hb.mono h.size)
theorem BlE.still (h : BlE w w1) (hs : Still w1 w2) : BlE w w2 := Below.trans h (hs.below _)
end
section
variable {w w' : World} {b i : Nat} {v : Value}
theorem Has.cell (h : Has w b i v) : w.cell? ⟨b, i, none⟩ = some v := h.2
theorem Has.alloc (h : Has w b i v) {o : Obj} : Has (w.alloc o) b i v := ⟨by have := h.1; simp; omega, (World.cell?_alloc_lt w o _ h.1).trans h.2⟩
theorem Has.drew (h : Has w b i v) : Has w.drew b i v := h
theorem Has.drewN (h : Has w b i v) {k : Nat} : Has (w.drewN k) b i v := h
theorem Has.below (h : Has w b i v) (hb : Below w.heap.size w w') : Has w' b i v := ⟨Nat.lt_of_lt_of_le h.1 hb.size, (hb.cell (p := ⟨b, i, none⟩) h.1).trans h.2⟩
theorem Has.still (h : Has w b i v) (hs : Still w w') : Has w' b i v := h.below (hs.below _)
theorem Has.made {cs : Array Value} {e : TypeId} {fr : Nat × Nat} {g : Nat} (hg : g = w.heap.size) (hi : cs[i]? = some v) : Has (w.alloc (.cells cs e fr)) g i v := by
  subst hg
  exact ⟨by simp, by rw [cell_of_row _ _ _ _ _ _ (heap_alloc_new w _)]; exact hi⟩
end

theorem RdE.byte {w : World} {e : TypeId} {fr : Nat × Nat} {x : UInt8} {z : Int} {g : Nat} (hz : z = (x.toNat : Int)) (hg : g = w.heap.size) : RdE bv (w.alloc (.cells #[.int .u8 z] e fr)) (some ⟨g, 0, none⟩) 1 1 [x] := by
  subst hz; subst hg; exact RdE.one (f := bv)
theorem RdE.oneB {w : World} {e : TypeId} {fr : Nat × Nat} {x : UInt8} : RdE bv (w.alloc (.cells #[.int .u8 (x.toNat : Int)] e fr)) (some ⟨w.heap.size, 0, none⟩) 1 1 [x] := RdE.one (f := bv)

/-- Join of slices as they are laid for the call -/
theorem join_list (w : World) (g k : Nat) (cs : Array Value) (ss : List (Option Addr × Nat × Nat)) (yss : List (List UInt8)) (hg : g = w.heap.size) (hcs : cs = (ss.map sv).toArray) (hk : ss.length = k) (hl : ss.length = yss.length)
    (hr : ∀ (j : Nat) (s : Option Addr × Nat × Nat) (ys : List UInt8), ss[j]? = some s → yss[j]? = some ys → RdE bv w s.1 s.2.1 s.2.2 ys) (ht : yss.flatten.length ≤ 1099511627776) (hn : k ≤ 1000) :
    Calls Try.prog 6 #[.slice (some ⟨g, 0, none⟩) k k] (w.alloc (.cells cs 23)) (RetL bv 5 w yss.flatten) := by
  subst hg; subst hk
  have := join_any _ ss.length ss.length (w.heap.size + 1) ss yss _ (Rd.made (f := sv) w 23 (0, 0) ss cs _ ss.length hcs rfl rfl)
    ⟨hl, fun j s ys hs hy => (Rd.alloc (hr j s ys hs hy) (Nat.le_refl _) _).more (by omega)⟩ (by simp) (by omega) ht
  exact this.mono fun e w' h => RetL.from_alloc h

end Go.Proofs.Ytkgccoghdalniaa
