/- Contract of the document's Parse (kotatsuref05). No law is claimed here. -/
import Derived.Test.YtghbgehmaejggaaDoorBlk8
import Derived.Deep.DeepCutAuto
namespace Go.Proofs.YtghbgehmaejggaaDoor
open Go.RowKit

/-- Join of one slice, the row of which was laid some time ago -/
theorem join_one (w : World) (g : Nat) (A1 : Option Addr) (n1 c1 : Nat) (xs : List UInt8) (hr : RdE sv w (some ⟨g, 0, none⟩) 1 1 [(A1, n1, c1)]) (h1 : RdE bv w A1 n1 c1 xs) (ht : n1 ≤ 1099511627776) :
    Calls Tryd.prog 5 #[.slice (some ⟨g, 0, none⟩) 1 1] w (RetL bv 5 w xs) := by
  have := join_any _ 1 1 w.heap.size [(A1, n1, c1)] [xs] w hr ⟨rfl, fun j s ys hs hy => by
      match j, hs, hy with
      | 0, hs, hy => simp at hs hy; subst hs; subst hy; exact h1⟩ (Nat.le_refl _) (by omega) (by simp [Rd.len h1]; omega)
  simpa using this

theorem OE.drewN {ρ α : Type} {T : Shape ρ α} {w : World} {base : Nat} {e : TypeId} {Aw : Option Addr} {n c : Nat} {rs : List ρ} {xs : List α} (h : OE T w base e Aw n c rs xs) {k : Nat} : OE T (w.drewN k) base e Aw n c rs xs := OE.below h (Still.below ⟨k, rfl⟩ _)
theorem RdE.svOne {w : World} {e : TypeId} {fr : Nat × Nat} {A : Option Addr} {n c g : Nat} (hg : g = w.heap.size) : RdE sv (w.alloc (.cells #[.slice A n c] e fr)) (some ⟨g, 0, none⟩) 1 1 [(A, n, c)] := RdE.made (f := sv) rfl hg rfl
theorem sizeN_zero (h h' : List UInt8) : sizeN 0 h = sizeN 0 h' := rfl

end Go.Proofs.YtghbgehmaejggaaDoor
