/- ToneWaves' walk: its parts. No law is claimed here. -/
import Derived.Test.YtgnafnjhbdefaaaDoorTr16
set_option linter.unusedSimpArgs false
set_option linter.unusedVariables false
namespace Go.Proofs.YtgnafnjhbdefaaaDoor
open Go.RowKit Go.Great
variable {w0 v : World} {m X : Nat} {s s' : TS} {x : RT} {bs : List Int}

/-- behind the birth of the document's box -/
theorem BX.birth (h : BW w0 m s x.row x.cr bs v) (a : Array Value) :
    BX w0 m v.heap.size s x bs (rowT (v.alloc (.cells a 29 (0, 0))) v.heap.size 29 x.cells) := by
  have hrow := h.rowR
  obtain ⟨⟨w2, rfl, h1, h2, hb2, hr2⟩, h3, h4, h5⟩ := h
  have hs : (stT w2 m s).heap.size = w2.heap.size := rowT_size _ _ _ _
  have hb : Below (stT w2 m s).heap.size (stT w2 m s) ((stT w2 m s).alloc (.cells a 29 (0, 0))) := ((Ext.refl _).alloc _).below
  have hz : ((stT w2 m s).alloc (.cells a 29 (0, 0))).heap.size = (stT w2 m s).heap.size + 1 := by simp
  obtain ⟨os, d, e0⟩ := more_of hb
  rw [e0] at hz ⊢
  have e : more (stT w2 m s) os d = stT (more w2 os d) m s := rowT_more _ _ _ _ _ _ h1
  rw [e] at hz ⊢
  rw [hs] at hz ⊢
  have hz2 : (stT (more w2 os d) m s).heap.size = (more w2 os d).heap.size := rowT_size _ _ _ _
  have hlm : w2.heap.size < (more w2 os d).heap.size := by omega
  have hnm : ∀ g o, x.row = some ⟨g, o, none⟩ → g ≠ m ∧ g ≠ w2.heap.size := fun g o hA => by
    obtain ⟨l1, l2, g', o', hA', hg', hc⟩ := hr2
    have e1 : (some ⟨g, o, none⟩ : Option Addr) = some ⟨g', o', none⟩ := hA.symm.trans hA'
    simp only [Option.some.injEq, Addr.mk.injEq] at e1
    exact ⟨h5 g o hA, by omega⟩
  exact ⟨⟨rowT (more w2 os d) w2.heap.size 29 x.cells, rowT_comm _ _ _ _ _ _ _ (by omega), by rw [rowT_size]; omega, (h2.below (more_self _ _ _)).rowX _ (by omega) _ _, rowT_below (hb2.trans ((more_self w2 os d).mono (Nat.le_of_lt h1))) _ (by omega) _ _, (hr2.up (more_self _ _ _)).far _ _ _ (fun g o hA => (hnm g o hA).2), rowT_at _ _ _ _ hlm⟩, h3, h4, h1, hnm⟩
theorem BX.below (h : BX w0 m X s x bs v) : Below m w0 v := by
  obtain ⟨⟨w2, rfl, h1, h2, hb2, hr2, hx⟩, h3, h4, h5, h6⟩ := h
  exact rowT_below hb2 m (Nat.le_refl _) _ _

end Go.Proofs.YtgnafnjhbdefaaaDoor
