/- Slices of bools as arguments. No law is claimed here. -/
import Derived.Test.YtkgccoghdalniaaFrame
import Derived.Deep.Grids
namespace Go.Proofs.Ytkgccoghdalniaa
open Go.ChangeShapes Go.WideShapes Go.ChangeAt Go.RowKit

def blv (x : Bool) : Value := .bool x
theorem rd_bools0 {H : Type} {enc : TypeId × Value → H} {P : Program} {W : World} {t e : TypeId} {a : Option Addr} {n c : Nat} {d : DataW H} {p : List MemPlace}
    (ht : P.underlying t = some (.slice e)) (he : P.underlying e = some .bool) (hc : P.cellsOf e = 1)
    (h : DataW.Trod enc P W 0 (fun _ => true) true t (.slice a n c) d p) :
    ∃ xs : List Bool, Rd blv W W.heap.size a n c xs ∧ c ≤ maxLen := by
  obtain ⟨fuel, hf⟩ := h
  rcases Go.Deep.open_bools ht he hc hf with ⟨hcs, _⟩ | ⟨x, l, c', B, hcs, _, hl, hm, hz, hcell⟩
  · simp [Value.cells] at hcs
    obtain ⟨rfl, rfl, rfl⟩ := hcs
    exact ⟨[], Rd.nil, by simp [maxLen]⟩
  · simp [Value.cells] at hcs
    obtain ⟨rfl, rfl, rfl⟩ := hcs
    refine ⟨(List.range n).map B, ⟨by simp, hl, fun j hj => ?_⟩, hm⟩
    have hj' : j < n := by simpa using hj
    have hcj := hcell j (by omega)
    obtain ⟨b, off, rfl⟩ := addr_none (hcell 0 (by omega))
    rw [addr_add] at hcj
    refine ⟨b, off, rfl, World.block_lt_of_cell? W _ hcj, ?_⟩
    rw [hcj]
    simp [blv]
theorem rd_bools {H : Type} {enc : TypeId × Value → H} {W : World} {a : Option Addr} {n c : Nat} {d : DataW H} {p : List MemPlace} (h : DataW.Trod enc Try.prog W 0 (fun _ => true) true 38 (.slice a n c) d p) :
    ∃ xs : List Bool, Rd blv W W.heap.size a n c xs ∧ c ≤ maxLen ∧ True := by
  obtain ⟨xs, h1, h2⟩ := rd_bools0 Try.underlying38 Try.underlying4 (by kernel_rfl) h
  exact ⟨xs, h1, h2, trivial⟩

end Go.Proofs.Ytkgccoghdalniaa
