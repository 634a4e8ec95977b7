/- Acts of layer 16 as arguments. No law is claimed here. -/
import Derived.Test.YtahoebnlihgobaaFrameX
import Derived.Test.YtahoebnlihgobaaPad5
namespace Go.Proofs.Ytahoebnlihgobaa
open Go.ChangeShapes Go.WideShapes Go.ChangeAt Go.RowKit Go.Deep Go.Joins

set_option maxRecDepth 100000 in
set_option maxHeartbeats 400000 in
theorem open_act {H : Type} {enc : TypeId × Value → H} {W : World} (fuel : Nat) (cs : List Value) (x : DataW H × List MemPlace) (h : DataW.trod enc Try.prog W 0 (fun _ => true) true fuel 31 cs = some x) :
    ∃ (r : Int × Int) (y : Int × Int), cs = shAct.raw r ∧ shAct.Ok W (· < W.heap.size) r y ∧ okAct y := by
  obtain ⟨ys, n, _, _, hlen, hyl, hf⟩ := DataW.trod_struct Try.underlying31 h
  have c1 : Try.prog.cellsOf 5 = 1 := by kernel_rfl
  have c4 : Try.prog.cellsOf 31 = 2 := by kernel_rfl
  rw [c4] at hlen
  have h0 := hf 0 _ rfl
  have h1 := hf 1 _ rfl
  have hyl' : ys.length = 2 := hyl
  match cs, hlen, ys, hyl' with
  | [v0, v1], _, [y0, y1], _ =>
    have e0 : DataW.trod enc Try.prog W 0 (fun _ => true) true n 5 [v0] = some y0 := by simpa [c1] using h0
    have e1 : DataW.trod enc Try.prog W 0 (fun _ => true) true n 5 [v1] = some y1 := by simpa [c1] using h1
    obtain ⟨z0, q0, _, w0⟩ := DataW.trod_int Try.underlying5 e0
    obtain ⟨z1, q1, _, w1⟩ := DataW.trod_int Try.underlying5 e1
    simp at q0 q1
    subst q0; subst q1
    have b0 := bounds_u8 w0
    have b1 := bounds_u8 w1
    exact ⟨(z0, z1), (z0, z1), rfl, rfl, ⟨by omega, by omega⟩, ⟨by omega, by omega⟩⟩

set_option maxRecDepth 100000 in
set_option maxHeartbeats 400000 in
theorem rd_acts {H : Type} {enc : TypeId × Value → H} {W : World} {a : Option Addr} {n c : Nat} {d : DataW H} {p : List MemPlace} (h : DataW.Trod enc Try.prog W 0 (fun _ => true) true 22 (.slice a n c) d p) :
    ∃ l : List (Int × Int), RdX shAct W (· < W.heap.size) a n c l ∧ c ≤ maxLen ∧ ∀ y ∈ l, okAct y := by
  obtain ⟨fuel, hf⟩ := h
  obtain ⟨a', n', c', xs, e, hr, hm, hq⟩ := openX shAct okAct Try.underlying22 (by kernel_rfl) open_act hf
  simp [Value.cells] at e
  obtain ⟨rfl, rfl, rfl⟩ := e
  exact ⟨xs, hr, hm, hq⟩

end Go.Proofs.Ytahoebnlihgobaa
