/- From an argument as the row reads it to the words of the walks: four bytes by value. No law is claimed here. -/
import Derived.Test.YtgnafnjhbdefaaaDoorFrame
import Derived.OpenShut
namespace Go.Proofs.YtgnafnjhbdefaaaDoor
open Go.ChangeShapes Go.WideShapes Go.ChangeAt Go.RowKit

theorem byteT {z : Int} (h : (Lit.int .u8 z).wf = true) : 0 ≤ z ∧ z < 256 := by
  have := bounds_u8 h; omega

set_option maxRecDepth 100000 in
set_option maxHeartbeats 400000 in
/-- four bytes that came in by value -/
theorem arg_4u8 {H : Type} {enc : TypeId × Value → H} {W : World} {v : Value} {d : DataW H} {p : List MemPlace} {r : Reach} {b0 : Nat} (hv : Value.okWide Tryd.prog W r b0 37 v)
    (h : DataW.Trod enc Tryd.prog W 0 (fun _ => true) true 37 v d p) :
    ∃ (a b x y : Int), v = .agg #[.int .u8 a, .int .u8 b, .int .u8 x, .int .u8 y] ∧ (0 ≤ a ∧ a < 256) ∧ (0 ≤ b ∧ b < 256) ∧ (0 ≤ x ∧ x < 256) ∧ (0 ≤ y ∧ y < 256) := by
  obtain ⟨cs, rfl, hsz, _⟩ : ∃ cs, v = .agg cs ∧ cs.size = Tryd.prog.cellsOf 37 ∧ Row.okWide Tryd.prog W r b0 37 cs := by
    have := hv
    simpa [Value.okWide, Tryd.underlying37] using this
  obtain ⟨fuel, hf0⟩ := h
  obtain ⟨ys, n, _, _, hlen, hyl, hf⟩ := DataW.trod_array Tryd.underlying37 hf0
  have c1 : Tryd.prog.cellsOf 5 = 1 := by kernel_rfl
  have c4 : Tryd.prog.cellsOf 37 = 4 := by kernel_rfl
  rw [c4] at hlen
  have h0 := hf 0 (by decide)
  have h1 := hf 1 (by decide)
  have h2 := hf 2 (by decide)
  have h3 := hf 3 (by decide)
  clear hf0 hf
  obtain ⟨l⟩ := cs
  have hcl : Value.cells (.agg ⟨l⟩) = ⟨l⟩ := rfl
  rw [hcl] at hlen h0 h1 h2 h3
  match l, hlen, ys, hyl with
  | [v0, v1, v2, v3], _, [y0, y1, y2, y3], _ =>
    have e0 : DataW.trod enc Tryd.prog W 0 (fun _ => true) true n 5 [v0] = some y0 := by simpa [c1] using h0
    have e1 : DataW.trod enc Tryd.prog W 0 (fun _ => true) true n 5 [v1] = some y1 := by simpa [c1] using h1
    have e2 : DataW.trod enc Tryd.prog W 0 (fun _ => true) true n 5 [v2] = some y2 := by simpa [c1] using h2
    have e3 : DataW.trod enc Tryd.prog W 0 (fun _ => true) true n 5 [v3] = some y3 := by simpa [c1] using h3
    obtain ⟨z0, q0, _, w0⟩ := DataW.trod_int Tryd.underlying5 e0
    obtain ⟨z1, q1, _, w1⟩ := DataW.trod_int Tryd.underlying5 e1
    obtain ⟨z2, q2, _, w2⟩ := DataW.trod_int Tryd.underlying5 e2
    obtain ⟨z3, q3, _, w3⟩ := DataW.trod_int Tryd.underlying5 e3
    simp at q0 q1 q2 q3
    subst q0; subst q1; subst q2; subst q3
    exact ⟨z0, z1, z2, z3, rfl, byteT w0, byteT w1, byteT w2, byteT w3⟩

end Go.Proofs.YtgnafnjhbdefaaaDoor
