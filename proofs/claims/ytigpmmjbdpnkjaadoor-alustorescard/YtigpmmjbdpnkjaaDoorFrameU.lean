/- From an argument as the row reads it to the words of the walks: a unit of registers. No law is claimed here. -/
import Derived.Test.YtigpmmjbdpnkjaaDoorFrame
import Derived.Test.YtigpmmjbdpnkjaaDoorAluM
import Derived.Deep.Fields
namespace Go.Proofs.YtigpmmjbdpnkjaaDoor
open Go.ChangeShapes Go.WideShapes Go.ChangeAt Go.RowKit Go.Deep

set_option maxRecDepth 100000 in
set_option maxHeartbeats 400000 in
/-- a unit that came in by value -/
theorem arg_unit {H : Type} {enc : TypeId × Value → H} {W : World} {v : Value} {d : DataW H} {p : List MemPlace} {r : Reach} {b0 : Nat} (hv : Value.okWide Tryd.prog W r b0 23 v)
    (h : DataW.Trod enc Tryd.prog W 0 (fun _ => true) true 23 v d p) :
    ∃ (a x y s q : Int), v = uv a x y s q ∧ Ok ⟨a, x, y, s, q⟩ := by
  obtain ⟨cs, rfl, hsz⟩ := okWide_struct Tryd.underlying23 hv
  obtain ⟨fuel, hf0⟩ := h
  obtain ⟨ys, n, _, _, hlen, hyl, hf⟩ := DataW.trod_struct Tryd.underlying23 hf0
  have c1 : Tryd.prog.cellsOf 5 = 1 := by kernel_rfl
  have c4 : Tryd.prog.cellsOf 23 = 5 := by kernel_rfl
  rw [c4] at hlen
  have h0 := hf 0 _ rfl
  have h1 := hf 1 _ rfl
  have h2 := hf 2 _ rfl
  have h3 := hf 3 _ rfl
  have h4 := hf 4 _ rfl
  have hyl' : ys.length = 5 := hyl
  clear hf0 hf
  obtain ⟨l⟩ := cs
  have hcl : Value.cells (.agg ⟨l⟩) = ⟨l⟩ := rfl
  rw [hcl] at hlen h0 h1 h2 h3 h4
  match l, hlen, ys, hyl' with
  | [v0, v1, v2, v3, v4], _, [y0, y1, y2, y3, y4], _ =>
    have e0 : DataW.trod enc Tryd.prog W 0 (fun _ => true) true n 5 [v0] = some y0 := by simpa [c1] using h0
    have e1 : DataW.trod enc Tryd.prog W 0 (fun _ => true) true n 5 [v1] = some y1 := by simpa [c1] using h1
    have e2 : DataW.trod enc Tryd.prog W 0 (fun _ => true) true n 5 [v2] = some y2 := by simpa [c1] using h2
    have e3 : DataW.trod enc Tryd.prog W 0 (fun _ => true) true n 5 [v3] = some y3 := by simpa [c1] using h3
    have e4 : DataW.trod enc Tryd.prog W 0 (fun _ => true) true n 5 [v4] = some y4 := by simpa [c1] using h4
    obtain ⟨z0, q0, _, w0⟩ := DataW.trod_int Tryd.underlying5 e0
    obtain ⟨z1, q1, _, w1⟩ := DataW.trod_int Tryd.underlying5 e1
    obtain ⟨z2, q2, _, w2⟩ := DataW.trod_int Tryd.underlying5 e2
    obtain ⟨z3, q3, _, w3⟩ := DataW.trod_int Tryd.underlying5 e3
    obtain ⟨z4, q4, _, w4⟩ := DataW.trod_int Tryd.underlying5 e4
    simp at q0 q1 q2 q3 q4
    subst q0; subst q1; subst q2; subst q3; subst q4
    exact ⟨z0, z1, z2, z3, z4, rfl, wf_u8 w0, wf_u8 w1, wf_u8 w2, wf_u8 w3, wf_u8 w4⟩

end Go.Proofs.YtigpmmjbdpnkjaaDoor
