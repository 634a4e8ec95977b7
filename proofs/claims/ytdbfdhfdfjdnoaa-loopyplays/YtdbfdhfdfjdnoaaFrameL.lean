/- From an argument as the row reads it to the words of the walks: a scroll. No law is claimed here. -/
import Derived.Test.YtdbfdhfdfjdnoaaFrame
import Derived.Test.YtdbfdhfdfjdnoaaLy2
import Derived.Deep.Fields
namespace Go.Proofs.Ytdbfdhfdfjdnoaa
open Go.ChangeShapes Go.WideShapes Go.ChangeAt Go.RowKit Go.Deep

theorem wf_u16 {z : Int} (h : (Lit.int .u16 z).wf = true) : 0 ≤ z ∧ z < 65536 := by
  have := bounds_u16 h; omega

set_option maxRecDepth 100000 in
set_option maxHeartbeats 400000 in
/-- a scroll that came in by value -/
theorem arg_scroll {H : Type} {enc : TypeId × Value → H} {W : World} {v : Value} {d : DataW H} {p : List MemPlace} {r : Reach} {b0 : Nat} (hv : Value.okWide Try.prog W r b0 24 v)
    (h : DataW.Trod enc Try.prog W 0 (fun _ => true) true 24 v d p) :
    ∃ (a b x : Int) (wr : Bool), v = lv a b x wr ∧ LOk ⟨a, b, x, wr⟩ := by
  obtain ⟨cs, rfl, hsz⟩ := okWide_struct Try.underlying24 hv
  obtain ⟨fuel, hf0⟩ := h
  obtain ⟨ys, n, _, _, hlen, hyl, hf⟩ := DataW.trod_struct Try.underlying24 hf0
  have c1 : Try.prog.cellsOf 22 = 1 := by kernel_rfl
  have c2 : Try.prog.cellsOf 5 = 1 := by kernel_rfl
  have c3 : Try.prog.cellsOf 4 = 1 := by kernel_rfl
  have c4 : Try.prog.cellsOf 24 = 4 := by kernel_rfl
  rw [c4] at hlen
  have h0 := hf 0 _ rfl
  have h1 := hf 1 _ rfl
  have h2 := hf 2 _ rfl
  have h3 := hf 3 _ rfl
  have hyl' : ys.length = 4 := hyl
  clear hf0 hf
  obtain ⟨l⟩ := cs
  have hcl : Value.cells (.agg ⟨l⟩) = ⟨l⟩ := rfl
  rw [hcl] at hlen h0 h1 h2 h3
  match l, hlen, ys, hyl' with
  | [v0, v1, v2, v3], _, [y0, y1, y2, y3], _ =>
    have e0 : DataW.trod enc Try.prog W 0 (fun _ => true) true n 22 [v0] = some y0 := by simpa [c1] using h0
    have e1 : DataW.trod enc Try.prog W 0 (fun _ => true) true n 22 [v1] = some y1 := by simpa [c1] using h1
    have e2 : DataW.trod enc Try.prog W 0 (fun _ => true) true n 5 [v2] = some y2 := by simpa [c1, c2] using h2
    have e3 : DataW.trod enc Try.prog W 0 (fun _ => true) true n 4 [v3] = some y3 := by simpa [c1, c2, c3] using h3
    obtain ⟨z0, q0, _, w0⟩ := DataW.trod_int Try.underlying22 e0
    obtain ⟨z1, q1, _, w1⟩ := DataW.trod_int Try.underlying22 e1
    obtain ⟨z2, q2, _, w2⟩ := DataW.trod_int Try.underlying5 e2
    obtain ⟨z3, q3, _⟩ := DataW.trod_bool Try.underlying4 e3
    simp at q0 q1 q2 q3
    subst q0; subst q1; subst q2; subst q3
    exact ⟨z0, z1, z2, z3, rfl, wf_u16 w0, wf_u16 w1, wf_u8 w2⟩

end Go.Proofs.Ytdbfdhfdfjdnoaa
