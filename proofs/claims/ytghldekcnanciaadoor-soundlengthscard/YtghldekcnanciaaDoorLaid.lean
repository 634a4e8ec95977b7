/- What the row's 'laid' gives a walk: arrays of ints. No law is claimed here. -/
import Derived.Test.YtghldekcnanciaaDoorFrame
import Derived.Test.YtghldekcnanciaaDoorTie
import Derived.Test.YtghldekcnanciaaDoorCards
import Derived.LaidMore
import Derived.Stop.Joined
import Derived.SevenTiedAt
namespace Go.Proofs.YtghldekcnanciaaDoor
open Go.ChangeShapes Go.WideShapes Go.ChangeAt Go.RowKit

/-- an array of ints that reads as a list of them: its cells -/
theorem laid_ints {W : World} {t e : TypeId} {n fuel : Nat} {k : IntKind} {cs : List Value} {L : List Int} {p : List MemPlace}
    (ht : Tryd.prog.underlying t = some (.array n e)) (he : Tryd.prog.underlying e = some (.int k)) (c1 : Tryd.prog.cellsOf e = 1) (cn : Tryd.prog.cellsOf t = n)
    (h : DataW.trod (fun _ => ()) Tryd.prog W 0 (fun _ => true) false fuel t cs = some (.agg (L.map fun z => .lit (.int k z)), p)) :
    L.length = n ∧ cs.length = n ∧ ∀ i, (hi : i < L.length) → cs[i]? = some (.int k L[i]) := by
  obtain ⟨xs, m, rfl, hx, hlen, hn, hel⟩ := DataW.trod_array ht h
  simp only [Prod.mk.injEq, DataW.agg.injEq] at hx
  have hL : L.length = n := by
    have := congrArg List.length hx.1
    simpa [hn] using this
  refine ⟨hL, hlen.trans cn, fun i hi => ?_⟩
  have h1 := hel i (by omega)
  rw [c1] at h1
  have hxi : i < xs.length := by omega
  rw [List.getElem?_eq_getElem hxi] at h1
  obtain ⟨z, e1, e2, _⟩ := DataW.trod_int he h1
  have h3 : (L.map fun z => (DataW.lit (.int k z) : DataW Unit))[i]? = (xs.map (·.1))[i]? := by rw [hx.1]
  rw [List.getElem?_map, List.getElem?_map, List.getElem?_eq_getElem hi, List.getElem?_eq_getElem hxi] at h3
  simp [e2] at h3
  have h4 := congrArg (fun l => l[0]?) e1
  simp at h4
  rw [h4, h3]

theorem laid_rows {W : World} {t e i8 : TypeId} {n m fuel : Nat} {k : IntKind} {cs : List Value} {LL : List (List Int)} {p : List MemPlace}
    (ht : Tryd.prog.underlying t = some (.array n e)) (he : Tryd.prog.underlying e = some (.array m i8)) (hi8 : Tryd.prog.underlying i8 = some (.int k)) (c1 : Tryd.prog.cellsOf i8 = 1) (cm : Tryd.prog.cellsOf e = m)
    (h : DataW.trod (fun _ => ()) Tryd.prog W 0 (fun _ => true) false fuel t cs = some (.agg (LL.map fun L => .agg (L.map fun z => .lit (.int k z))), p)) :
    LL.length = n ∧ ∀ i, (hi : i < LL.length) → LL[i].length = m ∧ ∀ j, (hj : j < LL[i].length) → cs[i * m + j]? = some (.int k LL[i][j]) := by
  obtain ⟨xs, f, rfl, hx, hlen, hn, hel⟩ := DataW.trod_array ht h
  simp only [Prod.mk.injEq, DataW.agg.injEq] at hx
  have hL : LL.length = n := by
    have := congrArg List.length hx.1
    simpa [hn] using this
  refine ⟨hL, fun i hi => ?_⟩
  have h1 := hel i (by omega)
  rw [cm] at h1
  have hxi : i < xs.length := by omega
  rw [List.getElem?_eq_getElem hxi] at h1
  have h3 : (LL.map fun L => (DataW.agg (L.map fun z => .lit (.int k z)) : DataW Unit))[i]? = (xs.map (·.1))[i]? := by rw [hx.1]
  rw [List.getElem?_map, List.getElem?_map, List.getElem?_eq_getElem hi, List.getElem?_eq_getElem hxi] at h3
  simp only [Option.map_some, Option.some.injEq] at h3
  have h5 : xs[i] = ((DataW.agg (LL[i].map fun z => .lit (.int k z)) : DataW Unit), xs[i].2) := by rw [h3]
  rw [h5] at h1
  obtain ⟨e1, e2, e3⟩ := laid_ints he hi8 c1 cm h1
  refine ⟨e1, fun j hj => ?_⟩
  have h6 := e3 j hj
  rw [List.getElem?_take_of_lt (by omega), List.getElem?_drop] at h6
  exact h6

theorem laid_cons {W : World} {nm : String} {d : DataW Unit} {r : List (String × DataW Unit)} {ps : List MemPlace} (h : DataW.LaidVars Tryd.prog W ((nm, d) :: r) ps) :
    ∃ g0 t0 cs0 f0 p0 q0, Tryd.prog.globalNamed nm = some g0 ∧ (Tryd.prog.globals[g0]?).map (·.type) = some t0 ∧ World.var? Tryd.prog W nm = some cs0 ∧
      DataW.trod (fun _ => ()) Tryd.prog W 0 (fun _ => true) false f0 t0 cs0.toList = some (d, p0) ∧ DataW.LaidVars Tryd.prog W r q0 := by
  obtain ⟨g0, t0, cs0, f0, p0, q0, a1, a2, a3, a4, a5, _⟩ := h
  exact ⟨g0, t0, cs0, f0, p0, q0, a1, a2, a3, a4, a5⟩

end Go.Proofs.YtghldekcnanciaaDoor
