/- What the row's 'laid' gives a walk: the cells of the package's three tables. No law is claimed here. -/
import Derived.Test.YtgnafnjhbdefaaaDoorFrame
import Derived.Test.YtgnafnjhbdefaaaDoorTn12
import Derived.Test.YtgnafnjhbdefaaaDoorTie
import Derived.Test.YtgnafnjhbdefaaaDoorCards
import Derived.LaidMore
import Derived.Stop.Joined
import Derived.SevenTiedAt
namespace Go.Proofs.YtgnafnjhbdefaaaDoor
open Go.ChangeShapes Go.WideShapes Go.ChangeAt Go.RowKit

/-- an array of ints that reads as a list of them: its cells -/
theorem laid_ints {W : World} {t e : TypeId} {n fuel : Nat} {k : IntKind} {cs : List Value} {L : List Int} {p : List MemPlace}
    (ht : Tryd.prog.underlying t = some (.array n e)) (he : Tryd.prog.underlying e = some (.int k)) (c1 : Tryd.prog.cellsOf e = 1) (cn : Tryd.prog.cellsOf t = n)
    (h : DataW.trod (fun _ => ()) Tryd.prog W 0 (fun _ => true) false fuel t cs = some (.agg (L.map fun z => .lit (.int k z)), p)) :
    L.length = n ∧ cs.length = n ∧ ∀ i, (hi : i < L.length) → cs[i]? = some (.int k L[i]) := by
  obtain ⟨xs, m, rfl, hx, hlen, hn, hel⟩ := DataW.trod_array ht h
  simp only [Prod.mk.injEq, DataW.agg.injEq] at hx
  have hL : L.length = n := by
    have := congrArg List.length hx.1
    simpa [hn] using this
  refine ⟨hL, hlen.trans cn, fun i hi => ?_⟩
  have h1 := hel i (by omega)
  rw [c1] at h1
  have hxi : i < xs.length := by omega
  rw [List.getElem?_eq_getElem hxi] at h1
  obtain ⟨z, e1, e2, _⟩ := DataW.trod_int he h1
  have h3 : (L.map fun z => (DataW.lit (.int k z) : DataW Unit))[i]? = (xs.map (·.1))[i]? := by rw [hx.1]
  rw [List.getElem?_map, List.getElem?_map, List.getElem?_eq_getElem hi, List.getElem?_eq_getElem hxi] at h3
  simp [e2] at h3
  have h4 := congrArg (fun l => l[0]?) e1
  simp at h4
  rw [h4, h3]

theorem gLen : Tryd.prog.globalNamed "kotatsu/tone.lengths" = some 1 := by kernel_rfl
theorem tLen : (Tryd.prog.globals[1]?).map (·.type) = some 74 := by kernel_rfl
theorem gNoi : Tryd.prog.globalNamed "kotatsu/tone.noisePeriods" = some 0 := by kernel_rfl
theorem tNoi : (Tryd.prog.globals[0]?).map (·.type) = some 70 := by kernel_rfl
theorem gDut : Tryd.prog.globalNamed "kotatsu/tone.duties" = some 2 := by kernel_rfl
theorem tDut : (Tryd.prog.globals[2]?).map (·.type) = some 79 := by kernel_rfl
/-- the tables that the row lists -/
def laidL : List (String × DataW Unit) := [("kotatsu/tone.lengths", Rows.laid_kotatsu_tone_lengths), ("kotatsu/tone.noisePeriods", Rows.laid_kotatsu_tone_noisePeriods), ("kotatsu/tone.duties", Rows.laid_kotatsu_tone_duties)]

theorem laid_rows {W : World} {t e i8 : TypeId} {n m fuel : Nat} {k : IntKind} {cs : List Value} {LL : List (List Int)} {p : List MemPlace}
    (ht : Tryd.prog.underlying t = some (.array n e)) (he : Tryd.prog.underlying e = some (.array m i8)) (hi8 : Tryd.prog.underlying i8 = some (.int k)) (c1 : Tryd.prog.cellsOf i8 = 1) (cm : Tryd.prog.cellsOf e = m)
    (h : DataW.trod (fun _ => ()) Tryd.prog W 0 (fun _ => true) false fuel t cs = some (.agg (LL.map fun L => .agg (L.map fun z => .lit (.int k z))), p)) :
    LL.length = n ∧ ∀ i, (hi : i < LL.length) → LL[i].length = m ∧ ∀ j, (hj : j < LL[i].length) → cs[i * m + j]? = some (.int k LL[i][j]) := by
  obtain ⟨xs, f, rfl, hx, hlen, hn, hel⟩ := DataW.trod_array ht h
  simp only [Prod.mk.injEq, DataW.agg.injEq] at hx
  have hL : LL.length = n := by
    have := congrArg List.length hx.1
    simpa [hn] using this
  refine ⟨hL, fun i hi => ?_⟩
  have h1 := hel i (by omega)
  rw [cm] at h1
  have hxi : i < xs.length := by omega
  rw [List.getElem?_eq_getElem hxi] at h1
  have h3 : (LL.map fun L => (DataW.agg (L.map fun z => .lit (.int k z)) : DataW Unit))[i]? = (xs.map (·.1))[i]? := by rw [hx.1]
  rw [List.getElem?_map, List.getElem?_map, List.getElem?_eq_getElem hi, List.getElem?_eq_getElem hxi] at h3
  simp only [Option.map_some, Option.some.injEq] at h3
  have h5 : xs[i] = ((DataW.agg (LL[i].map fun z => .lit (.int k z)) : DataW Unit), xs[i].2) := by rw [h3]
  rw [h5] at h1
  obtain ⟨e1, e2, e3⟩ := laid_ints he hi8 c1 cm h1
  refine ⟨e1, fun j hj => ?_⟩
  have h6 := e3 j hj
  rw [List.getElem?_take_of_lt (by omega), List.getElem?_drop] at h6
  exact h6

theorem at0_nat (L : List Int) (i : Nat) (h : i < L.length) : at0 L (i : Int) = L[i] := by
  unfold at0
  rw [Int.toNat_natCast, List.getD_eq_getElem?_getD, List.getElem?_eq_getElem h]
  rfl

theorem laid_cons {W : World} {nm : String} {d : DataW Unit} {r : List (String × DataW Unit)} {ps : List MemPlace} (h : DataW.LaidVars Tryd.prog W ((nm, d) :: r) ps) :
    ∃ g0 t0 cs0 f0 p0 q0, Tryd.prog.globalNamed nm = some g0 ∧ (Tryd.prog.globals[g0]?).map (·.type) = some t0 ∧ World.var? Tryd.prog W nm = some cs0 ∧
      DataW.trod (fun _ => ()) Tryd.prog W 0 (fun _ => true) false f0 t0 cs0.toList = some (d, p0) ∧ DataW.LaidVars Tryd.prog W r q0 := by
  obtain ⟨g0, t0, cs0, f0, p0, q0, a1, a2, a3, a4, a5, _⟩ := h
  exact ⟨g0, t0, cs0, f0, p0, q0, a1, a2, a3, a4, a5⟩

def dutLL : List (List Int) := [[0, 1, 0, 0, 0, 0, 0, 0], [0, 1, 1, 0, 0, 0, 0, 0], [0, 1, 1, 1, 1, 0, 0, 0], [1, 0, 0, 1, 1, 1, 1, 1]]

set_option maxRecDepth 100000 in
set_option maxHeartbeats 1000000 in
theorem of_laid {W : World} (h : laidMetH Tryd.prog laidL W) : gl W := by
  rw [MakeChecks.laidMetH_plain _ _ _ (by kernel_rfl)] at h
  obtain ⟨ps, h, _, _⟩ := h
  obtain ⟨g0, t0, cs0, f0, p0, q0, hg0, ht0, hv0, hd0, h⟩ := laid_cons h
  obtain ⟨g1, t1, cs1, f1, p1, q1, hg1, ht1, hv1, hd1, h⟩ := laid_cons h
  obtain ⟨g2, t2, cs2, f2, p2, q2, hg2, ht2, hv2, hd2, h⟩ := laid_cons h
  clear h
  obtain rfl := Option.some.inj (gLen.symm.trans hg0)
  obtain rfl := Option.some.inj (tLen.symm.trans ht0)
  obtain rfl := Option.some.inj (gNoi.symm.trans hg1)
  obtain rfl := Option.some.inj (tNoi.symm.trans ht1)
  obtain rfl := Option.some.inj (gDut.symm.trans hg2)
  obtain rfl := Option.some.inj (tDut.symm.trans ht2)
  obtain ⟨a1, a2, a3⟩ := laid_ints (L := lenL) Tryd.underlying74 Tryd.underlying5 (by kernel_rfl) (by kernel_rfl) hd0
  obtain ⟨b1, b2, b3⟩ := laid_ints (L := noiL) Tryd.underlying70 Tryd.underlying31 (by kernel_rfl) (by kernel_rfl) hd1
  obtain ⟨d1, d2⟩ := laid_rows (LL := dutLL) Tryd.underlying79 Tryd.underlying78 Tryd.underlying5 (by kernel_rfl) (by kernel_rfl) hd2
  have k0 := World.var?_cell hg0 hv0
  have k1 := World.var?_cell hg1 hv1
  have k2 := World.var?_cell hg2 hv2
  have m0 : ∀ i : Nat, i < 32 → W.cell? ⟨1, i, none⟩ = some (.int .u8 (at0 lenL i)) := fun i hi => by
    rw [k0 i, ← Array.getElem?_toList, a3 i hi, at0_nat lenL i hi]
  have m1 : ∀ i : Nat, i < 16 → W.cell? ⟨0, i, none⟩ = some (.int .u16 (at0 noiL i)) := fun i hi => by
    rw [k1 i, ← Array.getElem?_toList, b3 i hi, at0_nat noiL i hi]
  have m2 : ∀ i : Nat, i < 32 → W.cell? ⟨2, i, none⟩ = some (.int .u8 (at0 dutL i)) := fun i hi => by
    have hq : i = i / 8 * 8 + i % 8 := by omega
    obtain ⟨e1, e2⟩ := d2 (i / 8) (by show i / 8 < 4; omega)
    have := e2 (i % 8) (by omega)
    rw [← hq] at this
    rw [k2 i, ← Array.getElem?_toList, this]
    have hall : ∀ j : Fin 32, ((dutLL[j.val / 8]?.getD [])[j.val % 8]?.getD 0) = at0 dutL (j.val : Int) := by decide
    have := hall ⟨i, hi⟩
    rw [← this]
    simp [List.getElem?_eq_getElem (show i / 8 < dutLL.length from by show i / 8 < 4; omega), List.getElem?_eq_getElem (show i % 8 < (dutLL[i / 8]'(by show i / 8 < 4; omega)).length from by omega)]
  exact ⟨World.block_lt_of_cell? W _ (m2 0 (by decide)), m1, m0, m2⟩
theorem door_met (os : Os) (args : Array Value) : laidMetH Tryd.prog laidL ((World.doorLaid Tryd.prog 400 os).forCall (fun _ _ => 0) ⟨#[], args, []⟩).memory :=
  laidMetH_of_parts3 (fuel := 8) (laidMet_of_run' 8 (by kernel_rfl) (by kernel_rfl)) (by kernel_rfl) (by kernel_rfl)

end Go.Proofs.YtgnafnjhbdefaaaDoor
