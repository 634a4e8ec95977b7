/- What the row's 'laid' gives a walk: the cells of the package's two tables. No law is claimed here. -/
import Derived.Test.YtmhplbgoahknbaaDoorLaid
import Derived.Test.YtmhplbgoahknbaaDoorWv10
namespace Go.Proofs.YtmhplbgoahknbaaDoor
open Go.ChangeShapes Go.WideShapes Go.ChangeAt Go.RowKit

theorem gWgt : Tryd.prog.globalNamed "kotatsu/wave.weights" = some 0 := by kernel_rfl
theorem tWgt : (Tryd.prog.globals[0]?).map (·.type) = some 64 := by kernel_rfl
theorem gChg : Tryd.prog.globalNamed "kotatsu/wave.changes" = some 1 := by kernel_rfl
theorem tChg : (Tryd.prog.globals[1]?).map (·.type) = some 78 := by kernel_rfl
/-- the tables that the rows list -/
def laidL : List (String × DataW Unit) := [("kotatsu/wave.changes", Rows.laid_kotatsu_wave_changes), ("kotatsu/wave.weights", Rows.laid_kotatsu_wave_weights)]
def laidL1 : List (String × DataW Unit) := [("kotatsu/wave.weights", Rows.laid_kotatsu_wave_weights)]

theorem of_wgt {W : World} {cs : Array Value} {f : Nat} {p : List MemPlace} (hv : World.var? Tryd.prog W "kotatsu/wave.weights" = some cs)
    (hd : DataW.trod (fun _ => ()) Tryd.prog W 0 (fun _ => true) false f 64 cs.toList = some (Rows.laid_kotatsu_wave_weights, p)) : ∀ i : Nat, i < 4 → W.cell? ⟨0, i, none⟩ = some (.int .i64 (at1 wgtL i)) := by
  obtain ⟨_, _, a3⟩ := laid_ints (L := wgtL) Tryd.underlying64 Tryd.underlying3 (by kernel_rfl) (by kernel_rfl) hd
  have k0 := World.var?_cell gWgt hv
  intro i hi
  rw [k0 i, ← Array.getElem?_toList, a3 i hi, at1_nat wgtL i hi]
theorem of_chg {W : World} {cs : Array Value} {f : Nat} {p : List MemPlace} (hv : World.var? Tryd.prog W "kotatsu/wave.changes" = some cs)
    (hd : DataW.trod (fun _ => ()) Tryd.prog W 0 (fun _ => true) false f 78 cs.toList = some (Rows.laid_kotatsu_wave_changes, p)) : ∀ i : Nat, i < 8 → W.cell? ⟨1, i, none⟩ = some (.int .i64 (at1 chgL i)) := by
  obtain ⟨_, _, a3⟩ := laid_ints (L := chgL) Tryd.underlying78 Tryd.underlying3 (by kernel_rfl) (by kernel_rfl) hd
  have k0 := World.var?_cell gChg hv
  intro i hi
  rw [k0 i, ← Array.getElem?_toList, a3 i hi, at1_nat chgL i hi]

set_option maxRecDepth 100000 in
set_option maxHeartbeats 1000000 in
theorem of_laid {W : World} (h : laidMetH Tryd.prog laidL W) : gc W := by
  rw [MakeChecks.laidMetH_plain _ _ _ (by kernel_rfl)] at h
  obtain ⟨ps, h, _, _⟩ := h
  obtain ⟨g0, t0, cs0, f0, p0, q0, hg0, ht0, hv0, hd0, h⟩ := laid_cons h
  obtain ⟨g1, t1, cs1, f1, p1, q1, hg1, ht1, hv1, hd1, h⟩ := laid_cons h
  clear h
  obtain rfl := Option.some.inj (gWgt.symm.trans hg1)
  obtain rfl := Option.some.inj (tWgt.symm.trans ht1)
  obtain rfl := Option.some.inj (gChg.symm.trans hg0)
  obtain rfl := Option.some.inj (tChg.symm.trans ht0)
  have m0 := of_wgt hv1 hd1
  have m1 := of_chg hv0 hd0
  exact ⟨⟨World.block_lt_of_cell? W _ (m0 0 (by decide)), m0⟩, World.block_lt_of_cell? W _ (m1 0 (by decide)), m1⟩
theorem door_met (os : Os) (args : Array Value) : laidMetH Tryd.prog laidL ((World.doorLaid Tryd.prog 400 os).forCall (fun _ _ => 0) ⟨#[], args, []⟩).memory :=
  laidMetH_of_parts3 (fuel := 8) (laidMet_of_run' 8 (by kernel_rfl) (by kernel_rfl)) (by kernel_rfl) (by kernel_rfl)

set_option maxRecDepth 100000 in
set_option maxHeartbeats 1000000 in
theorem of_laid1 {W : World} (h : laidMetH Tryd.prog laidL1 W) : gw W := by
  rw [MakeChecks.laidMetH_plain _ _ _ (by kernel_rfl)] at h
  obtain ⟨ps, h, _, _⟩ := h
  obtain ⟨g0, t0, cs0, f0, p0, q0, hg0, ht0, hv0, hd0, h⟩ := laid_cons h
  clear h
  obtain rfl := Option.some.inj (gWgt.symm.trans hg0)
  obtain rfl := Option.some.inj (tWgt.symm.trans ht0)
  have m0 := of_wgt hv0 hd0
  exact ⟨World.block_lt_of_cell? W _ (m0 0 (by decide)), m0⟩
theorem door_met1 (os : Os) (args : Array Value) : laidMetH Tryd.prog laidL1 ((World.doorLaid Tryd.prog 400 os).forCall (fun _ _ => 0) ⟨#[], args, []⟩).memory :=
  laidMetH_of_parts3 (fuel := 8) (laidMet_of_run' 8 (by kernel_rfl) (by kernel_rfl)) (by kernel_rfl) (by kernel_rfl)

end Go.Proofs.YtmhplbgoahknbaaDoor
