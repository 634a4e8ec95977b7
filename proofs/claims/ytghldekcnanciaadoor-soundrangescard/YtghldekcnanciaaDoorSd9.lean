/- What the row's 'laid' gives a walk: the cells of the tones' three tables and of the sample's rates; what laws of layer 12 begin with. No law is claimed here. -/
import Derived.Test.YtghldekcnanciaaDoorLaid
import Derived.Test.YtghldekcnanciaaDoorSd8
namespace Go.Proofs.YtghldekcnanciaaDoor
open Go.ChangeShapes Go.WideShapes Go.ChangeAt Go.RowKit

theorem gLen : Tryd.prog.globalNamed "kotatsu/tone.lengths" = some 2 := by kernel_rfl
theorem tLen : (Tryd.prog.globals[2]?).map (·.type) = some 105 := by kernel_rfl
theorem gNoi : Tryd.prog.globalNamed "kotatsu/tone.noisePeriods" = some 1 := by kernel_rfl
theorem tNoi : (Tryd.prog.globals[1]?).map (·.type) = some 100 := by kernel_rfl
theorem gDut : Tryd.prog.globalNamed "kotatsu/tone.duties" = some 3 := by kernel_rfl
theorem tDut : (Tryd.prog.globals[3]?).map (·.type) = some 111 := by kernel_rfl
theorem gRat : Tryd.prog.globalNamed "kotatsu/sound.rates" = some 0 := by kernel_rfl
theorem tRat : (Tryd.prog.globals[0]?).map (·.type) = some 100 := by kernel_rfl
/-- the tables that the rows list -/
def laidL : List (String × DataW Unit) := [("kotatsu/tone.lengths", Rows.laid_kotatsu_tone_lengths), ("kotatsu/tone.noisePeriods", Rows.laid_kotatsu_tone_noisePeriods), ("kotatsu/tone.duties", Rows.laid_kotatsu_tone_duties), ("kotatsu/sound.rates", Rows.laid_kotatsu_sound_rates)]
def laidL3 : List (String × DataW Unit) := [("kotatsu/tone.lengths", Rows.laid_kotatsu_tone_lengths), ("kotatsu/tone.noisePeriods", Rows.laid_kotatsu_tone_noisePeriods), ("kotatsu/tone.duties", Rows.laid_kotatsu_tone_duties)]
structure gs (w : World) : Prop where
  l : gl w
  r : gr w
theorem gs.below {v v' : World} (h : gs v) (hb : Below v.heap.size v v') : gs v' := ⟨h.l.below hb, h.r.below hb⟩
theorem at0_nat (L : List Int) (i : Nat) (h : i < L.length) : at0 L (i : Int) = L[i] := by
  unfold at0
  rw [Int.toNat_natCast, List.getD_eq_getElem?_getD, List.getElem?_eq_getElem h]
  rfl

def dutLL : List (List Int) := [[0, 1, 0, 0, 0, 0, 0, 0], [0, 1, 1, 0, 0, 0, 0, 0], [0, 1, 1, 1, 1, 0, 0, 0], [1, 0, 0, 1, 1, 1, 1, 1]]

set_option maxRecDepth 100000 in
set_option maxHeartbeats 1000000 in
theorem of_tabs {W : World} {cs0 cs1 cs2 : Array Value} {f0 f1 f2 : Nat} {p0 p1 p2 : List MemPlace} (hv0 : World.var? Tryd.prog W "kotatsu/tone.lengths" = some cs0) (hv1 : World.var? Tryd.prog W "kotatsu/tone.noisePeriods" = some cs1) (hv2 : World.var? Tryd.prog W "kotatsu/tone.duties" = some cs2)
    (hd0 : DataW.trod (fun _ => ()) Tryd.prog W 0 (fun _ => true) false f0 105 cs0.toList = some (Rows.laid_kotatsu_tone_lengths, p0))
    (hd1 : DataW.trod (fun _ => ()) Tryd.prog W 0 (fun _ => true) false f1 100 cs1.toList = some (Rows.laid_kotatsu_tone_noisePeriods, p1))
    (hd2 : DataW.trod (fun _ => ()) Tryd.prog W 0 (fun _ => true) false f2 111 cs2.toList = some (Rows.laid_kotatsu_tone_duties, p2)) : gl W := by
  obtain ⟨a1, a2, a3⟩ := laid_ints (L := lenL) Tryd.underlying105 Tryd.underlying5 (by kernel_rfl) (by kernel_rfl) hd0
  obtain ⟨b1, b2, b3⟩ := laid_ints (L := noiL) Tryd.underlying100 Tryd.underlying28 (by kernel_rfl) (by kernel_rfl) hd1
  obtain ⟨d1, d2⟩ := laid_rows (LL := dutLL) Tryd.underlying111 Tryd.underlying110 Tryd.underlying5 (by kernel_rfl) (by kernel_rfl) hd2
  have k0 := World.var?_cell gLen hv0
  have k1 := World.var?_cell gNoi hv1
  have k2 := World.var?_cell gDut hv2
  have m0 : ∀ i : Nat, i < 32 → W.cell? ⟨2, i, none⟩ = some (.int .u8 (at0 lenL i)) := fun i hi => by
    rw [k0 i, ← Array.getElem?_toList, a3 i hi, at0_nat lenL i hi]
  have m1 : ∀ i : Nat, i < 16 → W.cell? ⟨1, i, none⟩ = some (.int .u16 (at0 noiL i)) := fun i hi => by
    rw [k1 i, ← Array.getElem?_toList, b3 i hi, at0_nat noiL i hi]
  have m2 : ∀ i : Nat, i < 32 → W.cell? ⟨3, i, none⟩ = some (.int .u8 (at0 dutL i)) := fun i hi => by
    have hq : i = i / 8 * 8 + i % 8 := by omega
    obtain ⟨e1, e2⟩ := d2 (i / 8) (by show i / 8 < 4; omega)
    have := e2 (i % 8) (by omega)
    rw [← hq] at this
    rw [k2 i, ← Array.getElem?_toList, this]
    have hall : ∀ j : Fin 32, ((dutLL[j.val / 8]?.getD [])[j.val % 8]?.getD 0) = at0 dutL (j.val : Int) := by decide
    have := hall ⟨i, hi⟩
    rw [← this]
    simp [List.getElem?_eq_getElem (show i / 8 < dutLL.length from by show i / 8 < 4; omega), List.getElem?_eq_getElem (show i % 8 < (dutLL[i / 8]'(by show i / 8 < 4; omega)).length from by omega)]
  exact ⟨World.block_lt_of_cell? W _ (m2 0 (by decide)), m1, m0, m2⟩
set_option maxRecDepth 100000 in
set_option maxHeartbeats 1000000 in
theorem of_laid {W : World} (h : laidMetH Tryd.prog laidL W) : gs W := by
  rw [MakeChecks.laidMetH_plain _ _ _ (by kernel_rfl)] at h
  obtain ⟨ps, h, _, _⟩ := h
  obtain ⟨g0, t0, cs0, f0, p0, q0, hg0, ht0, hv0, hd0, h⟩ := laid_cons h
  obtain ⟨g1, t1, cs1, f1, p1, q1, hg1, ht1, hv1, hd1, h⟩ := laid_cons h
  obtain ⟨g2, t2, cs2, f2, p2, q2, hg2, ht2, hv2, hd2, h⟩ := laid_cons h
  obtain ⟨g3, t3, cs3, f3, p3, q3, hg3, ht3, hv3, hd3, h⟩ := laid_cons h
  clear h
  obtain rfl := Option.some.inj (gLen.symm.trans hg0)
  obtain rfl := Option.some.inj (tLen.symm.trans ht0)
  obtain rfl := Option.some.inj (gNoi.symm.trans hg1)
  obtain rfl := Option.some.inj (tNoi.symm.trans ht1)
  obtain rfl := Option.some.inj (gDut.symm.trans hg2)
  obtain rfl := Option.some.inj (tDut.symm.trans ht2)
  obtain rfl := Option.some.inj (gRat.symm.trans hg3)
  obtain rfl := Option.some.inj (tRat.symm.trans ht3)
  obtain ⟨e1, e2, e3⟩ := laid_ints (L := ratL) Tryd.underlying100 Tryd.underlying28 (by kernel_rfl) (by kernel_rfl) hd3
  have k3 := World.var?_cell gRat hv3
  have m3 : ∀ i : Nat, i < 16 → W.cell? ⟨0, i, none⟩ = some (.int .u16 (at0 ratL i)) := fun i hi => by
    rw [k3 i, ← Array.getElem?_toList, e3 i hi, at0_nat ratL i hi]
  exact ⟨of_tabs hv0 hv1 hv2 hd0 hd1 hd2, World.block_lt_of_cell? W _ (m3 0 (by decide)), m3⟩
set_option maxRecDepth 100000 in
set_option maxHeartbeats 1000000 in
theorem of_laid3 {W : World} (h : laidMetH Tryd.prog laidL3 W) : gl W := by
  rw [MakeChecks.laidMetH_plain _ _ _ (by kernel_rfl)] at h
  obtain ⟨ps, h, _, _⟩ := h
  obtain ⟨g0, t0, cs0, f0, p0, q0, hg0, ht0, hv0, hd0, h⟩ := laid_cons h
  obtain ⟨g1, t1, cs1, f1, p1, q1, hg1, ht1, hv1, hd1, h⟩ := laid_cons h
  obtain ⟨g2, t2, cs2, f2, p2, q2, hg2, ht2, hv2, hd2, h⟩ := laid_cons h
  clear h
  obtain rfl := Option.some.inj (gLen.symm.trans hg0)
  obtain rfl := Option.some.inj (tLen.symm.trans ht0)
  obtain rfl := Option.some.inj (gNoi.symm.trans hg1)
  obtain rfl := Option.some.inj (tNoi.symm.trans ht1)
  obtain rfl := Option.some.inj (gDut.symm.trans hg2)
  obtain rfl := Option.some.inj (tDut.symm.trans ht2)
  exact of_tabs hv0 hv1 hv2 hd0 hd1 hd2
theorem door_met (os : Os) (args : Array Value) : laidMetH Tryd.prog laidL ((World.doorLaid Tryd.prog 400 os).forCall (fun _ _ => 0) ⟨#[], args, []⟩).memory :=
  laidMetH_of_parts3 (fuel := 8) (laidMet_of_run' 8 (by kernel_rfl) (by kernel_rfl)) (by kernel_rfl) (by kernel_rfl)
theorem door_met3 (os : Os) (args : Array Value) : laidMetH Tryd.prog laidL3 ((World.doorLaid Tryd.prog 400 os).forCall (fun _ _ => 0) ⟨#[], args, []⟩).memory :=
  laidMetH_of_parts3 (fuel := 8) (laidMet_of_run' 8 (by kernel_rfl) (by kernel_rfl)) (by kernel_rfl) (by kernel_rfl)

theorem outS_new : outS newS newσ = 12765 := by decide +kernel
set_option maxRecDepth 100000 in
set_option maxHeartbeats 1000000 in
theorem awake12_any (w : World) (hg : gl w) : Calls Tryd.prog 10 #[] w fun e w' => e = .returned (.bool true) ∧ Below w.heap.size w w' := by
  have FN := sdnew_any false w hg (fun e => by cases e)
  have eN := outS_new
  generalize newS = s0 at *
  generalize newσ = σ0 at *
  go_enter Tryd.func10, Tryd.ntmps10
  go_wp2_with (first
    | (go_at_call 11; refine FN.mono ?_; clear FN; rintro e w2 ⟨w1, p, rfl, b1, hT⟩; have FO := hT.Out; rw [eN] at FO; have b2 := hT.bel; clear hT)
    | (go_at_call 20; refine FO.mono ?_; clear FO; rintro e w3 ⟨rfl, q, rfl⟩))
  go_ret
  exact ⟨rfl, (b1.trans (b2.mono b1.size)).trans (still_below _ _ _)⟩

end Go.Proofs.YtghldekcnanciaaDoor
