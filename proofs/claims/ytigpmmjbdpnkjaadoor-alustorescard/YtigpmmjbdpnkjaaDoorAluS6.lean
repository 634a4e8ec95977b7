/- kotatsu/kotatsulaw08.AluStores: for every input the call returns true, and each argument reads afterwards as it read before, where alu.branchFlags holds what the program's text lays (the card ties that to the text). No other condition. -/
import Derived.Test.YtigpmmjbdpnkjaaDoorFrameU
import Derived.Test.YtigpmmjbdpnkjaaDoorAluS5
import Derived.Test.YtigpmmjbdpnkjaaDoorTie
import Derived.Test.YtigpmmjbdpnkjaaDoorCards
import Derived.LaidMore
import Derived.Stop.Joined
import Derived.SevenTiedAt
namespace Go.Proofs.YtigpmmjbdpnkjaaDoor
open Go.ChangeShapes Go.WideShapes Go.ChangeAt Go.RowKit

theorem gFlags : Tryd.prog.globalNamed "kotatsu/alu.branchFlags" = some 0 := by kernel_rfl
theorem tFlags : (Tryd.prog.globals[0]?).map (·.type) = some 38 := by kernel_rfl
theorem door_met (os : Os) (args : Array Value) : laidMetH Tryd.prog Rows.aluStoresRow.laid ((World.doorLaid Tryd.prog 400 os).forCall (fun _ _ => 0) ⟨#[], args, []⟩).memory :=
  laidMetH_of_parts3 (fuel := 8) (laidMet_of_run' 8 (by kernel_rfl) (by kernel_rfl)) (by kernel_rfl) (by kernel_rfl)

set_option maxRecDepth 100000 in
set_option maxHeartbeats 1000000 in
/-- what the condition gives the walk: the table's four cells -/
theorem of_laid {W : World} (h : laidMetH Tryd.prog Rows.aluStoresRow.laid W) : gl W := by
  rw [MakeChecks.laidMetH_plain _ _ _ (by kernel_rfl)] at h
  obtain ⟨ps, ⟨g0, t0, cs0, f0, p0, q0, hg0, ht0, hv0, hd0, _, _⟩, _, _⟩ := h
  obtain rfl := Option.some.inj (gFlags.symm.trans hg0)
  obtain rfl := Option.some.inj (tFlags.symm.trans ht0)
  obtain ⟨xs, m1, rfl, hx1, hlen, hn3, hel⟩ := DataW.trod_array Tryd.underlying38 hd0
  have c1 : Tryd.prog.cellsOf 5 = 1 := by kernel_rfl
  have c4 : Tryd.prog.cellsOf 38 = 4 := by kernel_rfl
  have e0 := hel 0 (by decide)
  have e1 := hel 1 (by decide)
  have e2 := hel 2 (by decide)
  have e3 := hel 3 (by decide)
  simp only [Prod.mk.injEq, DataW.agg.injEq, Rows.laid_kotatsu_alu_branchFlags] at hx1
  rw [c4] at hlen
  obtain ⟨l⟩ := cs0
  match l, hlen, xs, hn3, hx1, e0, e1, e2, e3 with
  | [v0, v1, v2, v3], _, [x0, x1, x2, x3], _, hx1, e0, e1, e2, e3 =>
    simp only [List.map_cons, List.map_nil, List.cons.injEq, and_true] at hx1
    have f0 : DataW.trod (fun _ => ()) Tryd.prog W 0 (fun _ => true) false m1 5 [v0] = some x0 := by simpa [c1] using e0
    have f1 : DataW.trod (fun _ => ()) Tryd.prog W 0 (fun _ => true) false m1 5 [v1] = some x1 := by simpa [c1] using e1
    have f2 : DataW.trod (fun _ => ()) Tryd.prog W 0 (fun _ => true) false m1 5 [v2] = some x2 := by simpa [c1] using e2
    have f3 : DataW.trod (fun _ => ()) Tryd.prog W 0 (fun _ => true) false m1 5 [v3] = some x3 := by simpa [c1] using e3
    obtain ⟨z0, q0, w0, _⟩ := DataW.trod_int Tryd.underlying5 f0
    obtain ⟨z1, q1, w1, _⟩ := DataW.trod_int Tryd.underlying5 f1
    obtain ⟨z2, q2, w2, _⟩ := DataW.trod_int Tryd.underlying5 f2
    obtain ⟨z3, q3, w3, _⟩ := DataW.trod_int Tryd.underlying5 f3
    simp at q0 q1 q2 q3
    subst q0; subst q1; subst q2; subst q3
    rw [w0, w1, w2, w3] at hx1
    simp at hx1
    have hc := World.var?_cell hg0 hv0
    have k0 := hc 0
    have k1 := hc 1
    have k2 := hc 2
    have k3 := hc 3
    simp at k0 k1 k2 k3
    obtain ⟨⟨a0, a1, a2, a3⟩, _⟩ := hx1
    subst a0; subst a1; subst a2; subst a3
    exact ⟨World.block_lt_of_cell? W _ k0, k0, k1, k2, k3⟩

set_option maxRecDepth 100000 in
theorem aluStores_lifted (os : Os) (started : os.Started) (H : Type) (enc : TypeId × Value → H) :
    ReturnsInHanded {} Tryd.checked os 3 .any (fun w args => (Rows.aluStoresSpec.pre enc Tryd.prog Tryd.f3 [] false w args ∧ laidMetH Tryd.prog Rows.aluStoresRow.laid w) ∧ sizedMet enc Tryd.prog Tryd.f3 (OpenSpec.ofChange Rows.aluStoresSpec) false w args)
      (Rows.aluStoresSpec.post enc Tryd.prog Tryd.f3 false true false false) := by
  refine returnsInHanded_of_change_and (C := Tryd.checked) (X := fun w _ => laidMetH Tryd.prog Rows.aluStoresRow.laid w) (fun _ _ _ hh h => h.of_heap hh) Tryd.own started (by kernel_rfl) Tryd.func3
    (ChangeSpec.witness_shaped (enc := enc) (C := Tryd.checked) (os := os) (X := fun w _ => laidMetH Tryd.prog Rows.aluStoresRow.laid w) false (World.doorLaid Tryd.prog 400 os) #[.agg #[.int .u8 0, .int .u8 0, .int .u8 0, .int .u8 0, .int .u8 0], .int .u8 0] 8 rfl (World.shaped_of_RefB (by kernel_rfl) (by kernel_rfl)) (by kernel_rfl) (by kernel_rfl) (by kernel_rfl) (door_met os _)) ?_
  intro W base args ds gs before hval0 hW _ _ hL _
  have hval : ∀ (j : Nat) t v, Tryd.f3.params[j]? = some t → args[j]? = some v → Value.okWide Tryd.prog W .any base t v := hval0
  have hW' := hW
  obtain ⟨p, q, hA0, hV, rfl, hfz, hnd⟩ := hW
  have hA : DataW.TrodAll enc Tryd.prog W 0 (fun _ => true) true Tryd.f3.params.toList args.toList ds p := hA0
  rw [Tryd.params3] at hA hval
  obtain ⟨v0, vs0, d0, ds0, p0, q0, hargs, rfl, rfl, h0, rr0⟩ := trodAll_cons hA
  obtain ⟨v1, vs1, d1, ds1, p1, q1, rfl, rfl, rfl, h1, rr1⟩ := trodAll_cons rr0
  obtain ⟨rfl, rfl, rfl⟩ := trodAll_nil rr1
  obtain rfl : args = #[v0, v1] := by cases args; simp_all
  obtain ⟨rfl, rfl⟩ := trodVars_none hV
  have k0 := h0
  have lt0 : ∀ x ∈ p0, x.block < W.heap.size := by obtain ⟨m, hm⟩ := k0; exact DataW.trod_lt m _ _ _ hm
  have k1 := h1
  have lt1 : ∀ x ∈ p1, x.block < W.heap.size := by obtain ⟨m, hm⟩ := k1; exact DataW.trod_lt m _ _ _ hm
  obtain ⟨ua, ux, uy, us, uq, rfl, uk⟩ := arg_unit (hval 0 23 v0 rfl rfl) h0
  obtain ⟨z1, rfl, rfl, rfl, wz1⟩ := open_int Tryd.underlying5 (hval 1 5 v1 rfl rfl) h1
  have bz1 := bounds_u8 wz1
  clear hA0 hval0
  refine (aluStores_w ua ux uy us uq z1 W uk ⟨by omega, by omega⟩ (of_laid hL)).mono fun e W' ⟨he, hE⟩ => ?_
  have bel := hE.below
  subst he
  exact ⟨_, rfl, _, _, _, [], _, [], hW', trodAll_mk1 (shut_bool Tryd.underlying4 _), (trodAll_cons_mk (Below.trod Tryd.laidOut (by kernel_rfl) (of_decide_eq_true (by kernel_rfl)) k0 bel lt0) (trodAll_cons_mk (Below.trod Tryd.laidOut (by kernel_rfl) (of_decide_eq_true (by kernel_rfl)) k1 bel lt1) trodAll_mk0)), rfl, bel.frame _, fun h => by cases h⟩

theorem aluStores_row : Rows.AluStoresSaid :=
  OpenClaim.holds_of_wide 3 Tryd.f3 rfl rfl rfl rfl rfl rfl rfl ⟨rfl, rfl, rfl, rfl, rfl⟩ rfl rfl rfl rfl rfl (by kernel_rfl) Tryd.func3 (by kernel_rfl)
    (of_decide_eq_true (by kernel_rfl)) (by unfold Func.isWrapper; first | (rw [if_pos (by decide +kernel)]; kernel_rfl) | (rw [if_neg (by decide +kernel)]; exact ⟨rfl, rfl⟩))
    (fun os started H enc _ => aluStores_lifted os started H enc)

theorem aluStores_holds : Rows.AluStoresCardSaid :=
  Claim7.holds_tied_plain_at .later [] [.data] true (true, "9702fbeaf2a7c60b8a491a91de3c66e444ed41f1f75de422475beb1948d853ed") false
    aluStores_row (fun _ h => by cases h) (by kernel_rfl) (fun _ h => by cases h) aluStores_row_tie rfl ⟨rfl, rfl⟩ (by kernel_rfl) rfl
    (fun f fn hf hfn => by
      obtain rfl : f = 3 := Option.some.inj ((show Tryd.prog.funcNamed "kotatsu/kotatsulaw08.AluStores" = some 3 by kernel_rfl).symm.trans hf) |>.symm
      obtain rfl : fn = Tryd.f3 := (Option.some.inj (Tryd.func3.symm.trans hfn)).symm
      exact ⟨by kernel_rfl, fun j t ht => by
        rw [Tryd.params3] at ht
        have h3 : t = 23 ∨ t = 5 := by
          rcases j with _ | _ | j
          · left; simpa using ht.symm
          · right; simpa using ht.symm
          · simp at ht
        rcases h3 with rfl | rfl
        · exact (show Tryd.prog.wantsStandIn 23 = false by kernel_rfl)
        · exact (show Tryd.prog.wantsStandIn 5 = false by kernel_rfl)⟩)
    (by kernel_rfl)

#print axioms aluStores_holds
end Go.Proofs.YtigpmmjbdpnkjaaDoor
