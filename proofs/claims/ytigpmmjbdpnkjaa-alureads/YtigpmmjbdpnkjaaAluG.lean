/- Every operation that reads: the walks. No law is claimed here. -/
import Derived.Test.YtigpmmjbdpnkjaaAluA
import Derived.Test.YtigpmmjbdpnkjaaAlu10
import Derived.Test.YtigpmmjbdpnkjaaRU7
import Derived.Deep.RegionLaw
namespace Go.Proofs.Ytigpmmjbdpnkjaa
open Go.RowKit

set_option maxRecDepth 100000 in
set_option maxHeartbeats 2000000 in
theorem aluReads_yes (a x y s p op m : Int) (R : Un) (z : ByteArray) (w : World) (hu : Ok ⟨a, x, y, s, p⟩) (hR : Ok R) (hop : 0 ≤ op ∧ op < 256) (hm : 0 ≤ m ∧ m < 256) (hk : kindU op = 1)
    (F1 : ∀ w, Calls Try.prog 18 #[uv a x y s p, .int .u8 op, .int .u8 m] w fun e w' => e = .returned (uu R) ∧ Ext w w')
    (F2 : ∀ w, Calls Try.prog 16 #[rv a x y s p, .string z, .int .i64 m] w fun e w' => e = .returned (rr R) ∧ Ext w w')
    (F3 : ∀ w, Calls Try.prog 17 #[.int .i64 op] w fun e w' => e = .returned (.string z) ∧ Ext w w') :
    Calls Try.prog 3 #[uv a x y s p, .int .u8 op, .int .u8 m] w fun e w' => e = .returned (.bool true) ∧ Ext w w' := by
  have F0 := awake_any
  have F4 := fun w => own_any a x y s p hu w
  have F5 := fun w => own_any R.a R.x R.y R.s R.p hR w
  have F6 := fun w => rkind_any op hop.1 hop.2 w
  rw [hk] at F6
  unfold uu uv at F1
  unfold rr rv at F2
  unfold uv rv at F4 F5
  have e1 : IntKind.i64.wrap op = op := IntWalk.i64_in _ ⟨by omega, by omega⟩
  have e2 : IntKind.i64.wrap m = m := IntWalk.i64_in _ ⟨by omega, by omega⟩
  have r1 := ext_cell
  have r2 := ext_frozen
  have r3 := ext_setCell
  have r4 := ext_lt
  have r5 := ext_drew
  have r6 := ext_ext
  clear hu hR hop hm hk
  unfold uv
  go_enter Try.func3, Try.ntmps3
  go_upto_region 4 with (first | (go_at_call 13; refine (F0 _).mono ?_; rintro e w' ⟨rfl, os, q, rfl⟩) | (go_at_call 14; refine (F4 _).mono ?_; rintro e w1 ⟨rfl, hE1⟩; have B1 := boxE (ext_on hE1)))
  go_upto_region 5 with (go_at_call 15; refine (F6 _).mono ?_; rintro e w' ⟨rfl, os, q, rfl⟩)
  go_region_law (first | (go_simp; go_at_call 17; refine (F3 _).mono ?_; rintro e w' ⟨rfl, os, q, rfl⟩) | (go_simp; go_at_call 16; refine (F2 _).mono ?_; rintro e w' ⟨rfl, os, q, rfl⟩))
  all_goals
    go_upto_region 6 with (fail)
    go_region_held3 (fun v => (w.heap.size < v.heap.size ∧ v.cell? ⟨w.heap.size, 0, none⟩ = some (.int .u8 a) ∧ v.cell? ⟨w.heap.size, 1, none⟩ = some (.int .u8 x) ∧ v.cell? ⟨w.heap.size, 2, none⟩ = some (.int .u8 y) ∧ v.cell? ⟨w.heap.size, 3, none⟩ = some (.int .u8 s) ∧ v.cell? ⟨w.heap.size, 4, none⟩ = some (.int .u8 p)) ∧ (w1.heap.size < v.heap.size ∧ v.cell? ⟨w1.heap.size, 0, none⟩ = some (.int .i64 R.a) ∧ v.cell? ⟨w1.heap.size, 1, none⟩ = some (.int .i64 R.x) ∧ v.cell? ⟨w1.heap.size, 2, none⟩ = some (.int .i64 R.y) ∧ v.cell? ⟨w1.heap.size, 3, none⟩ = some (.int .i64 R.s) ∧ v.cell? ⟨w1.heap.size, 4, none⟩ = some (.int .i64 R.p))) (first | assumption | exact ⟨bx_ext (B1.ext ((Ext.refl _).alloc _)) _ _, bx_ext (Bx.made _ _ _ _ _ _ _ _) _ _⟩ | exact ⟨bx_drew (bx_ext (B1.ext ((Ext.refl _).alloc _)) _ _), bx_drew (bx_ext (Bx.made _ _ _ _ _ _ _ _) _ _)⟩) (first | (go_at_call 18; refine (F1 _).mono ?_; rintro e w' ⟨rfl, os, q, rfl⟩) | (go_at_call 14; refine (F5 _).mono ?_; rintro e w' ⟨rfl, os, q, rfl⟩))
    all_goals
      go_wp2
      go_ret
      refine ⟨rfl, ?_⟩
      repeat (first | exact Ext.refl _ | refine Ext.trans ?_ hE1 | refine Ext.alloc ?_ _ | refine Ext.ext ?_ _ _ | refine Ext.drew ?_ | refine Ext.drewN ?_ _)

end Go.Proofs.Ytigpmmjbdpnkjaa
