/- What is written, and whether a branch is taken (walk). No law is claimed here. -/
import Derived.Test.YtigpmmjbdpnkjaaDoorAluS1
import Derived.Test.YtigpmmjbdpnkjaaDoorAluS2
import Derived.Test.YtigpmmjbdpnkjaaDoorAluS3
import Derived.Test.YtigpmmjbdpnkjaaDoorAluS4
namespace Go.Proofs.YtigpmmjbdpnkjaaDoor
open Go.RowKit

/-- what alu.branchFlags holds -/
def gl (v : World) : Prop := 0 < v.heap.size ∧ v.cell? ⟨0, 0, none⟩ = some (.int .u8 128) ∧ v.cell? ⟨0, 1, none⟩ = some (.int .u8 64) ∧ v.cell? ⟨0, 2, none⟩ = some (.int .u8 1) ∧ v.cell? ⟨0, 3, none⟩ = some (.int .u8 2)
theorem gl.ext {v v' : World} (h : gl v) (hE : Ext v v') : gl v' := by
  obtain ⟨os, q, rfl⟩ := hE
  obtain ⟨h0, h1, h2, h3, h4⟩ := h
  refine ⟨ext_lt _ _ _ _ h0, ?_, ?_, ?_, ?_⟩ <;> (rw [ext_cell _ _ _ _ h0]; assumption)

set_option maxRecDepth 100000 in
set_option maxHeartbeats 4000000 in
theorem aluStores_g (a x y s p op v : Int) (t : Bool) (z : ByteArray) (w : World) (hu : Ok ⟨a, x, y, s, p⟩) (hv : 0 ≤ v ∧ v < 256) (hop : 0 ≤ op ∧ op < 256)
    (F1 : ∀ w, Calls Tryd.prog 6 #[uv a x y s p, .int .u8 op] w fun e w' => e = .returned (.int .u8 v) ∧ Ext w w')
    (F2 : ∀ w, Calls Tryd.prog 7 #[rv a x y s p, .string z] w fun e w' => e = .returned (.int .i64 v) ∧ Ext w w')
    (F3 : ∀ os q, Calls Tryd.prog 9 #[uv a x y s p, .int .u8 op] (ext (w.alloc (.cells #[.int .u8 a, .int .u8 x, .int .u8 y, .int .u8 s, .int .u8 p] 23)) os q) fun e w' => e = .returned (.bool t) ∧ Ext (ext (w.alloc (.cells #[.int .u8 a, .int .u8 x, .int .u8 y, .int .u8 s, .int .u8 p] 23)) os q) w')
    (F4 : ∀ w, Calls Tryd.prog 10 #[rv a x y s p, .string z] w fun e w' => e = .returned (.bool t) ∧ Ext w w')
    (F5 : ∀ w, Calls Tryd.prog 5 #[.int .i64 op] w fun e w' => e = .returned (.string z) ∧ Ext w w') :
    Calls Tryd.prog 3 #[uv a x y s p, .int .u8 op] w fun e w' => e = .returned (.bool true) ∧ Ext w w' := by
  have F0 := awake_any
  have F6 := fun w => own_any a x y s p hu w
  unfold uv at F1 F3
  unfold rv at F2 F4
  unfold uv rv at F6
  have e1 : IntKind.i64.wrap op = op := IntWalk.i64_in _ ⟨by omega, by omega⟩
  have e2 : IntKind.i64.wrap v = v := IntWalk.i64_in _ ⟨by omega, by omega⟩
  have r1 := ext_cell
  have r2 := ext_frozen
  have r3 := ext_setCell
  have r4 := ext_lt
  have r5 := ext_drew
  have r6 := ext_ext
  clear hu hv hop
  unfold uv
  go_enter Tryd.func3, Tryd.ntmps3
  go_upto_region 4 with (first | (go_at_call 4; refine (F0 _).mono ?_; rintro e w' ⟨rfl, os, q, rfl⟩) | (go_at_call 5; refine (F5 _).mono ?_; rintro e w' ⟨rfl, os, q, rfl⟩))
  go_region_held3 (fun v => w.heap.size < v.heap.size ∧ v.cell? ⟨w.heap.size, 0, none⟩ = some (.int .u8 a) ∧ v.cell? ⟨w.heap.size, 1, none⟩ = some (.int .u8 x) ∧ v.cell? ⟨w.heap.size, 2, none⟩ = some (.int .u8 y) ∧ v.cell? ⟨w.heap.size, 3, none⟩ = some (.int .u8 s) ∧ v.cell? ⟨w.heap.size, 4, none⟩ = some (.int .u8 p)) (first | assumption | exact bx_drew (bx_ext (Bx.made _ _ _ _ _ _ _ _) _ _) | exact bx_ext (Bx.made _ _ _ _ _ _ _ _) _ _ | exact bx_ext (by assumption) _ _) (first | (go_at_call 6; refine (F1 _).mono ?_; rintro e w' ⟨rfl, os, q, rfl⟩) | (go_at_call 8; refine (F6 _).mono ?_; rintro e w' ⟨rfl, os, q, rfl⟩) | (go_at_call 7; refine (F2 _).mono ?_; rintro e w' ⟨rfl, os, q, rfl⟩) | (go_at_call 9; refine (F3 _ _).mono ?_; rintro e w' ⟨rfl, os, q, rfl⟩) | (go_at_call 10; refine (F4 _).mono ?_; rintro e w' ⟨rfl, os, q, rfl⟩))
  all_goals
    go_wp2
    go_ret
    refine ⟨rfl, ?_⟩
    repeat (first | exact Ext.refl _ | refine Ext.alloc ?_ _ | refine Ext.ext ?_ _ _ | refine Ext.drew ?_ | refine Ext.drewN ?_ _)

theorem bitq128 : ∀ n : Fin 256, (bits .and .u8 (n.val : Int) 128 != 0) = ((n.val : Int) / 128 % 2 == 1) := by decide +kernel
theorem bitp128 (p : Int) (hp : 0 ≤ p ∧ p < 256) : (p / 128 % 2 == 1) = (bits .and .u8 p 128 != 0) := by
  obtain ⟨k, rfl⟩ : ∃ k : Nat, p = (k : Int) := ⟨p.toNat, by omega⟩
  exact (bitq128 ⟨k, by omega⟩).symm
theorem bitq64 : ∀ n : Fin 256, (bits .and .u8 (n.val : Int) 64 != 0) = ((n.val : Int) / 64 % 2 == 1) := by decide +kernel
theorem bitp64 (p : Int) (hp : 0 ≤ p ∧ p < 256) : (p / 64 % 2 == 1) = (bits .and .u8 p 64 != 0) := by
  obtain ⟨k, rfl⟩ : ∃ k : Nat, p = (k : Int) := ⟨p.toNat, by omega⟩
  exact (bitq64 ⟨k, by omega⟩).symm
theorem bitq1 : ∀ n : Fin 256, (bits .and .u8 (n.val : Int) 1 != 0) = ((n.val : Int) / 1 % 2 == 1) := by decide +kernel
theorem bitp1 (p : Int) (hp : 0 ≤ p ∧ p < 256) : (p / 1 % 2 == 1) = (bits .and .u8 p 1 != 0) := by
  obtain ⟨k, rfl⟩ : ∃ k : Nat, p = (k : Int) := ⟨p.toNat, by omega⟩
  exact (bitq1 ⟨k, by omega⟩).symm
theorem bitq2 : ∀ n : Fin 256, (bits .and .u8 (n.val : Int) 2 != 0) = ((n.val : Int) / 2 % 2 == 1) := by decide +kernel
theorem bitp2 (p : Int) (hp : 0 ≤ p ∧ p < 256) : (p / 2 % 2 == 1) = (bits .and .u8 p 2 != 0) := by
  obtain ⟨k, rfl⟩ : ∃ k : Nat, p = (k : Int) := ⟨p.toNat, by omega⟩
  exact (bitq2 ⟨k, by omega⟩).symm
theorem and64x (a m : Int) (ha : 0 ≤ a ∧ a < 256) (hm : 0 ≤ m ∧ m < 256) : bits .and .i64 a m = bits .and .u8 a m := by
  obtain ⟨k, rfl⟩ : ∃ k : Nat, a = (k : Int) := ⟨a.toNat, by omega⟩
  obtain ⟨n, rfl⟩ : ∃ n : Nat, m = (n : Int) := ⟨m.toNat, by omega⟩
  rw [and_u8 k n (by omega) (by omega)]
  show IntKind.i64.wrap ((BitVec.ofInt 64 (k : Int) &&& BitVec.ofInt 64 (n : Int)).toNat : Int) = _
  rw [BitVec.toNat_and, ofInt_nat 64 k (by omega), ofInt_nat 64 n (by omega)]
  have : k &&& n ≤ k := Nat.and_le_left
  exact IntWalk.i64_in _ ⟨by omega, by omega⟩

set_option maxRecDepth 100000 in
set_option maxHeartbeats 1000000 in
theorem stores_nop (a x y s p : Int) (w : World) (hu : Ok ⟨a, x, y, s, p⟩) (hg : gl w) :
    Calls Tryd.prog 3 #[uv a x y s p, .int .u8 0] w fun e w' => e = .returned (.bool true) ∧ Ext w w' :=
  have hE := fun os q => hg.ext (((Ext.refl w).alloc (.cells #[.int .u8 a, .int .u8 x, .int .u8 y, .int .u8 s, .int .u8 p] 23)).ext os q)
  have _ := hE
  aluStores_g a x y s p 0 0 false { data := #[78, 79, 80] } w hu (by decide) (by decide) (fun w => store_other a x y s p 0 w (by decide) (by decide) (by decide) (by decide)) (fun w => rstore_nop a x y s p w) (fun os q => takes_other a x y s p 0 _ (by decide)) (fun w => rtakes_nop a x y s p w) (fun w => rname_any 0 _ (by decide) rfl w)

set_option maxRecDepth 100000 in
set_option maxHeartbeats 1000000 in
theorem stores_ora (a x y s p : Int) (w : World) (hu : Ok ⟨a, x, y, s, p⟩) (hg : gl w) :
    Calls Tryd.prog 3 #[uv a x y s p, .int .u8 1] w fun e w' => e = .returned (.bool true) ∧ Ext w w' :=
  have hE := fun os q => hg.ext (((Ext.refl w).alloc (.cells #[.int .u8 a, .int .u8 x, .int .u8 y, .int .u8 s, .int .u8 p] 23)).ext os q)
  have _ := hE
  aluStores_g a x y s p 1 0 false { data := #[79, 82, 65] } w hu (by decide) (by decide) (fun w => store_other a x y s p 1 w (by decide) (by decide) (by decide) (by decide)) (fun w => rstore_ora a x y s p w) (fun os q => takes_other a x y s p 1 _ (by decide)) (fun w => rtakes_ora a x y s p w) (fun w => rname_any 1 _ (by decide) rfl w)

set_option maxRecDepth 100000 in
set_option maxHeartbeats 1000000 in
theorem stores_and (a x y s p : Int) (w : World) (hu : Ok ⟨a, x, y, s, p⟩) (hg : gl w) :
    Calls Tryd.prog 3 #[uv a x y s p, .int .u8 2] w fun e w' => e = .returned (.bool true) ∧ Ext w w' :=
  have hE := fun os q => hg.ext (((Ext.refl w).alloc (.cells #[.int .u8 a, .int .u8 x, .int .u8 y, .int .u8 s, .int .u8 p] 23)).ext os q)
  have _ := hE
  aluStores_g a x y s p 2 0 false { data := #[65, 78, 68] } w hu (by decide) (by decide) (fun w => store_other a x y s p 2 w (by decide) (by decide) (by decide) (by decide)) (fun w => rstore_and a x y s p w) (fun os q => takes_other a x y s p 2 _ (by decide)) (fun w => rtakes_and a x y s p w) (fun w => rname_any 2 _ (by decide) rfl w)

set_option maxRecDepth 100000 in
set_option maxHeartbeats 1000000 in
theorem stores_eor (a x y s p : Int) (w : World) (hu : Ok ⟨a, x, y, s, p⟩) (hg : gl w) :
    Calls Tryd.prog 3 #[uv a x y s p, .int .u8 3] w fun e w' => e = .returned (.bool true) ∧ Ext w w' :=
  have hE := fun os q => hg.ext (((Ext.refl w).alloc (.cells #[.int .u8 a, .int .u8 x, .int .u8 y, .int .u8 s, .int .u8 p] 23)).ext os q)
  have _ := hE
  aluStores_g a x y s p 3 0 false { data := #[69, 79, 82] } w hu (by decide) (by decide) (fun w => store_other a x y s p 3 w (by decide) (by decide) (by decide) (by decide)) (fun w => rstore_eor a x y s p w) (fun os q => takes_other a x y s p 3 _ (by decide)) (fun w => rtakes_eor a x y s p w) (fun w => rname_any 3 _ (by decide) rfl w)

set_option maxRecDepth 100000 in
set_option maxHeartbeats 1000000 in
theorem stores_adc (a x y s p : Int) (w : World) (hu : Ok ⟨a, x, y, s, p⟩) (hg : gl w) :
    Calls Tryd.prog 3 #[uv a x y s p, .int .u8 4] w fun e w' => e = .returned (.bool true) ∧ Ext w w' :=
  have hE := fun os q => hg.ext (((Ext.refl w).alloc (.cells #[.int .u8 a, .int .u8 x, .int .u8 y, .int .u8 s, .int .u8 p] 23)).ext os q)
  have _ := hE
  aluStores_g a x y s p 4 0 false { data := #[65, 68, 67] } w hu (by decide) (by decide) (fun w => store_other a x y s p 4 w (by decide) (by decide) (by decide) (by decide)) (fun w => rstore_adc a x y s p w) (fun os q => takes_other a x y s p 4 _ (by decide)) (fun w => rtakes_adc a x y s p w) (fun w => rname_any 4 _ (by decide) rfl w)

set_option maxRecDepth 100000 in
set_option maxHeartbeats 1000000 in
theorem stores_sbc (a x y s p : Int) (w : World) (hu : Ok ⟨a, x, y, s, p⟩) (hg : gl w) :
    Calls Tryd.prog 3 #[uv a x y s p, .int .u8 5] w fun e w' => e = .returned (.bool true) ∧ Ext w w' :=
  have hE := fun os q => hg.ext (((Ext.refl w).alloc (.cells #[.int .u8 a, .int .u8 x, .int .u8 y, .int .u8 s, .int .u8 p] 23)).ext os q)
  have _ := hE
  aluStores_g a x y s p 5 0 false { data := #[83, 66, 67] } w hu (by decide) (by decide) (fun w => store_other a x y s p 5 w (by decide) (by decide) (by decide) (by decide)) (fun w => rstore_sbc a x y s p w) (fun os q => takes_other a x y s p 5 _ (by decide)) (fun w => rtakes_sbc a x y s p w) (fun w => rname_any 5 _ (by decide) rfl w)

set_option maxRecDepth 100000 in
set_option maxHeartbeats 1000000 in
theorem stores_cmp (a x y s p : Int) (w : World) (hu : Ok ⟨a, x, y, s, p⟩) (hg : gl w) :
    Calls Tryd.prog 3 #[uv a x y s p, .int .u8 6] w fun e w' => e = .returned (.bool true) ∧ Ext w w' :=
  have hE := fun os q => hg.ext (((Ext.refl w).alloc (.cells #[.int .u8 a, .int .u8 x, .int .u8 y, .int .u8 s, .int .u8 p] 23)).ext os q)
  have _ := hE
  aluStores_g a x y s p 6 0 false { data := #[67, 77, 80] } w hu (by decide) (by decide) (fun w => store_other a x y s p 6 w (by decide) (by decide) (by decide) (by decide)) (fun w => rstore_cmp a x y s p w) (fun os q => takes_other a x y s p 6 _ (by decide)) (fun w => rtakes_cmp a x y s p w) (fun w => rname_any 6 _ (by decide) rfl w)

set_option maxRecDepth 100000 in
set_option maxHeartbeats 1000000 in
theorem stores_cpx (a x y s p : Int) (w : World) (hu : Ok ⟨a, x, y, s, p⟩) (hg : gl w) :
    Calls Tryd.prog 3 #[uv a x y s p, .int .u8 7] w fun e w' => e = .returned (.bool true) ∧ Ext w w' :=
  have hE := fun os q => hg.ext (((Ext.refl w).alloc (.cells #[.int .u8 a, .int .u8 x, .int .u8 y, .int .u8 s, .int .u8 p] 23)).ext os q)
  have _ := hE
  aluStores_g a x y s p 7 0 false { data := #[67, 80, 88] } w hu (by decide) (by decide) (fun w => store_other a x y s p 7 w (by decide) (by decide) (by decide) (by decide)) (fun w => rstore_cpx a x y s p w) (fun os q => takes_other a x y s p 7 _ (by decide)) (fun w => rtakes_cpx a x y s p w) (fun w => rname_any 7 _ (by decide) rfl w)

set_option maxRecDepth 100000 in
set_option maxHeartbeats 1000000 in
theorem stores_cpy (a x y s p : Int) (w : World) (hu : Ok ⟨a, x, y, s, p⟩) (hg : gl w) :
    Calls Tryd.prog 3 #[uv a x y s p, .int .u8 8] w fun e w' => e = .returned (.bool true) ∧ Ext w w' :=
  have hE := fun os q => hg.ext (((Ext.refl w).alloc (.cells #[.int .u8 a, .int .u8 x, .int .u8 y, .int .u8 s, .int .u8 p] 23)).ext os q)
  have _ := hE
  aluStores_g a x y s p 8 0 false { data := #[67, 80, 89] } w hu (by decide) (by decide) (fun w => store_other a x y s p 8 w (by decide) (by decide) (by decide) (by decide)) (fun w => rstore_cpy a x y s p w) (fun os q => takes_other a x y s p 8 _ (by decide)) (fun w => rtakes_cpy a x y s p w) (fun w => rname_any 8 _ (by decide) rfl w)

set_option maxRecDepth 100000 in
set_option maxHeartbeats 1000000 in
theorem stores_lda (a x y s p : Int) (w : World) (hu : Ok ⟨a, x, y, s, p⟩) (hg : gl w) :
    Calls Tryd.prog 3 #[uv a x y s p, .int .u8 9] w fun e w' => e = .returned (.bool true) ∧ Ext w w' :=
  have hE := fun os q => hg.ext (((Ext.refl w).alloc (.cells #[.int .u8 a, .int .u8 x, .int .u8 y, .int .u8 s, .int .u8 p] 23)).ext os q)
  have _ := hE
  aluStores_g a x y s p 9 0 false { data := #[76, 68, 65] } w hu (by decide) (by decide) (fun w => store_other a x y s p 9 w (by decide) (by decide) (by decide) (by decide)) (fun w => rstore_lda a x y s p w) (fun os q => takes_other a x y s p 9 _ (by decide)) (fun w => rtakes_lda a x y s p w) (fun w => rname_any 9 _ (by decide) rfl w)

set_option maxRecDepth 100000 in
set_option maxHeartbeats 1000000 in
theorem stores_ldx (a x y s p : Int) (w : World) (hu : Ok ⟨a, x, y, s, p⟩) (hg : gl w) :
    Calls Tryd.prog 3 #[uv a x y s p, .int .u8 10] w fun e w' => e = .returned (.bool true) ∧ Ext w w' :=
  have hE := fun os q => hg.ext (((Ext.refl w).alloc (.cells #[.int .u8 a, .int .u8 x, .int .u8 y, .int .u8 s, .int .u8 p] 23)).ext os q)
  have _ := hE
  aluStores_g a x y s p 10 0 false { data := #[76, 68, 88] } w hu (by decide) (by decide) (fun w => store_other a x y s p 10 w (by decide) (by decide) (by decide) (by decide)) (fun w => rstore_ldx a x y s p w) (fun os q => takes_other a x y s p 10 _ (by decide)) (fun w => rtakes_ldx a x y s p w) (fun w => rname_any 10 _ (by decide) rfl w)

set_option maxRecDepth 100000 in
set_option maxHeartbeats 1000000 in
theorem stores_ldy (a x y s p : Int) (w : World) (hu : Ok ⟨a, x, y, s, p⟩) (hg : gl w) :
    Calls Tryd.prog 3 #[uv a x y s p, .int .u8 11] w fun e w' => e = .returned (.bool true) ∧ Ext w w' :=
  have hE := fun os q => hg.ext (((Ext.refl w).alloc (.cells #[.int .u8 a, .int .u8 x, .int .u8 y, .int .u8 s, .int .u8 p] 23)).ext os q)
  have _ := hE
  aluStores_g a x y s p 11 0 false { data := #[76, 68, 89] } w hu (by decide) (by decide) (fun w => store_other a x y s p 11 w (by decide) (by decide) (by decide) (by decide)) (fun w => rstore_ldy a x y s p w) (fun os q => takes_other a x y s p 11 _ (by decide)) (fun w => rtakes_ldy a x y s p w) (fun w => rname_any 11 _ (by decide) rfl w)

set_option maxRecDepth 100000 in
set_option maxHeartbeats 1000000 in
theorem stores_bit (a x y s p : Int) (w : World) (hu : Ok ⟨a, x, y, s, p⟩) (hg : gl w) :
    Calls Tryd.prog 3 #[uv a x y s p, .int .u8 12] w fun e w' => e = .returned (.bool true) ∧ Ext w w' :=
  have hE := fun os q => hg.ext (((Ext.refl w).alloc (.cells #[.int .u8 a, .int .u8 x, .int .u8 y, .int .u8 s, .int .u8 p] 23)).ext os q)
  have _ := hE
  aluStores_g a x y s p 12 0 false { data := #[66, 73, 84] } w hu (by decide) (by decide) (fun w => store_other a x y s p 12 w (by decide) (by decide) (by decide) (by decide)) (fun w => rstore_bit a x y s p w) (fun os q => takes_other a x y s p 12 _ (by decide)) (fun w => rtakes_bit a x y s p w) (fun w => rname_any 12 _ (by decide) rfl w)

set_option maxRecDepth 100000 in
set_option maxHeartbeats 1000000 in
theorem stores_lax (a x y s p : Int) (w : World) (hu : Ok ⟨a, x, y, s, p⟩) (hg : gl w) :
    Calls Tryd.prog 3 #[uv a x y s p, .int .u8 13] w fun e w' => e = .returned (.bool true) ∧ Ext w w' :=
  have hE := fun os q => hg.ext (((Ext.refl w).alloc (.cells #[.int .u8 a, .int .u8 x, .int .u8 y, .int .u8 s, .int .u8 p] 23)).ext os q)
  have _ := hE
  aluStores_g a x y s p 13 0 false { data := #[76, 65, 88] } w hu (by decide) (by decide) (fun w => store_other a x y s p 13 w (by decide) (by decide) (by decide) (by decide)) (fun w => rstore_lax a x y s p w) (fun os q => takes_other a x y s p 13 _ (by decide)) (fun w => rtakes_lax a x y s p w) (fun w => rname_any 13 _ (by decide) rfl w)

set_option maxRecDepth 100000 in
set_option maxHeartbeats 1000000 in
theorem stores_anc (a x y s p : Int) (w : World) (hu : Ok ⟨a, x, y, s, p⟩) (hg : gl w) :
    Calls Tryd.prog 3 #[uv a x y s p, .int .u8 14] w fun e w' => e = .returned (.bool true) ∧ Ext w w' :=
  have hE := fun os q => hg.ext (((Ext.refl w).alloc (.cells #[.int .u8 a, .int .u8 x, .int .u8 y, .int .u8 s, .int .u8 p] 23)).ext os q)
  have _ := hE
  aluStores_g a x y s p 14 0 false { data := #[65, 78, 67] } w hu (by decide) (by decide) (fun w => store_other a x y s p 14 w (by decide) (by decide) (by decide) (by decide)) (fun w => rstore_anc a x y s p w) (fun os q => takes_other a x y s p 14 _ (by decide)) (fun w => rtakes_anc a x y s p w) (fun w => rname_any 14 _ (by decide) rfl w)

set_option maxRecDepth 100000 in
set_option maxHeartbeats 1000000 in
theorem stores_alr (a x y s p : Int) (w : World) (hu : Ok ⟨a, x, y, s, p⟩) (hg : gl w) :
    Calls Tryd.prog 3 #[uv a x y s p, .int .u8 15] w fun e w' => e = .returned (.bool true) ∧ Ext w w' :=
  have hE := fun os q => hg.ext (((Ext.refl w).alloc (.cells #[.int .u8 a, .int .u8 x, .int .u8 y, .int .u8 s, .int .u8 p] 23)).ext os q)
  have _ := hE
  aluStores_g a x y s p 15 0 false { data := #[65, 76, 82] } w hu (by decide) (by decide) (fun w => store_other a x y s p 15 w (by decide) (by decide) (by decide) (by decide)) (fun w => rstore_alr a x y s p w) (fun os q => takes_other a x y s p 15 _ (by decide)) (fun w => rtakes_alr a x y s p w) (fun w => rname_any 15 _ (by decide) rfl w)

set_option maxRecDepth 100000 in
set_option maxHeartbeats 1000000 in
theorem stores_arr (a x y s p : Int) (w : World) (hu : Ok ⟨a, x, y, s, p⟩) (hg : gl w) :
    Calls Tryd.prog 3 #[uv a x y s p, .int .u8 16] w fun e w' => e = .returned (.bool true) ∧ Ext w w' :=
  have hE := fun os q => hg.ext (((Ext.refl w).alloc (.cells #[.int .u8 a, .int .u8 x, .int .u8 y, .int .u8 s, .int .u8 p] 23)).ext os q)
  have _ := hE
  aluStores_g a x y s p 16 0 false { data := #[65, 82, 82] } w hu (by decide) (by decide) (fun w => store_other a x y s p 16 w (by decide) (by decide) (by decide) (by decide)) (fun w => rstore_arr a x y s p w) (fun os q => takes_other a x y s p 16 _ (by decide)) (fun w => rtakes_arr a x y s p w) (fun w => rname_any 16 _ (by decide) rfl w)

set_option maxRecDepth 100000 in
set_option maxHeartbeats 1000000 in
theorem stores_axs (a x y s p : Int) (w : World) (hu : Ok ⟨a, x, y, s, p⟩) (hg : gl w) :
    Calls Tryd.prog 3 #[uv a x y s p, .int .u8 17] w fun e w' => e = .returned (.bool true) ∧ Ext w w' :=
  have hE := fun os q => hg.ext (((Ext.refl w).alloc (.cells #[.int .u8 a, .int .u8 x, .int .u8 y, .int .u8 s, .int .u8 p] 23)).ext os q)
  have _ := hE
  aluStores_g a x y s p 17 0 false { data := #[65, 88, 83] } w hu (by decide) (by decide) (fun w => store_other a x y s p 17 w (by decide) (by decide) (by decide) (by decide)) (fun w => rstore_axs a x y s p w) (fun os q => takes_other a x y s p 17 _ (by decide)) (fun w => rtakes_axs a x y s p w) (fun w => rname_any 17 _ (by decide) rfl w)

set_option maxRecDepth 100000 in
set_option maxHeartbeats 1000000 in
theorem stores_las (a x y s p : Int) (w : World) (hu : Ok ⟨a, x, y, s, p⟩) (hg : gl w) :
    Calls Tryd.prog 3 #[uv a x y s p, .int .u8 18] w fun e w' => e = .returned (.bool true) ∧ Ext w w' :=
  have hE := fun os q => hg.ext (((Ext.refl w).alloc (.cells #[.int .u8 a, .int .u8 x, .int .u8 y, .int .u8 s, .int .u8 p] 23)).ext os q)
  have _ := hE
  aluStores_g a x y s p 18 0 false { data := #[76, 65, 83] } w hu (by decide) (by decide) (fun w => store_other a x y s p 18 w (by decide) (by decide) (by decide) (by decide)) (fun w => rstore_las a x y s p w) (fun os q => takes_other a x y s p 18 _ (by decide)) (fun w => rtakes_las a x y s p w) (fun w => rname_any 18 _ (by decide) rfl w)

set_option maxRecDepth 100000 in
set_option maxHeartbeats 1000000 in
theorem stores_asl (a x y s p : Int) (w : World) (hu : Ok ⟨a, x, y, s, p⟩) (hg : gl w) :
    Calls Tryd.prog 3 #[uv a x y s p, .int .u8 19] w fun e w' => e = .returned (.bool true) ∧ Ext w w' :=
  have hE := fun os q => hg.ext (((Ext.refl w).alloc (.cells #[.int .u8 a, .int .u8 x, .int .u8 y, .int .u8 s, .int .u8 p] 23)).ext os q)
  have _ := hE
  aluStores_g a x y s p 19 0 false { data := #[65, 83, 76] } w hu (by decide) (by decide) (fun w => store_other a x y s p 19 w (by decide) (by decide) (by decide) (by decide)) (fun w => rstore_asl a x y s p w) (fun os q => takes_other a x y s p 19 _ (by decide)) (fun w => rtakes_asl a x y s p w) (fun w => rname_any 19 _ (by decide) rfl w)

set_option maxRecDepth 100000 in
set_option maxHeartbeats 1000000 in
theorem stores_lsr (a x y s p : Int) (w : World) (hu : Ok ⟨a, x, y, s, p⟩) (hg : gl w) :
    Calls Tryd.prog 3 #[uv a x y s p, .int .u8 20] w fun e w' => e = .returned (.bool true) ∧ Ext w w' :=
  have hE := fun os q => hg.ext (((Ext.refl w).alloc (.cells #[.int .u8 a, .int .u8 x, .int .u8 y, .int .u8 s, .int .u8 p] 23)).ext os q)
  have _ := hE
  aluStores_g a x y s p 20 0 false { data := #[76, 83, 82] } w hu (by decide) (by decide) (fun w => store_other a x y s p 20 w (by decide) (by decide) (by decide) (by decide)) (fun w => rstore_lsr a x y s p w) (fun os q => takes_other a x y s p 20 _ (by decide)) (fun w => rtakes_lsr a x y s p w) (fun w => rname_any 20 _ (by decide) rfl w)

set_option maxRecDepth 100000 in
set_option maxHeartbeats 1000000 in
theorem stores_rol (a x y s p : Int) (w : World) (hu : Ok ⟨a, x, y, s, p⟩) (hg : gl w) :
    Calls Tryd.prog 3 #[uv a x y s p, .int .u8 21] w fun e w' => e = .returned (.bool true) ∧ Ext w w' :=
  have hE := fun os q => hg.ext (((Ext.refl w).alloc (.cells #[.int .u8 a, .int .u8 x, .int .u8 y, .int .u8 s, .int .u8 p] 23)).ext os q)
  have _ := hE
  aluStores_g a x y s p 21 0 false { data := #[82, 79, 76] } w hu (by decide) (by decide) (fun w => store_other a x y s p 21 w (by decide) (by decide) (by decide) (by decide)) (fun w => rstore_rol a x y s p w) (fun os q => takes_other a x y s p 21 _ (by decide)) (fun w => rtakes_rol a x y s p w) (fun w => rname_any 21 _ (by decide) rfl w)

set_option maxRecDepth 100000 in
set_option maxHeartbeats 1000000 in
theorem stores_ror (a x y s p : Int) (w : World) (hu : Ok ⟨a, x, y, s, p⟩) (hg : gl w) :
    Calls Tryd.prog 3 #[uv a x y s p, .int .u8 22] w fun e w' => e = .returned (.bool true) ∧ Ext w w' :=
  have hE := fun os q => hg.ext (((Ext.refl w).alloc (.cells #[.int .u8 a, .int .u8 x, .int .u8 y, .int .u8 s, .int .u8 p] 23)).ext os q)
  have _ := hE
  aluStores_g a x y s p 22 0 false { data := #[82, 79, 82] } w hu (by decide) (by decide) (fun w => store_other a x y s p 22 w (by decide) (by decide) (by decide) (by decide)) (fun w => rstore_ror a x y s p w) (fun os q => takes_other a x y s p 22 _ (by decide)) (fun w => rtakes_ror a x y s p w) (fun w => rname_any 22 _ (by decide) rfl w)

set_option maxRecDepth 100000 in
set_option maxHeartbeats 1000000 in
theorem stores_inc (a x y s p : Int) (w : World) (hu : Ok ⟨a, x, y, s, p⟩) (hg : gl w) :
    Calls Tryd.prog 3 #[uv a x y s p, .int .u8 23] w fun e w' => e = .returned (.bool true) ∧ Ext w w' :=
  have hE := fun os q => hg.ext (((Ext.refl w).alloc (.cells #[.int .u8 a, .int .u8 x, .int .u8 y, .int .u8 s, .int .u8 p] 23)).ext os q)
  have _ := hE
  aluStores_g a x y s p 23 0 false { data := #[73, 78, 67] } w hu (by decide) (by decide) (fun w => store_other a x y s p 23 w (by decide) (by decide) (by decide) (by decide)) (fun w => rstore_inc a x y s p w) (fun os q => takes_other a x y s p 23 _ (by decide)) (fun w => rtakes_inc a x y s p w) (fun w => rname_any 23 _ (by decide) rfl w)

set_option maxRecDepth 100000 in
set_option maxHeartbeats 1000000 in
theorem stores_dec (a x y s p : Int) (w : World) (hu : Ok ⟨a, x, y, s, p⟩) (hg : gl w) :
    Calls Tryd.prog 3 #[uv a x y s p, .int .u8 24] w fun e w' => e = .returned (.bool true) ∧ Ext w w' :=
  have hE := fun os q => hg.ext (((Ext.refl w).alloc (.cells #[.int .u8 a, .int .u8 x, .int .u8 y, .int .u8 s, .int .u8 p] 23)).ext os q)
  have _ := hE
  aluStores_g a x y s p 24 0 false { data := #[68, 69, 67] } w hu (by decide) (by decide) (fun w => store_other a x y s p 24 w (by decide) (by decide) (by decide) (by decide)) (fun w => rstore_dec a x y s p w) (fun os q => takes_other a x y s p 24 _ (by decide)) (fun w => rtakes_dec a x y s p w) (fun w => rname_any 24 _ (by decide) rfl w)

set_option maxRecDepth 100000 in
set_option maxHeartbeats 1000000 in
theorem stores_slo (a x y s p : Int) (w : World) (hu : Ok ⟨a, x, y, s, p⟩) (hg : gl w) :
    Calls Tryd.prog 3 #[uv a x y s p, .int .u8 25] w fun e w' => e = .returned (.bool true) ∧ Ext w w' :=
  have hE := fun os q => hg.ext (((Ext.refl w).alloc (.cells #[.int .u8 a, .int .u8 x, .int .u8 y, .int .u8 s, .int .u8 p] 23)).ext os q)
  have _ := hE
  aluStores_g a x y s p 25 0 false { data := #[83, 76, 79] } w hu (by decide) (by decide) (fun w => store_other a x y s p 25 w (by decide) (by decide) (by decide) (by decide)) (fun w => rstore_slo a x y s p w) (fun os q => takes_other a x y s p 25 _ (by decide)) (fun w => rtakes_slo a x y s p w) (fun w => rname_any 25 _ (by decide) rfl w)

set_option maxRecDepth 100000 in
set_option maxHeartbeats 1000000 in
theorem stores_rla (a x y s p : Int) (w : World) (hu : Ok ⟨a, x, y, s, p⟩) (hg : gl w) :
    Calls Tryd.prog 3 #[uv a x y s p, .int .u8 26] w fun e w' => e = .returned (.bool true) ∧ Ext w w' :=
  have hE := fun os q => hg.ext (((Ext.refl w).alloc (.cells #[.int .u8 a, .int .u8 x, .int .u8 y, .int .u8 s, .int .u8 p] 23)).ext os q)
  have _ := hE
  aluStores_g a x y s p 26 0 false { data := #[82, 76, 65] } w hu (by decide) (by decide) (fun w => store_other a x y s p 26 w (by decide) (by decide) (by decide) (by decide)) (fun w => rstore_rla a x y s p w) (fun os q => takes_other a x y s p 26 _ (by decide)) (fun w => rtakes_rla a x y s p w) (fun w => rname_any 26 _ (by decide) rfl w)

set_option maxRecDepth 100000 in
set_option maxHeartbeats 1000000 in
theorem stores_sre (a x y s p : Int) (w : World) (hu : Ok ⟨a, x, y, s, p⟩) (hg : gl w) :
    Calls Tryd.prog 3 #[uv a x y s p, .int .u8 27] w fun e w' => e = .returned (.bool true) ∧ Ext w w' :=
  have hE := fun os q => hg.ext (((Ext.refl w).alloc (.cells #[.int .u8 a, .int .u8 x, .int .u8 y, .int .u8 s, .int .u8 p] 23)).ext os q)
  have _ := hE
  aluStores_g a x y s p 27 0 false { data := #[83, 82, 69] } w hu (by decide) (by decide) (fun w => store_other a x y s p 27 w (by decide) (by decide) (by decide) (by decide)) (fun w => rstore_sre a x y s p w) (fun os q => takes_other a x y s p 27 _ (by decide)) (fun w => rtakes_sre a x y s p w) (fun w => rname_any 27 _ (by decide) rfl w)

set_option maxRecDepth 100000 in
set_option maxHeartbeats 1000000 in
theorem stores_rra (a x y s p : Int) (w : World) (hu : Ok ⟨a, x, y, s, p⟩) (hg : gl w) :
    Calls Tryd.prog 3 #[uv a x y s p, .int .u8 28] w fun e w' => e = .returned (.bool true) ∧ Ext w w' :=
  have hE := fun os q => hg.ext (((Ext.refl w).alloc (.cells #[.int .u8 a, .int .u8 x, .int .u8 y, .int .u8 s, .int .u8 p] 23)).ext os q)
  have _ := hE
  aluStores_g a x y s p 28 0 false { data := #[82, 82, 65] } w hu (by decide) (by decide) (fun w => store_other a x y s p 28 w (by decide) (by decide) (by decide) (by decide)) (fun w => rstore_rra a x y s p w) (fun os q => takes_other a x y s p 28 _ (by decide)) (fun w => rtakes_rra a x y s p w) (fun w => rname_any 28 _ (by decide) rfl w)

set_option maxRecDepth 100000 in
set_option maxHeartbeats 1000000 in
theorem stores_dcp (a x y s p : Int) (w : World) (hu : Ok ⟨a, x, y, s, p⟩) (hg : gl w) :
    Calls Tryd.prog 3 #[uv a x y s p, .int .u8 29] w fun e w' => e = .returned (.bool true) ∧ Ext w w' :=
  have hE := fun os q => hg.ext (((Ext.refl w).alloc (.cells #[.int .u8 a, .int .u8 x, .int .u8 y, .int .u8 s, .int .u8 p] 23)).ext os q)
  have _ := hE
  aluStores_g a x y s p 29 0 false { data := #[68, 67, 80] } w hu (by decide) (by decide) (fun w => store_other a x y s p 29 w (by decide) (by decide) (by decide) (by decide)) (fun w => rstore_dcp a x y s p w) (fun os q => takes_other a x y s p 29 _ (by decide)) (fun w => rtakes_dcp a x y s p w) (fun w => rname_any 29 _ (by decide) rfl w)

set_option maxRecDepth 100000 in
set_option maxHeartbeats 1000000 in
theorem stores_isc (a x y s p : Int) (w : World) (hu : Ok ⟨a, x, y, s, p⟩) (hg : gl w) :
    Calls Tryd.prog 3 #[uv a x y s p, .int .u8 30] w fun e w' => e = .returned (.bool true) ∧ Ext w w' :=
  have hE := fun os q => hg.ext (((Ext.refl w).alloc (.cells #[.int .u8 a, .int .u8 x, .int .u8 y, .int .u8 s, .int .u8 p] 23)).ext os q)
  have _ := hE
  aluStores_g a x y s p 30 0 false { data := #[73, 83, 67] } w hu (by decide) (by decide) (fun w => store_other a x y s p 30 w (by decide) (by decide) (by decide) (by decide)) (fun w => rstore_isc a x y s p w) (fun os q => takes_other a x y s p 30 _ (by decide)) (fun w => rtakes_isc a x y s p w) (fun w => rname_any 30 _ (by decide) rfl w)

set_option maxRecDepth 100000 in
set_option maxHeartbeats 1000000 in
theorem stores_sta (a x y s p : Int) (w : World) (hu : Ok ⟨a, x, y, s, p⟩) (hg : gl w) :
    Calls Tryd.prog 3 #[uv a x y s p, .int .u8 31] w fun e w' => e = .returned (.bool true) ∧ Ext w w' :=
  have hE := fun os q => hg.ext (((Ext.refl w).alloc (.cells #[.int .u8 a, .int .u8 x, .int .u8 y, .int .u8 s, .int .u8 p] 23)).ext os q)
  have _ := hE
  aluStores_g a x y s p 31 a false { data := #[83, 84, 65] } w hu hu.1 (by decide) (fun w => store_31 a x y s p w) (fun w => rstore_sta a x y s p w) (fun os q => takes_other a x y s p 31 _ (by decide)) (fun w => rtakes_sta a x y s p w) (fun w => rname_any 31 _ (by decide) rfl w)

set_option maxRecDepth 100000 in
set_option maxHeartbeats 1000000 in
theorem stores_stx (a x y s p : Int) (w : World) (hu : Ok ⟨a, x, y, s, p⟩) (hg : gl w) :
    Calls Tryd.prog 3 #[uv a x y s p, .int .u8 32] w fun e w' => e = .returned (.bool true) ∧ Ext w w' :=
  have hE := fun os q => hg.ext (((Ext.refl w).alloc (.cells #[.int .u8 a, .int .u8 x, .int .u8 y, .int .u8 s, .int .u8 p] 23)).ext os q)
  have _ := hE
  aluStores_g a x y s p 32 x false { data := #[83, 84, 88] } w hu hu.2.1 (by decide) (fun w => store_32 a x y s p w) (fun w => rstore_stx a x y s p w) (fun os q => takes_other a x y s p 32 _ (by decide)) (fun w => rtakes_stx a x y s p w) (fun w => rname_any 32 _ (by decide) rfl w)

set_option maxRecDepth 100000 in
set_option maxHeartbeats 1000000 in
theorem stores_sty (a x y s p : Int) (w : World) (hu : Ok ⟨a, x, y, s, p⟩) (hg : gl w) :
    Calls Tryd.prog 3 #[uv a x y s p, .int .u8 33] w fun e w' => e = .returned (.bool true) ∧ Ext w w' :=
  have hE := fun os q => hg.ext (((Ext.refl w).alloc (.cells #[.int .u8 a, .int .u8 x, .int .u8 y, .int .u8 s, .int .u8 p] 23)).ext os q)
  have _ := hE
  aluStores_g a x y s p 33 y false { data := #[83, 84, 89] } w hu hu.2.2.1 (by decide) (fun w => store_33 a x y s p w) (fun w => rstore_sty a x y s p w) (fun os q => takes_other a x y s p 33 _ (by decide)) (fun w => rtakes_sty a x y s p w) (fun w => rname_any 33 _ (by decide) rfl w)

set_option maxRecDepth 100000 in
set_option maxHeartbeats 1000000 in
theorem stores_sax (a x y s p : Int) (w : World) (hu : Ok ⟨a, x, y, s, p⟩) (hg : gl w) :
    Calls Tryd.prog 3 #[uv a x y s p, .int .u8 34] w fun e w' => e = .returned (.bool true) ∧ Ext w w' :=
  have hE := fun os q => hg.ext (((Ext.refl w).alloc (.cells #[.int .u8 a, .int .u8 x, .int .u8 y, .int .u8 s, .int .u8 p] 23)).ext os q)
  have _ := hE
  aluStores_g a x y s p 34 (bits .and .u8 a x) false { data := #[83, 65, 88] } w hu (bits_u8 .and a x) (by decide) (fun w => store_34 a x y s p w) (fun w => rstore_sax a x y s p _ (and64x a x hu.1 hu.2.1) w) (fun os q => takes_other a x y s p 34 _ (by decide)) (fun w => rtakes_sax a x y s p w) (fun w => rname_any 34 _ (by decide) rfl w)

set_option maxRecDepth 100000 in
set_option maxHeartbeats 1000000 in
theorem stores_tax (a x y s p : Int) (w : World) (hu : Ok ⟨a, x, y, s, p⟩) (hg : gl w) :
    Calls Tryd.prog 3 #[uv a x y s p, .int .u8 35] w fun e w' => e = .returned (.bool true) ∧ Ext w w' :=
  have hE := fun os q => hg.ext (((Ext.refl w).alloc (.cells #[.int .u8 a, .int .u8 x, .int .u8 y, .int .u8 s, .int .u8 p] 23)).ext os q)
  have _ := hE
  aluStores_g a x y s p 35 0 false { data := #[84, 65, 88] } w hu (by decide) (by decide) (fun w => store_other a x y s p 35 w (by decide) (by decide) (by decide) (by decide)) (fun w => rstore_tax a x y s p w) (fun os q => takes_other a x y s p 35 _ (by decide)) (fun w => rtakes_tax a x y s p w) (fun w => rname_any 35 _ (by decide) rfl w)

set_option maxRecDepth 100000 in
set_option maxHeartbeats 1000000 in
theorem stores_tay (a x y s p : Int) (w : World) (hu : Ok ⟨a, x, y, s, p⟩) (hg : gl w) :
    Calls Tryd.prog 3 #[uv a x y s p, .int .u8 36] w fun e w' => e = .returned (.bool true) ∧ Ext w w' :=
  have hE := fun os q => hg.ext (((Ext.refl w).alloc (.cells #[.int .u8 a, .int .u8 x, .int .u8 y, .int .u8 s, .int .u8 p] 23)).ext os q)
  have _ := hE
  aluStores_g a x y s p 36 0 false { data := #[84, 65, 89] } w hu (by decide) (by decide) (fun w => store_other a x y s p 36 w (by decide) (by decide) (by decide) (by decide)) (fun w => rstore_tay a x y s p w) (fun os q => takes_other a x y s p 36 _ (by decide)) (fun w => rtakes_tay a x y s p w) (fun w => rname_any 36 _ (by decide) rfl w)

set_option maxRecDepth 100000 in
set_option maxHeartbeats 1000000 in
theorem stores_txa (a x y s p : Int) (w : World) (hu : Ok ⟨a, x, y, s, p⟩) (hg : gl w) :
    Calls Tryd.prog 3 #[uv a x y s p, .int .u8 37] w fun e w' => e = .returned (.bool true) ∧ Ext w w' :=
  have hE := fun os q => hg.ext (((Ext.refl w).alloc (.cells #[.int .u8 a, .int .u8 x, .int .u8 y, .int .u8 s, .int .u8 p] 23)).ext os q)
  have _ := hE
  aluStores_g a x y s p 37 0 false { data := #[84, 88, 65] } w hu (by decide) (by decide) (fun w => store_other a x y s p 37 w (by decide) (by decide) (by decide) (by decide)) (fun w => rstore_txa a x y s p w) (fun os q => takes_other a x y s p 37 _ (by decide)) (fun w => rtakes_txa a x y s p w) (fun w => rname_any 37 _ (by decide) rfl w)

set_option maxRecDepth 100000 in
set_option maxHeartbeats 1000000 in
theorem stores_tya (a x y s p : Int) (w : World) (hu : Ok ⟨a, x, y, s, p⟩) (hg : gl w) :
    Calls Tryd.prog 3 #[uv a x y s p, .int .u8 38] w fun e w' => e = .returned (.bool true) ∧ Ext w w' :=
  have hE := fun os q => hg.ext (((Ext.refl w).alloc (.cells #[.int .u8 a, .int .u8 x, .int .u8 y, .int .u8 s, .int .u8 p] 23)).ext os q)
  have _ := hE
  aluStores_g a x y s p 38 0 false { data := #[84, 89, 65] } w hu (by decide) (by decide) (fun w => store_other a x y s p 38 w (by decide) (by decide) (by decide) (by decide)) (fun w => rstore_tya a x y s p w) (fun os q => takes_other a x y s p 38 _ (by decide)) (fun w => rtakes_tya a x y s p w) (fun w => rname_any 38 _ (by decide) rfl w)

set_option maxRecDepth 100000 in
set_option maxHeartbeats 1000000 in
theorem stores_tsx (a x y s p : Int) (w : World) (hu : Ok ⟨a, x, y, s, p⟩) (hg : gl w) :
    Calls Tryd.prog 3 #[uv a x y s p, .int .u8 39] w fun e w' => e = .returned (.bool true) ∧ Ext w w' :=
  have hE := fun os q => hg.ext (((Ext.refl w).alloc (.cells #[.int .u8 a, .int .u8 x, .int .u8 y, .int .u8 s, .int .u8 p] 23)).ext os q)
  have _ := hE
  aluStores_g a x y s p 39 0 false { data := #[84, 83, 88] } w hu (by decide) (by decide) (fun w => store_other a x y s p 39 w (by decide) (by decide) (by decide) (by decide)) (fun w => rstore_tsx a x y s p w) (fun os q => takes_other a x y s p 39 _ (by decide)) (fun w => rtakes_tsx a x y s p w) (fun w => rname_any 39 _ (by decide) rfl w)

set_option maxRecDepth 100000 in
set_option maxHeartbeats 1000000 in
theorem stores_txs (a x y s p : Int) (w : World) (hu : Ok ⟨a, x, y, s, p⟩) (hg : gl w) :
    Calls Tryd.prog 3 #[uv a x y s p, .int .u8 40] w fun e w' => e = .returned (.bool true) ∧ Ext w w' :=
  have hE := fun os q => hg.ext (((Ext.refl w).alloc (.cells #[.int .u8 a, .int .u8 x, .int .u8 y, .int .u8 s, .int .u8 p] 23)).ext os q)
  have _ := hE
  aluStores_g a x y s p 40 0 false { data := #[84, 88, 83] } w hu (by decide) (by decide) (fun w => store_other a x y s p 40 w (by decide) (by decide) (by decide) (by decide)) (fun w => rstore_txs a x y s p w) (fun os q => takes_other a x y s p 40 _ (by decide)) (fun w => rtakes_txs a x y s p w) (fun w => rname_any 40 _ (by decide) rfl w)

set_option maxRecDepth 100000 in
set_option maxHeartbeats 1000000 in
theorem stores_inx (a x y s p : Int) (w : World) (hu : Ok ⟨a, x, y, s, p⟩) (hg : gl w) :
    Calls Tryd.prog 3 #[uv a x y s p, .int .u8 41] w fun e w' => e = .returned (.bool true) ∧ Ext w w' :=
  have hE := fun os q => hg.ext (((Ext.refl w).alloc (.cells #[.int .u8 a, .int .u8 x, .int .u8 y, .int .u8 s, .int .u8 p] 23)).ext os q)
  have _ := hE
  aluStores_g a x y s p 41 0 false { data := #[73, 78, 88] } w hu (by decide) (by decide) (fun w => store_other a x y s p 41 w (by decide) (by decide) (by decide) (by decide)) (fun w => rstore_inx a x y s p w) (fun os q => takes_other a x y s p 41 _ (by decide)) (fun w => rtakes_inx a x y s p w) (fun w => rname_any 41 _ (by decide) rfl w)

set_option maxRecDepth 100000 in
set_option maxHeartbeats 1000000 in
theorem stores_iny (a x y s p : Int) (w : World) (hu : Ok ⟨a, x, y, s, p⟩) (hg : gl w) :
    Calls Tryd.prog 3 #[uv a x y s p, .int .u8 42] w fun e w' => e = .returned (.bool true) ∧ Ext w w' :=
  have hE := fun os q => hg.ext (((Ext.refl w).alloc (.cells #[.int .u8 a, .int .u8 x, .int .u8 y, .int .u8 s, .int .u8 p] 23)).ext os q)
  have _ := hE
  aluStores_g a x y s p 42 0 false { data := #[73, 78, 89] } w hu (by decide) (by decide) (fun w => store_other a x y s p 42 w (by decide) (by decide) (by decide) (by decide)) (fun w => rstore_iny a x y s p w) (fun os q => takes_other a x y s p 42 _ (by decide)) (fun w => rtakes_iny a x y s p w) (fun w => rname_any 42 _ (by decide) rfl w)

set_option maxRecDepth 100000 in
set_option maxHeartbeats 1000000 in
theorem stores_dex (a x y s p : Int) (w : World) (hu : Ok ⟨a, x, y, s, p⟩) (hg : gl w) :
    Calls Tryd.prog 3 #[uv a x y s p, .int .u8 43] w fun e w' => e = .returned (.bool true) ∧ Ext w w' :=
  have hE := fun os q => hg.ext (((Ext.refl w).alloc (.cells #[.int .u8 a, .int .u8 x, .int .u8 y, .int .u8 s, .int .u8 p] 23)).ext os q)
  have _ := hE
  aluStores_g a x y s p 43 0 false { data := #[68, 69, 88] } w hu (by decide) (by decide) (fun w => store_other a x y s p 43 w (by decide) (by decide) (by decide) (by decide)) (fun w => rstore_dex a x y s p w) (fun os q => takes_other a x y s p 43 _ (by decide)) (fun w => rtakes_dex a x y s p w) (fun w => rname_any 43 _ (by decide) rfl w)

set_option maxRecDepth 100000 in
set_option maxHeartbeats 1000000 in
theorem stores_dey (a x y s p : Int) (w : World) (hu : Ok ⟨a, x, y, s, p⟩) (hg : gl w) :
    Calls Tryd.prog 3 #[uv a x y s p, .int .u8 44] w fun e w' => e = .returned (.bool true) ∧ Ext w w' :=
  have hE := fun os q => hg.ext (((Ext.refl w).alloc (.cells #[.int .u8 a, .int .u8 x, .int .u8 y, .int .u8 s, .int .u8 p] 23)).ext os q)
  have _ := hE
  aluStores_g a x y s p 44 0 false { data := #[68, 69, 89] } w hu (by decide) (by decide) (fun w => store_other a x y s p 44 w (by decide) (by decide) (by decide) (by decide)) (fun w => rstore_dey a x y s p w) (fun os q => takes_other a x y s p 44 _ (by decide)) (fun w => rtakes_dey a x y s p w) (fun w => rname_any 44 _ (by decide) rfl w)

set_option maxRecDepth 100000 in
set_option maxHeartbeats 1000000 in
theorem stores_clc (a x y s p : Int) (w : World) (hu : Ok ⟨a, x, y, s, p⟩) (hg : gl w) :
    Calls Tryd.prog 3 #[uv a x y s p, .int .u8 45] w fun e w' => e = .returned (.bool true) ∧ Ext w w' :=
  have hE := fun os q => hg.ext (((Ext.refl w).alloc (.cells #[.int .u8 a, .int .u8 x, .int .u8 y, .int .u8 s, .int .u8 p] 23)).ext os q)
  have _ := hE
  aluStores_g a x y s p 45 0 false { data := #[67, 76, 67] } w hu (by decide) (by decide) (fun w => store_other a x y s p 45 w (by decide) (by decide) (by decide) (by decide)) (fun w => rstore_clc a x y s p w) (fun os q => takes_other a x y s p 45 _ (by decide)) (fun w => rtakes_clc a x y s p w) (fun w => rname_any 45 _ (by decide) rfl w)

set_option maxRecDepth 100000 in
set_option maxHeartbeats 1000000 in
theorem stores_sec (a x y s p : Int) (w : World) (hu : Ok ⟨a, x, y, s, p⟩) (hg : gl w) :
    Calls Tryd.prog 3 #[uv a x y s p, .int .u8 46] w fun e w' => e = .returned (.bool true) ∧ Ext w w' :=
  have hE := fun os q => hg.ext (((Ext.refl w).alloc (.cells #[.int .u8 a, .int .u8 x, .int .u8 y, .int .u8 s, .int .u8 p] 23)).ext os q)
  have _ := hE
  aluStores_g a x y s p 46 0 false { data := #[83, 69, 67] } w hu (by decide) (by decide) (fun w => store_other a x y s p 46 w (by decide) (by decide) (by decide) (by decide)) (fun w => rstore_sec a x y s p w) (fun os q => takes_other a x y s p 46 _ (by decide)) (fun w => rtakes_sec a x y s p w) (fun w => rname_any 46 _ (by decide) rfl w)

set_option maxRecDepth 100000 in
set_option maxHeartbeats 1000000 in
theorem stores_cli (a x y s p : Int) (w : World) (hu : Ok ⟨a, x, y, s, p⟩) (hg : gl w) :
    Calls Tryd.prog 3 #[uv a x y s p, .int .u8 47] w fun e w' => e = .returned (.bool true) ∧ Ext w w' :=
  have hE := fun os q => hg.ext (((Ext.refl w).alloc (.cells #[.int .u8 a, .int .u8 x, .int .u8 y, .int .u8 s, .int .u8 p] 23)).ext os q)
  have _ := hE
  aluStores_g a x y s p 47 0 false { data := #[67, 76, 73] } w hu (by decide) (by decide) (fun w => store_other a x y s p 47 w (by decide) (by decide) (by decide) (by decide)) (fun w => rstore_cli a x y s p w) (fun os q => takes_other a x y s p 47 _ (by decide)) (fun w => rtakes_cli a x y s p w) (fun w => rname_any 47 _ (by decide) rfl w)

set_option maxRecDepth 100000 in
set_option maxHeartbeats 1000000 in
theorem stores_sei (a x y s p : Int) (w : World) (hu : Ok ⟨a, x, y, s, p⟩) (hg : gl w) :
    Calls Tryd.prog 3 #[uv a x y s p, .int .u8 48] w fun e w' => e = .returned (.bool true) ∧ Ext w w' :=
  have hE := fun os q => hg.ext (((Ext.refl w).alloc (.cells #[.int .u8 a, .int .u8 x, .int .u8 y, .int .u8 s, .int .u8 p] 23)).ext os q)
  have _ := hE
  aluStores_g a x y s p 48 0 false { data := #[83, 69, 73] } w hu (by decide) (by decide) (fun w => store_other a x y s p 48 w (by decide) (by decide) (by decide) (by decide)) (fun w => rstore_sei a x y s p w) (fun os q => takes_other a x y s p 48 _ (by decide)) (fun w => rtakes_sei a x y s p w) (fun w => rname_any 48 _ (by decide) rfl w)

set_option maxRecDepth 100000 in
set_option maxHeartbeats 1000000 in
theorem stores_clv (a x y s p : Int) (w : World) (hu : Ok ⟨a, x, y, s, p⟩) (hg : gl w) :
    Calls Tryd.prog 3 #[uv a x y s p, .int .u8 49] w fun e w' => e = .returned (.bool true) ∧ Ext w w' :=
  have hE := fun os q => hg.ext (((Ext.refl w).alloc (.cells #[.int .u8 a, .int .u8 x, .int .u8 y, .int .u8 s, .int .u8 p] 23)).ext os q)
  have _ := hE
  aluStores_g a x y s p 49 0 false { data := #[67, 76, 86] } w hu (by decide) (by decide) (fun w => store_other a x y s p 49 w (by decide) (by decide) (by decide) (by decide)) (fun w => rstore_clv a x y s p w) (fun os q => takes_other a x y s p 49 _ (by decide)) (fun w => rtakes_clv a x y s p w) (fun w => rname_any 49 _ (by decide) rfl w)

set_option maxRecDepth 100000 in
set_option maxHeartbeats 1000000 in
theorem stores_cld (a x y s p : Int) (w : World) (hu : Ok ⟨a, x, y, s, p⟩) (hg : gl w) :
    Calls Tryd.prog 3 #[uv a x y s p, .int .u8 50] w fun e w' => e = .returned (.bool true) ∧ Ext w w' :=
  have hE := fun os q => hg.ext (((Ext.refl w).alloc (.cells #[.int .u8 a, .int .u8 x, .int .u8 y, .int .u8 s, .int .u8 p] 23)).ext os q)
  have _ := hE
  aluStores_g a x y s p 50 0 false { data := #[67, 76, 68] } w hu (by decide) (by decide) (fun w => store_other a x y s p 50 w (by decide) (by decide) (by decide) (by decide)) (fun w => rstore_cld a x y s p w) (fun os q => takes_other a x y s p 50 _ (by decide)) (fun w => rtakes_cld a x y s p w) (fun w => rname_any 50 _ (by decide) rfl w)

set_option maxRecDepth 100000 in
set_option maxHeartbeats 1000000 in
theorem stores_sed (a x y s p : Int) (w : World) (hu : Ok ⟨a, x, y, s, p⟩) (hg : gl w) :
    Calls Tryd.prog 3 #[uv a x y s p, .int .u8 51] w fun e w' => e = .returned (.bool true) ∧ Ext w w' :=
  have hE := fun os q => hg.ext (((Ext.refl w).alloc (.cells #[.int .u8 a, .int .u8 x, .int .u8 y, .int .u8 s, .int .u8 p] 23)).ext os q)
  have _ := hE
  aluStores_g a x y s p 51 0 false { data := #[83, 69, 68] } w hu (by decide) (by decide) (fun w => store_other a x y s p 51 w (by decide) (by decide) (by decide) (by decide)) (fun w => rstore_sed a x y s p w) (fun os q => takes_other a x y s p 51 _ (by decide)) (fun w => rtakes_sed a x y s p w) (fun w => rname_any 51 _ (by decide) rfl w)

set_option maxRecDepth 100000 in
set_option maxHeartbeats 1000000 in
theorem stores_bpl (a x y s p : Int) (w : World) (hu : Ok ⟨a, x, y, s, p⟩) (hg : gl w) :
    Calls Tryd.prog 3 #[uv a x y s p, .int .u8 52] w fun e w' => e = .returned (.bool true) ∧ Ext w w' :=
  have hE := fun os q => hg.ext (((Ext.refl w).alloc (.cells #[.int .u8 a, .int .u8 x, .int .u8 y, .int .u8 s, .int .u8 p] 23)).ext os q)
  have _ := hE
  aluStores_g a x y s p 52 0 (!(bits .and .u8 p 128 != 0)) { data := #[66, 80, 76] } w hu (by decide) (by decide) (fun w => store_other a x y s p 52 w (by decide) (by decide) (by decide) (by decide)) (fun w => rstore_bpl a x y s p w) (fun os q => takes_52 a x y s p _ _ (hE os q).1 (hE os q).2.1 rfl) (fun w => rtakes_bpl a x y s p _ hu.2.2.2.2 (bitp128 p hu.2.2.2.2) w) (fun w => rname_any 52 _ (by decide) rfl w)

set_option maxRecDepth 100000 in
set_option maxHeartbeats 1000000 in
theorem stores_bmi (a x y s p : Int) (w : World) (hu : Ok ⟨a, x, y, s, p⟩) (hg : gl w) :
    Calls Tryd.prog 3 #[uv a x y s p, .int .u8 53] w fun e w' => e = .returned (.bool true) ∧ Ext w w' :=
  have hE := fun os q => hg.ext (((Ext.refl w).alloc (.cells #[.int .u8 a, .int .u8 x, .int .u8 y, .int .u8 s, .int .u8 p] 23)).ext os q)
  have _ := hE
  aluStores_g a x y s p 53 0 (bits .and .u8 p 128 != 0) { data := #[66, 77, 73] } w hu (by decide) (by decide) (fun w => store_other a x y s p 53 w (by decide) (by decide) (by decide) (by decide)) (fun w => rstore_bmi a x y s p w) (fun os q => takes_53 a x y s p _ _ (hE os q).1 (hE os q).2.1 rfl) (fun w => rtakes_bmi a x y s p _ hu.2.2.2.2 (bitp128 p hu.2.2.2.2) w) (fun w => rname_any 53 _ (by decide) rfl w)

set_option maxRecDepth 100000 in
set_option maxHeartbeats 1000000 in
theorem stores_bvc (a x y s p : Int) (w : World) (hu : Ok ⟨a, x, y, s, p⟩) (hg : gl w) :
    Calls Tryd.prog 3 #[uv a x y s p, .int .u8 54] w fun e w' => e = .returned (.bool true) ∧ Ext w w' :=
  have hE := fun os q => hg.ext (((Ext.refl w).alloc (.cells #[.int .u8 a, .int .u8 x, .int .u8 y, .int .u8 s, .int .u8 p] 23)).ext os q)
  have _ := hE
  aluStores_g a x y s p 54 0 (!(bits .and .u8 p 64 != 0)) { data := #[66, 86, 67] } w hu (by decide) (by decide) (fun w => store_other a x y s p 54 w (by decide) (by decide) (by decide) (by decide)) (fun w => rstore_bvc a x y s p w) (fun os q => takes_54 a x y s p _ _ (hE os q).1 (hE os q).2.2.1 rfl) (fun w => rtakes_bvc a x y s p _ hu.2.2.2.2 (bitp64 p hu.2.2.2.2) w) (fun w => rname_any 54 _ (by decide) rfl w)

set_option maxRecDepth 100000 in
set_option maxHeartbeats 1000000 in
theorem stores_bvs (a x y s p : Int) (w : World) (hu : Ok ⟨a, x, y, s, p⟩) (hg : gl w) :
    Calls Tryd.prog 3 #[uv a x y s p, .int .u8 55] w fun e w' => e = .returned (.bool true) ∧ Ext w w' :=
  have hE := fun os q => hg.ext (((Ext.refl w).alloc (.cells #[.int .u8 a, .int .u8 x, .int .u8 y, .int .u8 s, .int .u8 p] 23)).ext os q)
  have _ := hE
  aluStores_g a x y s p 55 0 (bits .and .u8 p 64 != 0) { data := #[66, 86, 83] } w hu (by decide) (by decide) (fun w => store_other a x y s p 55 w (by decide) (by decide) (by decide) (by decide)) (fun w => rstore_bvs a x y s p w) (fun os q => takes_55 a x y s p _ _ (hE os q).1 (hE os q).2.2.1 rfl) (fun w => rtakes_bvs a x y s p _ hu.2.2.2.2 (bitp64 p hu.2.2.2.2) w) (fun w => rname_any 55 _ (by decide) rfl w)

set_option maxRecDepth 100000 in
set_option maxHeartbeats 1000000 in
theorem stores_bcc (a x y s p : Int) (w : World) (hu : Ok ⟨a, x, y, s, p⟩) (hg : gl w) :
    Calls Tryd.prog 3 #[uv a x y s p, .int .u8 56] w fun e w' => e = .returned (.bool true) ∧ Ext w w' :=
  have hE := fun os q => hg.ext (((Ext.refl w).alloc (.cells #[.int .u8 a, .int .u8 x, .int .u8 y, .int .u8 s, .int .u8 p] 23)).ext os q)
  have _ := hE
  aluStores_g a x y s p 56 0 (!(bits .and .u8 p 1 != 0)) { data := #[66, 67, 67] } w hu (by decide) (by decide) (fun w => store_other a x y s p 56 w (by decide) (by decide) (by decide) (by decide)) (fun w => rstore_bcc a x y s p w) (fun os q => takes_56 a x y s p _ _ (hE os q).1 (hE os q).2.2.2.1 rfl) (fun w => rtakes_bcc a x y s p _ hu.2.2.2.2 (bitp1 p hu.2.2.2.2) w) (fun w => rname_any 56 _ (by decide) rfl w)

set_option maxRecDepth 100000 in
set_option maxHeartbeats 1000000 in
theorem stores_bcs (a x y s p : Int) (w : World) (hu : Ok ⟨a, x, y, s, p⟩) (hg : gl w) :
    Calls Tryd.prog 3 #[uv a x y s p, .int .u8 57] w fun e w' => e = .returned (.bool true) ∧ Ext w w' :=
  have hE := fun os q => hg.ext (((Ext.refl w).alloc (.cells #[.int .u8 a, .int .u8 x, .int .u8 y, .int .u8 s, .int .u8 p] 23)).ext os q)
  have _ := hE
  aluStores_g a x y s p 57 0 (bits .and .u8 p 1 != 0) { data := #[66, 67, 83] } w hu (by decide) (by decide) (fun w => store_other a x y s p 57 w (by decide) (by decide) (by decide) (by decide)) (fun w => rstore_bcs a x y s p w) (fun os q => takes_57 a x y s p _ _ (hE os q).1 (hE os q).2.2.2.1 rfl) (fun w => rtakes_bcs a x y s p _ hu.2.2.2.2 (bitp1 p hu.2.2.2.2) w) (fun w => rname_any 57 _ (by decide) rfl w)

set_option maxRecDepth 100000 in
set_option maxHeartbeats 1000000 in
theorem stores_bne (a x y s p : Int) (w : World) (hu : Ok ⟨a, x, y, s, p⟩) (hg : gl w) :
    Calls Tryd.prog 3 #[uv a x y s p, .int .u8 58] w fun e w' => e = .returned (.bool true) ∧ Ext w w' :=
  have hE := fun os q => hg.ext (((Ext.refl w).alloc (.cells #[.int .u8 a, .int .u8 x, .int .u8 y, .int .u8 s, .int .u8 p] 23)).ext os q)
  have _ := hE
  aluStores_g a x y s p 58 0 (!(bits .and .u8 p 2 != 0)) { data := #[66, 78, 69] } w hu (by decide) (by decide) (fun w => store_other a x y s p 58 w (by decide) (by decide) (by decide) (by decide)) (fun w => rstore_bne a x y s p w) (fun os q => takes_58 a x y s p _ _ (hE os q).1 (hE os q).2.2.2.2 rfl) (fun w => rtakes_bne a x y s p _ hu.2.2.2.2 (bitp2 p hu.2.2.2.2) w) (fun w => rname_any 58 _ (by decide) rfl w)

set_option maxRecDepth 100000 in
set_option maxHeartbeats 1000000 in
theorem stores_beq (a x y s p : Int) (w : World) (hu : Ok ⟨a, x, y, s, p⟩) (hg : gl w) :
    Calls Tryd.prog 3 #[uv a x y s p, .int .u8 59] w fun e w' => e = .returned (.bool true) ∧ Ext w w' :=
  have hE := fun os q => hg.ext (((Ext.refl w).alloc (.cells #[.int .u8 a, .int .u8 x, .int .u8 y, .int .u8 s, .int .u8 p] 23)).ext os q)
  have _ := hE
  aluStores_g a x y s p 59 0 (bits .and .u8 p 2 != 0) { data := #[66, 69, 81] } w hu (by decide) (by decide) (fun w => store_other a x y s p 59 w (by decide) (by decide) (by decide) (by decide)) (fun w => rstore_beq a x y s p w) (fun os q => takes_59 a x y s p _ _ (hE os q).1 (hE os q).2.2.2.2 rfl) (fun w => rtakes_beq a x y s p _ hu.2.2.2.2 (bitp2 p hu.2.2.2.2) w) (fun w => rname_any 59 _ (by decide) rfl w)

set_option maxRecDepth 100000 in
set_option maxHeartbeats 1000000 in
theorem stores_jmp (a x y s p : Int) (w : World) (hu : Ok ⟨a, x, y, s, p⟩) (hg : gl w) :
    Calls Tryd.prog 3 #[uv a x y s p, .int .u8 60] w fun e w' => e = .returned (.bool true) ∧ Ext w w' :=
  have hE := fun os q => hg.ext (((Ext.refl w).alloc (.cells #[.int .u8 a, .int .u8 x, .int .u8 y, .int .u8 s, .int .u8 p] 23)).ext os q)
  have _ := hE
  aluStores_g a x y s p 60 0 false { data := #[74, 77, 80] } w hu (by decide) (by decide) (fun w => store_other a x y s p 60 w (by decide) (by decide) (by decide) (by decide)) (fun w => rstore_jmp a x y s p w) (fun os q => takes_other a x y s p 60 _ (by decide)) (fun w => rtakes_jmp a x y s p w) (fun w => rname_any 60 _ (by decide) rfl w)

set_option maxRecDepth 100000 in
set_option maxHeartbeats 1000000 in
theorem stores_jsr (a x y s p : Int) (w : World) (hu : Ok ⟨a, x, y, s, p⟩) (hg : gl w) :
    Calls Tryd.prog 3 #[uv a x y s p, .int .u8 61] w fun e w' => e = .returned (.bool true) ∧ Ext w w' :=
  have hE := fun os q => hg.ext (((Ext.refl w).alloc (.cells #[.int .u8 a, .int .u8 x, .int .u8 y, .int .u8 s, .int .u8 p] 23)).ext os q)
  have _ := hE
  aluStores_g a x y s p 61 0 false { data := #[74, 83, 82] } w hu (by decide) (by decide) (fun w => store_other a x y s p 61 w (by decide) (by decide) (by decide) (by decide)) (fun w => rstore_jsr a x y s p w) (fun os q => takes_other a x y s p 61 _ (by decide)) (fun w => rtakes_jsr a x y s p w) (fun w => rname_any 61 _ (by decide) rfl w)

set_option maxRecDepth 100000 in
set_option maxHeartbeats 1000000 in
theorem stores_rts (a x y s p : Int) (w : World) (hu : Ok ⟨a, x, y, s, p⟩) (hg : gl w) :
    Calls Tryd.prog 3 #[uv a x y s p, .int .u8 62] w fun e w' => e = .returned (.bool true) ∧ Ext w w' :=
  have hE := fun os q => hg.ext (((Ext.refl w).alloc (.cells #[.int .u8 a, .int .u8 x, .int .u8 y, .int .u8 s, .int .u8 p] 23)).ext os q)
  have _ := hE
  aluStores_g a x y s p 62 0 false { data := #[82, 84, 83] } w hu (by decide) (by decide) (fun w => store_other a x y s p 62 w (by decide) (by decide) (by decide) (by decide)) (fun w => rstore_rts a x y s p w) (fun os q => takes_other a x y s p 62 _ (by decide)) (fun w => rtakes_rts a x y s p w) (fun w => rname_any 62 _ (by decide) rfl w)

set_option maxRecDepth 100000 in
set_option maxHeartbeats 1000000 in
theorem stores_rti (a x y s p : Int) (w : World) (hu : Ok ⟨a, x, y, s, p⟩) (hg : gl w) :
    Calls Tryd.prog 3 #[uv a x y s p, .int .u8 63] w fun e w' => e = .returned (.bool true) ∧ Ext w w' :=
  have hE := fun os q => hg.ext (((Ext.refl w).alloc (.cells #[.int .u8 a, .int .u8 x, .int .u8 y, .int .u8 s, .int .u8 p] 23)).ext os q)
  have _ := hE
  aluStores_g a x y s p 63 0 false { data := #[82, 84, 73] } w hu (by decide) (by decide) (fun w => store_other a x y s p 63 w (by decide) (by decide) (by decide) (by decide)) (fun w => rstore_rti a x y s p w) (fun os q => takes_other a x y s p 63 _ (by decide)) (fun w => rtakes_rti a x y s p w) (fun w => rname_any 63 _ (by decide) rfl w)

set_option maxRecDepth 100000 in
set_option maxHeartbeats 1000000 in
theorem stores_brk (a x y s p : Int) (w : World) (hu : Ok ⟨a, x, y, s, p⟩) (hg : gl w) :
    Calls Tryd.prog 3 #[uv a x y s p, .int .u8 64] w fun e w' => e = .returned (.bool true) ∧ Ext w w' :=
  have hE := fun os q => hg.ext (((Ext.refl w).alloc (.cells #[.int .u8 a, .int .u8 x, .int .u8 y, .int .u8 s, .int .u8 p] 23)).ext os q)
  have _ := hE
  aluStores_g a x y s p 64 0 false { data := #[66, 82, 75] } w hu (by decide) (by decide) (fun w => store_other a x y s p 64 w (by decide) (by decide) (by decide) (by decide)) (fun w => rstore_brk a x y s p w) (fun os q => takes_other a x y s p 64 _ (by decide)) (fun w => rtakes_brk a x y s p w) (fun w => rname_any 64 _ (by decide) rfl w)

set_option maxRecDepth 100000 in
set_option maxHeartbeats 1000000 in
theorem stores_pha (a x y s p : Int) (w : World) (hu : Ok ⟨a, x, y, s, p⟩) (hg : gl w) :
    Calls Tryd.prog 3 #[uv a x y s p, .int .u8 65] w fun e w' => e = .returned (.bool true) ∧ Ext w w' :=
  have hE := fun os q => hg.ext (((Ext.refl w).alloc (.cells #[.int .u8 a, .int .u8 x, .int .u8 y, .int .u8 s, .int .u8 p] 23)).ext os q)
  have _ := hE
  aluStores_g a x y s p 65 0 false { data := #[80, 72, 65] } w hu (by decide) (by decide) (fun w => store_other a x y s p 65 w (by decide) (by decide) (by decide) (by decide)) (fun w => rstore_pha a x y s p w) (fun os q => takes_other a x y s p 65 _ (by decide)) (fun w => rtakes_pha a x y s p w) (fun w => rname_any 65 _ (by decide) rfl w)

set_option maxRecDepth 100000 in
set_option maxHeartbeats 1000000 in
theorem stores_php (a x y s p : Int) (w : World) (hu : Ok ⟨a, x, y, s, p⟩) (hg : gl w) :
    Calls Tryd.prog 3 #[uv a x y s p, .int .u8 66] w fun e w' => e = .returned (.bool true) ∧ Ext w w' :=
  have hE := fun os q => hg.ext (((Ext.refl w).alloc (.cells #[.int .u8 a, .int .u8 x, .int .u8 y, .int .u8 s, .int .u8 p] 23)).ext os q)
  have _ := hE
  aluStores_g a x y s p 66 0 false { data := #[80, 72, 80] } w hu (by decide) (by decide) (fun w => store_other a x y s p 66 w (by decide) (by decide) (by decide) (by decide)) (fun w => rstore_php a x y s p w) (fun os q => takes_other a x y s p 66 _ (by decide)) (fun w => rtakes_php a x y s p w) (fun w => rname_any 66 _ (by decide) rfl w)

set_option maxRecDepth 100000 in
set_option maxHeartbeats 1000000 in
theorem stores_pla (a x y s p : Int) (w : World) (hu : Ok ⟨a, x, y, s, p⟩) (hg : gl w) :
    Calls Tryd.prog 3 #[uv a x y s p, .int .u8 67] w fun e w' => e = .returned (.bool true) ∧ Ext w w' :=
  have hE := fun os q => hg.ext (((Ext.refl w).alloc (.cells #[.int .u8 a, .int .u8 x, .int .u8 y, .int .u8 s, .int .u8 p] 23)).ext os q)
  have _ := hE
  aluStores_g a x y s p 67 0 false { data := #[80, 76, 65] } w hu (by decide) (by decide) (fun w => store_other a x y s p 67 w (by decide) (by decide) (by decide) (by decide)) (fun w => rstore_pla a x y s p w) (fun os q => takes_other a x y s p 67 _ (by decide)) (fun w => rtakes_pla a x y s p w) (fun w => rname_any 67 _ (by decide) rfl w)

set_option maxRecDepth 100000 in
set_option maxHeartbeats 1000000 in
theorem stores_plp (a x y s p : Int) (w : World) (hu : Ok ⟨a, x, y, s, p⟩) (hg : gl w) :
    Calls Tryd.prog 3 #[uv a x y s p, .int .u8 68] w fun e w' => e = .returned (.bool true) ∧ Ext w w' :=
  have hE := fun os q => hg.ext (((Ext.refl w).alloc (.cells #[.int .u8 a, .int .u8 x, .int .u8 y, .int .u8 s, .int .u8 p] 23)).ext os q)
  have _ := hE
  aluStores_g a x y s p 68 0 false { data := #[80, 76, 80] } w hu (by decide) (by decide) (fun w => store_other a x y s p 68 w (by decide) (by decide) (by decide) (by decide)) (fun w => rstore_plp a x y s p w) (fun os q => takes_other a x y s p 68 _ (by decide)) (fun w => rtakes_plp a x y s p w) (fun w => rname_any 68 _ (by decide) rfl w)

set_option maxRecDepth 100000 in
set_option maxHeartbeats 1000000 in
theorem stores_jam (a x y s p : Int) (w : World) (hu : Ok ⟨a, x, y, s, p⟩) (hg : gl w) :
    Calls Tryd.prog 3 #[uv a x y s p, .int .u8 69] w fun e w' => e = .returned (.bool true) ∧ Ext w w' :=
  have hE := fun os q => hg.ext (((Ext.refl w).alloc (.cells #[.int .u8 a, .int .u8 x, .int .u8 y, .int .u8 s, .int .u8 p] 23)).ext os q)
  have _ := hE
  aluStores_g a x y s p 69 0 false { data := #[74, 65, 77] } w hu (by decide) (by decide) (fun w => store_other a x y s p 69 w (by decide) (by decide) (by decide) (by decide)) (fun w => rstore_jam a x y s p w) (fun os q => takes_other a x y s p 69 _ (by decide)) (fun w => rtakes_jam a x y s p w) (fun w => rname_any 69 _ (by decide) rfl w)

theorem aluStores_w (a x y s p op : Int) (w : World) (hu : Ok ⟨a, x, y, s, p⟩) (hop : 0 ≤ op ∧ op < 256) (hg : gl w) :
    Calls Tryd.prog 3 #[uv a x y s p, .int .u8 op] w fun e w' => e = .returned (.bool true) ∧ Ext w w' := by
  by_cases h0 : op = 0
  · subst h0; exact stores_nop a x y s p w hu hg
  by_cases h1 : op = 1
  · subst h1; exact stores_ora a x y s p w hu hg
  by_cases h2 : op = 2
  · subst h2; exact stores_and a x y s p w hu hg
  by_cases h3 : op = 3
  · subst h3; exact stores_eor a x y s p w hu hg
  by_cases h4 : op = 4
  · subst h4; exact stores_adc a x y s p w hu hg
  by_cases h5 : op = 5
  · subst h5; exact stores_sbc a x y s p w hu hg
  by_cases h6 : op = 6
  · subst h6; exact stores_cmp a x y s p w hu hg
  by_cases h7 : op = 7
  · subst h7; exact stores_cpx a x y s p w hu hg
  by_cases h8 : op = 8
  · subst h8; exact stores_cpy a x y s p w hu hg
  by_cases h9 : op = 9
  · subst h9; exact stores_lda a x y s p w hu hg
  by_cases h10 : op = 10
  · subst h10; exact stores_ldx a x y s p w hu hg
  by_cases h11 : op = 11
  · subst h11; exact stores_ldy a x y s p w hu hg
  by_cases h12 : op = 12
  · subst h12; exact stores_bit a x y s p w hu hg
  by_cases h13 : op = 13
  · subst h13; exact stores_lax a x y s p w hu hg
  by_cases h14 : op = 14
  · subst h14; exact stores_anc a x y s p w hu hg
  by_cases h15 : op = 15
  · subst h15; exact stores_alr a x y s p w hu hg
  by_cases h16 : op = 16
  · subst h16; exact stores_arr a x y s p w hu hg
  by_cases h17 : op = 17
  · subst h17; exact stores_axs a x y s p w hu hg
  by_cases h18 : op = 18
  · subst h18; exact stores_las a x y s p w hu hg
  by_cases h19 : op = 19
  · subst h19; exact stores_asl a x y s p w hu hg
  by_cases h20 : op = 20
  · subst h20; exact stores_lsr a x y s p w hu hg
  by_cases h21 : op = 21
  · subst h21; exact stores_rol a x y s p w hu hg
  by_cases h22 : op = 22
  · subst h22; exact stores_ror a x y s p w hu hg
  by_cases h23 : op = 23
  · subst h23; exact stores_inc a x y s p w hu hg
  by_cases h24 : op = 24
  · subst h24; exact stores_dec a x y s p w hu hg
  by_cases h25 : op = 25
  · subst h25; exact stores_slo a x y s p w hu hg
  by_cases h26 : op = 26
  · subst h26; exact stores_rla a x y s p w hu hg
  by_cases h27 : op = 27
  · subst h27; exact stores_sre a x y s p w hu hg
  by_cases h28 : op = 28
  · subst h28; exact stores_rra a x y s p w hu hg
  by_cases h29 : op = 29
  · subst h29; exact stores_dcp a x y s p w hu hg
  by_cases h30 : op = 30
  · subst h30; exact stores_isc a x y s p w hu hg
  by_cases h31 : op = 31
  · subst h31; exact stores_sta a x y s p w hu hg
  by_cases h32 : op = 32
  · subst h32; exact stores_stx a x y s p w hu hg
  by_cases h33 : op = 33
  · subst h33; exact stores_sty a x y s p w hu hg
  by_cases h34 : op = 34
  · subst h34; exact stores_sax a x y s p w hu hg
  by_cases h35 : op = 35
  · subst h35; exact stores_tax a x y s p w hu hg
  by_cases h36 : op = 36
  · subst h36; exact stores_tay a x y s p w hu hg
  by_cases h37 : op = 37
  · subst h37; exact stores_txa a x y s p w hu hg
  by_cases h38 : op = 38
  · subst h38; exact stores_tya a x y s p w hu hg
  by_cases h39 : op = 39
  · subst h39; exact stores_tsx a x y s p w hu hg
  by_cases h40 : op = 40
  · subst h40; exact stores_txs a x y s p w hu hg
  by_cases h41 : op = 41
  · subst h41; exact stores_inx a x y s p w hu hg
  by_cases h42 : op = 42
  · subst h42; exact stores_iny a x y s p w hu hg
  by_cases h43 : op = 43
  · subst h43; exact stores_dex a x y s p w hu hg
  by_cases h44 : op = 44
  · subst h44; exact stores_dey a x y s p w hu hg
  by_cases h45 : op = 45
  · subst h45; exact stores_clc a x y s p w hu hg
  by_cases h46 : op = 46
  · subst h46; exact stores_sec a x y s p w hu hg
  by_cases h47 : op = 47
  · subst h47; exact stores_cli a x y s p w hu hg
  by_cases h48 : op = 48
  · subst h48; exact stores_sei a x y s p w hu hg
  by_cases h49 : op = 49
  · subst h49; exact stores_clv a x y s p w hu hg
  by_cases h50 : op = 50
  · subst h50; exact stores_cld a x y s p w hu hg
  by_cases h51 : op = 51
  · subst h51; exact stores_sed a x y s p w hu hg
  by_cases h52 : op = 52
  · subst h52; exact stores_bpl a x y s p w hu hg
  by_cases h53 : op = 53
  · subst h53; exact stores_bmi a x y s p w hu hg
  by_cases h54 : op = 54
  · subst h54; exact stores_bvc a x y s p w hu hg
  by_cases h55 : op = 55
  · subst h55; exact stores_bvs a x y s p w hu hg
  by_cases h56 : op = 56
  · subst h56; exact stores_bcc a x y s p w hu hg
  by_cases h57 : op = 57
  · subst h57; exact stores_bcs a x y s p w hu hg
  by_cases h58 : op = 58
  · subst h58; exact stores_bne a x y s p w hu hg
  by_cases h59 : op = 59
  · subst h59; exact stores_beq a x y s p w hu hg
  by_cases h60 : op = 60
  · subst h60; exact stores_jmp a x y s p w hu hg
  by_cases h61 : op = 61
  · subst h61; exact stores_jsr a x y s p w hu hg
  by_cases h62 : op = 62
  · subst h62; exact stores_rts a x y s p w hu hg
  by_cases h63 : op = 63
  · subst h63; exact stores_rti a x y s p w hu hg
  by_cases h64 : op = 64
  · subst h64; exact stores_brk a x y s p w hu hg
  by_cases h65 : op = 65
  · subst h65; exact stores_pha a x y s p w hu hg
  by_cases h66 : op = 66
  · subst h66; exact stores_php a x y s p w hu hg
  by_cases h67 : op = 67
  · subst h67; exact stores_pla a x y s p w hu hg
  by_cases h68 : op = 68
  · subst h68; exact stores_plp a x y s p w hu hg
  by_cases h69 : op = 69
  · subst h69; exact stores_jam a x y s p w hu hg
  have h70 : 70 ≤ op := by omega
  exact aluStores_g a x y s p op 0 false { data := #[] } w hu (by decide) hop (fun w => store_other a x y s p op w (by omega) (by omega) (by omega) (by omega)) (fun w => rstore_none a x y s p w)
    (fun os q => takes_other a x y s p op _ (by unfold kindU; rw [if_neg (by omega), if_neg (by omega), if_neg (by omega), if_neg (by omega), if_neg (by omega), if_neg (by omega)]; decide)) (fun w => rtakes_none a x y s p w) (fun w => rname_none op h70 w)

end Go.Proofs.YtigpmmjbdpnkjaaDoor
