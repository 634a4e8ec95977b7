/- Contracts of package alu: sums, turns, and operations of two. No law is claimed here. -/
import Derived.Test.YtigpmmjbdpnkjaaDoorAlu1
namespace Go.Proofs.YtigpmmjbdpnkjaaDoor
open Go.RowKit

theorem bits_u8 (o : BinOp) (x y : Int) : 0 ≤ bits o .u8 x y ∧ bits o .u8 x y < 256 := by
  have h : ∀ z : Int, 0 ≤ IntKind.u8.wrap z ∧ IntKind.u8.wrap z < 256 := fun z => by rw [wrap_u8_mod]; omega
  unfold bits
  exact h _

/-- five cells of a block, in a world with more in it -/
theorem bx_ext {v : World} {b : Nat} {k : IntKind} {a x y s p : Int} (h : b < v.heap.size ∧ v.cell? ⟨b, 0, none⟩ = some (.int k a) ∧ v.cell? ⟨b, 1, none⟩ = some (.int k x) ∧ v.cell? ⟨b, 2, none⟩ = some (.int k y) ∧ v.cell? ⟨b, 3, none⟩ = some (.int k s) ∧ v.cell? ⟨b, 4, none⟩ = some (.int k p)) (os : List Obj) (q : Nat) :
    b < (ext v os q).heap.size ∧ (ext v os q).cell? ⟨b, 0, none⟩ = some (.int k a) ∧ (ext v os q).cell? ⟨b, 1, none⟩ = some (.int k x) ∧ (ext v os q).cell? ⟨b, 2, none⟩ = some (.int k y) ∧ (ext v os q).cell? ⟨b, 3, none⟩ = some (.int k s) ∧ (ext v os q).cell? ⟨b, 4, none⟩ = some (.int k p) := by
  obtain ⟨h0, h1, h2, h3, h4, h5⟩ := h
  refine ⟨ext_lt _ _ _ _ h0, ?_, ?_, ?_, ?_, ?_⟩ <;> (rw [ext_cell _ _ _ _ h0]; assumption)

def bitU (u : Un) (m : Int) : Un := flU (flU (flU u 128 (bits .and .u8 m 128 != 0)) 64 (bits .and .u8 m 64 != 0)) 2 (bits .and .u8 u.a m == 0)
def notB (m : Int) : Int := bits .xor .u8 (if IntKind.u8.signed = true then -1 else IntKind.u8.max) m
def adcV (u : Un) (m : Int) (k : Bool) : Un :=
  ldaU (flU (flU u 1 (decide (255 < u.a + m + bits .and .u8 u.p 1))) 64 (k && (bits .and .u8 u.a 128 != bits .and .u8 ((u.a + m + bits .and .u8 u.p 1) % 256) 128))) ((u.a + m + bits .and .u8 u.p 1) % 256)
def adcU (u : Un) (m : Int) : Un := adcV u m (bits .and .u8 u.a 128 == bits .and .u8 m 128)

set_option maxRecDepth 100000 in
set_option maxHeartbeats 1000000 in
theorem adc_k (a x y s p m : Int) (k : Bool) (hk : (bits .and .u8 a 128 == bits .and .u8 m 128) = k) (ha : 0 ≤ a) (ha2 : a < 256) (hm : 0 ≤ m) (hm2 : m < 256) (w : World) :
    Calls Tryd.prog 21 #[uv a x y s p, .int .u8 m] w fun e w' => e = .returned (uu (adcV ⟨a, x, y, s, p⟩ m k)) ∧ Ext w w' := by
  have F0 := flag_any
  unfold uu uv at F0
  have F1 := carry_any
  unfold uv at F1
  have F2 := lda_any
  unfold uu uv at F2
  have r1 := ext_cell
  have r2 := ext_frozen
  have r3 := ext_setCell
  have r4 := ext_lt
  have r5 := ext_drew
  have r6 := ext_ext
  have hc := (bits_u8 .and p 1).1
  have hc2 := (bits_u8 .and p 1).2
  have e1 : IntKind.i64.wrap a = a := IntWalk.i64_in _ ⟨by omega, by omega⟩
  have e2 : IntKind.i64.wrap m = m := IntWalk.i64_in _ ⟨by omega, by omega⟩
  have e3 : IntKind.i64.wrap (bits .and .u8 p 1) = bits .and .u8 p 1 := IntWalk.i64_in _ ⟨by omega, by omega⟩
  have e4 : IntKind.i64.wrap (a + m) = a + m := IntWalk.i64_in _ ⟨by omega, by omega⟩
  have e5 : IntKind.i64.wrap (a + m + bits .and .u8 p 1) = a + m + bits .and .u8 p 1 := IntWalk.i64_in _ ⟨by omega, by omega⟩
  clear ha ha2 hm hm2 hc hc2
  cases k
  all_goals
   unfold uu uv
   go_enter Tryd.func21, Tryd.ntmps21
   go_upto_region 1 with (fail)
   go_region_held3 (fun v => w.heap.size < v.heap.size ∧ v.cell? ⟨w.heap.size, 0, none⟩ = some (.int .u8 a) ∧ v.cell? ⟨w.heap.size, 1, none⟩ = some (.int .u8 x) ∧ v.cell? ⟨w.heap.size, 2, none⟩ = some (.int .u8 y) ∧ v.cell? ⟨w.heap.size, 3, none⟩ = some (.int .u8 s) ∧ v.cell? ⟨w.heap.size, 4, none⟩ = some (.int .u8 p)) (first | assumption | exact bx_ext (by assumption) _ _ | (simp [go_sem]; done)) (first | (go_at_call 36; refine (F1 _ _ _ _ _ _).mono ?_; rintro e w' ⟨rfl, os, q, rfl⟩))
   rename_i hH
   clear hH
   go_wp2_with (first | (go_at_call 37; refine (F0 _ _ _ _ _ _ _ _).mono ?_; rintro e w' ⟨rfl, os, q, rfl⟩) | (go_at_call 26; refine (F2 _ _ _ _ _ _ _).mono ?_; rintro e w' ⟨rfl, os, q, rfl⟩))
   refine bodyPost_ret (by simp [results, Tryd.results21, go_sem, *] <;> (repeat' (first | exact rfl | refine And.intro ?_ ?_))) rfl ⟨rfl, ?_⟩
   repeat (first | exact Ext.refl _ | refine Ext.alloc ?_ _ | refine Ext.ext ?_ _ _ | refine Ext.drew ?_ | refine Ext.drewN ?_ _)
theorem adc_any (a x y s p m : Int) (ha : 0 ≤ a) (ha2 : a < 256) (hm : 0 ≤ m) (hm2 : m < 256) (w : World) :
    Calls Tryd.prog 21 #[uv a x y s p, .int .u8 m] w fun e w' => e = .returned (uu (adcU ⟨a, x, y, s, p⟩ m)) ∧ Ext w w' :=
  adc_k a x y s p m _ rfl ha ha2 hm hm2 w

set_option maxRecDepth 100000 in
set_option maxHeartbeats 1000000 in
theorem bit_any (a x y s p m : Int) (w : World) :
    Calls Tryd.prog 29 #[uv a x y s p, .int .u8 m] w fun e w' => e = .returned (uu (bitU ⟨a, x, y, s, p⟩ m)) ∧ Ext w w' := by
  have F0 := flag_any
  unfold uu uv at F0
  have r1 := ext_cell
  have r2 := ext_frozen
  have r3 := ext_setCell
  have r4 := ext_lt
  have r5 := ext_drew
  have r6 := ext_ext
  unfold uu uv
  go_enter Tryd.func29, Tryd.ntmps29
  go_upto_region 1 with (fail)
  go_region_held3 (fun v => w.heap.size < v.heap.size ∧ v.cell? ⟨w.heap.size, 0, none⟩ = some (.int .u8 a) ∧ v.cell? ⟨w.heap.size, 1, none⟩ = some (.int .u8 x) ∧ v.cell? ⟨w.heap.size, 2, none⟩ = some (.int .u8 y) ∧ v.cell? ⟨w.heap.size, 3, none⟩ = some (.int .u8 s) ∧ v.cell? ⟨w.heap.size, 4, none⟩ = some (.int .u8 p)) (first | assumption | exact bx_ext (by assumption) _ _ | (simp [go_sem]; done) | (refine bx_ext ?_ _ _; simp [go_sem]; done)) (first | (go_at_call 37; refine (F0 _ _ _ _ _ _ _ _).mono ?_; rintro e w' ⟨rfl, os, q, rfl⟩))
  all_goals go_wp2
  all_goals
    refine bodyPost_ret (by simp [results, Tryd.results29, go_sem, *] <;> (repeat' (first | exact rfl | refine And.intro ?_ ?_))) rfl ⟨rfl, ?_⟩
    repeat (first | exact Ext.refl _ | refine Ext.alloc ?_ _ | refine Ext.ext ?_ _ _ | refine Ext.drew ?_ | refine Ext.drewN ?_ _)

set_option maxRecDepth 100000 in
set_option maxHeartbeats 1000000 in
theorem ror_any (a x y s p m : Int) (w : World) :
    Calls Tryd.prog 42 #[uv a x y s p, .int .u8 m] w fun e w' => e = .returned (.tuple #[uu (rightU ⟨a, x, y, s, p⟩ m (bits .and .u8 p 1)).1, .int .u8 (rightU ⟨a, x, y, s, p⟩ m (bits .and .u8 p 1)).2]) ∧ Ext w w' := by
  have F0 := carry_any
  unfold uv at F0
  have F1 := right_any
  unfold uu uv at F1
  have r1 := ext_cell
  have r2 := ext_frozen
  have r3 := ext_setCell
  have r4 := ext_lt
  have r5 := ext_drew
  have r6 := ext_ext
  unfold uu uv
  go_enter Tryd.func42, Tryd.ntmps42
  go_upto_region 1 with (fail)
  go_region_held3 (fun v => w.heap.size < v.heap.size ∧ v.cell? ⟨w.heap.size, 0, none⟩ = some (.int .u8 a) ∧ v.cell? ⟨w.heap.size, 1, none⟩ = some (.int .u8 x) ∧ v.cell? ⟨w.heap.size, 2, none⟩ = some (.int .u8 y) ∧ v.cell? ⟨w.heap.size, 3, none⟩ = some (.int .u8 s) ∧ v.cell? ⟨w.heap.size, 4, none⟩ = some (.int .u8 p)) (first | assumption | exact bx_ext (by assumption) _ _ | (simp [go_sem]; done) | (refine bx_ext ?_ _ _; simp [go_sem]; done)) (first | (go_at_call 36; refine (F0 _ _ _ _ _ _).mono ?_; rintro e w' ⟨rfl, os, q, rfl⟩) | (go_at_call 43; refine (F1 _ _ _ _ _ _ _ _).mono ?_; rintro e w' ⟨rfl, os, q, rfl⟩))
  all_goals go_wp2
  all_goals
    refine bodyPost_ret (by simp [results, Tryd.results42, go_sem, *] <;> (repeat' (first | exact rfl | refine And.intro ?_ ?_))) rfl ⟨rfl, ?_⟩
    repeat (first | exact Ext.refl _ | refine Ext.alloc ?_ _ | refine Ext.ext ?_ _ _ | refine Ext.drew ?_ | refine Ext.drewN ?_ _)

set_option maxRecDepth 100000 in
set_option maxHeartbeats 1000000 in
theorem sbc_any (a x y s p m : Int) (ha : 0 ≤ a) (ha2 : a < 256) (w : World) :
    Calls Tryd.prog 22 #[uv a x y s p, .int .u8 m] w fun e w' => e = .returned (uu (adcU ⟨a, x, y, s, p⟩ (notB m))) ∧ Ext w w' := by
  have F0 := adc_any
  unfold uu uv at F0
  have r1 := ext_cell
  have r2 := ext_frozen
  have r3 := ext_setCell
  have r4 := ext_lt
  have r5 := ext_drew
  have r6 := ext_ext
  have n1 := (bits_u8 .xor (if IntKind.u8.signed = true then -1 else IntKind.u8.max) m).1
  have n2 := (bits_u8 .xor (if IntKind.u8.signed = true then -1 else IntKind.u8.max) m).2
  unfold uu uv
  go_enter Tryd.func22, Tryd.ntmps22
  go_wp2_with (first | (go_at_call 21; refine (F0 _ _ _ _ _ _ (by first | assumption | omega) (by first | assumption | omega) (by first | assumption | omega) (by first | assumption | omega) _).mono ?_; rintro e w' ⟨rfl, os, q, rfl⟩))
  all_goals
    refine bodyPost_ret (by simp [results, Tryd.results22, go_sem, *] <;> (repeat' (first | exact rfl | refine And.intro ?_ ?_))) rfl ⟨rfl, ?_⟩
    repeat (first | exact Ext.refl _ | refine Ext.alloc ?_ _ | refine Ext.ext ?_ _ _ | refine Ext.drew ?_ | refine Ext.drewN ?_ _)

end Go.Proofs.YtigpmmjbdpnkjaaDoor
