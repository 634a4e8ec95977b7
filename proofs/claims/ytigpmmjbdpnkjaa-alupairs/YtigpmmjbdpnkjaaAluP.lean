/- An operation of two does the one, then the other (walks). No law is claimed here. -/
import Derived.Test.YtigpmmjbdpnkjaaAluA
import Derived.Test.YtigpmmjbdpnkjaaAlu8
namespace Go.Proofs.Ytigpmmjbdpnkjaa
open Go.RowKit

set_option maxRecDepth 100000 in
set_option maxHeartbeats 2000000 in
theorem pair_slo (a x y s p m z : Int) (w : World) (ha : 0 ≤ a ∧ a < 256) (_hm : 0 ≤ m ∧ m < 256) (hz : z.tmod 6 = 0) :
    Calls Try.prog 9 #[uv a x y s p, .int .u8 m, .int .u8 z] w fun e w' => e = .returned (.bool true) ∧ Ext w w' := by
  have F0 := awake_any
  obtain ⟨R, hRR⟩ : ∃ R, R = leftU ⟨a, x, y, s, p⟩ m 0 := ⟨_, rfl⟩
  have hA : 0 ≤ R.1.a ∧ R.1.a < 256 := by rw [hRR]; exact ha
  have hR : 0 ≤ R.2 ∧ R.2 < 256 := by rw [hRR]; exact bits_u8 .or _ _
  have F1 : ∀ w, Calls Try.prog 20 #[.agg #[.int .u8 a, .int .u8 x, .int .u8 y, .int .u8 s, .int .u8 p], .int .u8 25, .int .u8 m] w fun e w' => e = .returned (.tuple #[uu (oraU R.1 R.2), .int .u8 R.2]) ∧ Ext w w' := by
    subst hRR; exact fun w => Change_slo a x y s p m w
  have F2 : ∀ w, Calls Try.prog 20 #[.agg #[.int .u8 a, .int .u8 x, .int .u8 y, .int .u8 s, .int .u8 p], .int .u8 19, .int .u8 m] w fun e w' => e = .returned (.tuple #[.agg #[.int .u8 R.1.a, .int .u8 R.1.x, .int .u8 R.1.y, .int .u8 R.1.s, .int .u8 R.1.p], .int .u8 R.2]) ∧ Ext w w' := by
    subst hRR; exact fun w => Change_asl a x y s p m w
  have F3 : ∀ w, Calls Try.prog 18 #[.agg #[.int .u8 R.1.a, .int .u8 R.1.x, .int .u8 R.1.y, .int .u8 R.1.s, .int .u8 R.1.p], .int .u8 1, .int .u8 R.2] w fun e w' => e = .returned (uu (oraU R.1 R.2)) ∧ Ext w w' :=
    fun w => Read_ora R.1.a R.1.x R.1.y R.1.s R.1.p R.2 w
  generalize oraU R.1 R.2 = T at *
  unfold uu uv at F1 F3
  clear hRR hA hR ha _hm
  have r1 := ext_cell
  have r2 := ext_frozen
  have r3 := ext_setCell
  have r4 := ext_lt
  have r5 := ext_drew
  have r6 := ext_ext
  have r7 := ext_lt1
  unfold uv
  go_enter Try.func9, Try.ntmps9
  go_upto_region 6 with (first | (go_at_call 13; refine (F0 _).mono ?_; rintro e w' ⟨rfl, os, q, rfl⟩) | (go_at_call 20; refine (F1 _).mono ?_; rintro e w1 ⟨rfl, hE1⟩; have B1 := boxE (Ext.trans (Ext.alloc (Ext.alloc (Ext.ext (Ext.refl _) _ _) _) _) hE1); obtain ⟨z1, c0, c1, c2, c3, c4⟩ := B1))
  have z2 := Nat.lt_succ_of_lt z1
  simp only [Nat.succ_eq_add_one] at z2
  go_upto_region 7 with (go_at_call 20; refine (F2 _).mono ?_; rintro e w2 ⟨rfl, hE2⟩; have B2 := boxE hE2)
  have B3 := B2.ext ((Ext.refl _).alloc (.cells #[.int .u8 R.1.a, .int .u8 R.1.x, .int .u8 R.1.y, .int .u8 R.1.s, .int .u8 R.1.p] 23))
  have B4 := Bx.made w2 .u8 R.1.a R.1.x R.1.y R.1.s R.1.p 23
  go_region_held3 (fun v => (w1.heap.size < v.heap.size ∧ v.cell? ⟨w1.heap.size, 0, none⟩ = some (.int .u8 T.a) ∧ v.cell? ⟨w1.heap.size, 1, none⟩ = some (.int .u8 T.x) ∧ v.cell? ⟨w1.heap.size, 2, none⟩ = some (.int .u8 T.y) ∧ v.cell? ⟨w1.heap.size, 3, none⟩ = some (.int .u8 T.s) ∧ v.cell? ⟨w1.heap.size, 4, none⟩ = some (.int .u8 T.p)) ∧ (w2.heap.size < v.heap.size ∧ v.cell? ⟨w2.heap.size, 0, none⟩ = some (.int .u8 R.1.a) ∧ v.cell? ⟨w2.heap.size, 1, none⟩ = some (.int .u8 R.1.x) ∧ v.cell? ⟨w2.heap.size, 2, none⟩ = some (.int .u8 R.1.y) ∧ v.cell? ⟨w2.heap.size, 3, none⟩ = some (.int .u8 R.1.s) ∧ v.cell? ⟨w2.heap.size, 4, none⟩ = some (.int .u8 R.1.p))) (first | assumption | exact ⟨B3, B4⟩ | exact ⟨bx_ext B3 _ _, bx_ext B4 _ _⟩) (first | (go_at_call 18; refine (F3 _).mono ?_; rintro e w' ⟨rfl, os, q, rfl⟩))
  all_goals
    go_wp2
    go_ret
    refine ⟨rfl, ?_⟩
    repeat (first | exact Ext.refl _ | refine Ext.trans ?_ hE2 | refine Ext.trans ?_ hE1 | refine Ext.alloc ?_ _ | refine Ext.ext ?_ _ _ | refine Ext.drew ?_ | refine Ext.drewN ?_ _)

set_option maxRecDepth 100000 in
set_option maxHeartbeats 2000000 in
theorem pair_rla (a x y s p m z : Int) (w : World) (ha : 0 ≤ a ∧ a < 256) (_hm : 0 ≤ m ∧ m < 256) (hz : z.tmod 6 = 1) :
    Calls Try.prog 9 #[uv a x y s p, .int .u8 m, .int .u8 z] w fun e w' => e = .returned (.bool true) ∧ Ext w w' := by
  have F0 := awake_any
  obtain ⟨R, hRR⟩ : ∃ R, R = leftU ⟨a, x, y, s, p⟩ m (bits .and .u8 p 1) := ⟨_, rfl⟩
  have hA : 0 ≤ R.1.a ∧ R.1.a < 256 := by rw [hRR]; exact ha
  have hR : 0 ≤ R.2 ∧ R.2 < 256 := by rw [hRR]; exact bits_u8 .or _ _
  have F1 : ∀ w, Calls Try.prog 20 #[.agg #[.int .u8 a, .int .u8 x, .int .u8 y, .int .u8 s, .int .u8 p], .int .u8 26, .int .u8 m] w fun e w' => e = .returned (.tuple #[uu (andU R.1 R.2), .int .u8 R.2]) ∧ Ext w w' := by
    subst hRR; exact fun w => Change_rla a x y s p m w
  have F2 : ∀ w, Calls Try.prog 20 #[.agg #[.int .u8 a, .int .u8 x, .int .u8 y, .int .u8 s, .int .u8 p], .int .u8 21, .int .u8 m] w fun e w' => e = .returned (.tuple #[.agg #[.int .u8 R.1.a, .int .u8 R.1.x, .int .u8 R.1.y, .int .u8 R.1.s, .int .u8 R.1.p], .int .u8 R.2]) ∧ Ext w w' := by
    subst hRR; exact fun w => Change_rol a x y s p m w
  have F3 : ∀ w, Calls Try.prog 18 #[.agg #[.int .u8 R.1.a, .int .u8 R.1.x, .int .u8 R.1.y, .int .u8 R.1.s, .int .u8 R.1.p], .int .u8 2, .int .u8 R.2] w fun e w' => e = .returned (uu (andU R.1 R.2)) ∧ Ext w w' :=
    fun w => Read_and R.1.a R.1.x R.1.y R.1.s R.1.p R.2 w
  generalize andU R.1 R.2 = T at *
  unfold uu uv at F1 F3
  clear hRR hA hR ha _hm
  have r1 := ext_cell
  have r2 := ext_frozen
  have r3 := ext_setCell
  have r4 := ext_lt
  have r5 := ext_drew
  have r6 := ext_ext
  have r7 := ext_lt1
  unfold uv
  go_enter Try.func9, Try.ntmps9
  go_upto_region 6 with (first | (go_at_call 13; refine (F0 _).mono ?_; rintro e w' ⟨rfl, os, q, rfl⟩) | (go_at_call 20; refine (F1 _).mono ?_; rintro e w1 ⟨rfl, hE1⟩; have B1 := boxE (Ext.trans (Ext.alloc (Ext.alloc (Ext.ext (Ext.refl _) _ _) _) _) hE1); obtain ⟨z1, c0, c1, c2, c3, c4⟩ := B1))
  have z2 := Nat.lt_succ_of_lt z1
  simp only [Nat.succ_eq_add_one] at z2
  go_upto_region 7 with (go_at_call 20; refine (F2 _).mono ?_; rintro e w2 ⟨rfl, hE2⟩; have B2 := boxE hE2)
  have B3 := B2.ext ((Ext.refl _).alloc (.cells #[.int .u8 R.1.a, .int .u8 R.1.x, .int .u8 R.1.y, .int .u8 R.1.s, .int .u8 R.1.p] 23))
  have B4 := Bx.made w2 .u8 R.1.a R.1.x R.1.y R.1.s R.1.p 23
  go_region_held3 (fun v => (w1.heap.size < v.heap.size ∧ v.cell? ⟨w1.heap.size, 0, none⟩ = some (.int .u8 T.a) ∧ v.cell? ⟨w1.heap.size, 1, none⟩ = some (.int .u8 T.x) ∧ v.cell? ⟨w1.heap.size, 2, none⟩ = some (.int .u8 T.y) ∧ v.cell? ⟨w1.heap.size, 3, none⟩ = some (.int .u8 T.s) ∧ v.cell? ⟨w1.heap.size, 4, none⟩ = some (.int .u8 T.p)) ∧ (w2.heap.size < v.heap.size ∧ v.cell? ⟨w2.heap.size, 0, none⟩ = some (.int .u8 R.1.a) ∧ v.cell? ⟨w2.heap.size, 1, none⟩ = some (.int .u8 R.1.x) ∧ v.cell? ⟨w2.heap.size, 2, none⟩ = some (.int .u8 R.1.y) ∧ v.cell? ⟨w2.heap.size, 3, none⟩ = some (.int .u8 R.1.s) ∧ v.cell? ⟨w2.heap.size, 4, none⟩ = some (.int .u8 R.1.p))) (first | assumption | exact ⟨B3, B4⟩ | exact ⟨bx_ext B3 _ _, bx_ext B4 _ _⟩) (first | (go_at_call 18; refine (F3 _).mono ?_; rintro e w' ⟨rfl, os, q, rfl⟩))
  all_goals
    go_wp2
    go_ret
    refine ⟨rfl, ?_⟩
    repeat (first | exact Ext.refl _ | refine Ext.trans ?_ hE2 | refine Ext.trans ?_ hE1 | refine Ext.alloc ?_ _ | refine Ext.ext ?_ _ _ | refine Ext.drew ?_ | refine Ext.drewN ?_ _)

set_option maxRecDepth 100000 in
set_option maxHeartbeats 2000000 in
theorem pair_sre (a x y s p m z : Int) (w : World) (ha : 0 ≤ a ∧ a < 256) (_hm : 0 ≤ m ∧ m < 256) (hz : z.tmod 6 = 2) :
    Calls Try.prog 9 #[uv a x y s p, .int .u8 m, .int .u8 z] w fun e w' => e = .returned (.bool true) ∧ Ext w w' := by
  have F0 := awake_any
  obtain ⟨R, hRR⟩ : ∃ R, R = rightU ⟨a, x, y, s, p⟩ m 0 := ⟨_, rfl⟩
  have hA : 0 ≤ R.1.a ∧ R.1.a < 256 := by rw [hRR]; exact ha
  have hR : 0 ≤ R.2 ∧ R.2 < 256 := by rw [hRR]; exact bits_u8 .or _ _
  have F1 : ∀ w, Calls Try.prog 20 #[.agg #[.int .u8 a, .int .u8 x, .int .u8 y, .int .u8 s, .int .u8 p], .int .u8 27, .int .u8 m] w fun e w' => e = .returned (.tuple #[uu (eorU R.1 R.2), .int .u8 R.2]) ∧ Ext w w' := by
    subst hRR; exact fun w => Change_sre a x y s p m w
  have F2 : ∀ w, Calls Try.prog 20 #[.agg #[.int .u8 a, .int .u8 x, .int .u8 y, .int .u8 s, .int .u8 p], .int .u8 20, .int .u8 m] w fun e w' => e = .returned (.tuple #[.agg #[.int .u8 R.1.a, .int .u8 R.1.x, .int .u8 R.1.y, .int .u8 R.1.s, .int .u8 R.1.p], .int .u8 R.2]) ∧ Ext w w' := by
    subst hRR; exact fun w => Change_lsr a x y s p m w
  have F3 : ∀ w, Calls Try.prog 18 #[.agg #[.int .u8 R.1.a, .int .u8 R.1.x, .int .u8 R.1.y, .int .u8 R.1.s, .int .u8 R.1.p], .int .u8 3, .int .u8 R.2] w fun e w' => e = .returned (uu (eorU R.1 R.2)) ∧ Ext w w' :=
    fun w => Read_eor R.1.a R.1.x R.1.y R.1.s R.1.p R.2 w
  generalize eorU R.1 R.2 = T at *
  unfold uu uv at F1 F3
  clear hRR hA hR ha _hm
  have r1 := ext_cell
  have r2 := ext_frozen
  have r3 := ext_setCell
  have r4 := ext_lt
  have r5 := ext_drew
  have r6 := ext_ext
  have r7 := ext_lt1
  unfold uv
  go_enter Try.func9, Try.ntmps9
  go_upto_region 6 with (first | (go_at_call 13; refine (F0 _).mono ?_; rintro e w' ⟨rfl, os, q, rfl⟩) | (go_at_call 20; refine (F1 _).mono ?_; rintro e w1 ⟨rfl, hE1⟩; have B1 := boxE (Ext.trans (Ext.alloc (Ext.alloc (Ext.ext (Ext.refl _) _ _) _) _) hE1); obtain ⟨z1, c0, c1, c2, c3, c4⟩ := B1))
  have z2 := Nat.lt_succ_of_lt z1
  simp only [Nat.succ_eq_add_one] at z2
  go_upto_region 7 with (go_at_call 20; refine (F2 _).mono ?_; rintro e w2 ⟨rfl, hE2⟩; have B2 := boxE hE2)
  have B3 := B2.ext ((Ext.refl _).alloc (.cells #[.int .u8 R.1.a, .int .u8 R.1.x, .int .u8 R.1.y, .int .u8 R.1.s, .int .u8 R.1.p] 23))
  have B4 := Bx.made w2 .u8 R.1.a R.1.x R.1.y R.1.s R.1.p 23
  go_region_held3 (fun v => (w1.heap.size < v.heap.size ∧ v.cell? ⟨w1.heap.size, 0, none⟩ = some (.int .u8 T.a) ∧ v.cell? ⟨w1.heap.size, 1, none⟩ = some (.int .u8 T.x) ∧ v.cell? ⟨w1.heap.size, 2, none⟩ = some (.int .u8 T.y) ∧ v.cell? ⟨w1.heap.size, 3, none⟩ = some (.int .u8 T.s) ∧ v.cell? ⟨w1.heap.size, 4, none⟩ = some (.int .u8 T.p)) ∧ (w2.heap.size < v.heap.size ∧ v.cell? ⟨w2.heap.size, 0, none⟩ = some (.int .u8 R.1.a) ∧ v.cell? ⟨w2.heap.size, 1, none⟩ = some (.int .u8 R.1.x) ∧ v.cell? ⟨w2.heap.size, 2, none⟩ = some (.int .u8 R.1.y) ∧ v.cell? ⟨w2.heap.size, 3, none⟩ = some (.int .u8 R.1.s) ∧ v.cell? ⟨w2.heap.size, 4, none⟩ = some (.int .u8 R.1.p))) (first | assumption | exact ⟨B3, B4⟩ | exact ⟨bx_ext B3 _ _, bx_ext B4 _ _⟩) (first | (go_at_call 18; refine (F3 _).mono ?_; rintro e w' ⟨rfl, os, q, rfl⟩))
  all_goals
    go_wp2
    go_ret
    refine ⟨rfl, ?_⟩
    repeat (first | exact Ext.refl _ | refine Ext.trans ?_ hE2 | refine Ext.trans ?_ hE1 | refine Ext.alloc ?_ _ | refine Ext.ext ?_ _ _ | refine Ext.drew ?_ | refine Ext.drewN ?_ _)

set_option maxRecDepth 100000 in
set_option maxHeartbeats 2000000 in
theorem pair_rra (a x y s p m z : Int) (w : World) (ha : 0 ≤ a ∧ a < 256) (_hm : 0 ≤ m ∧ m < 256) (hz : z.tmod 6 = 3) :
    Calls Try.prog 9 #[uv a x y s p, .int .u8 m, .int .u8 z] w fun e w' => e = .returned (.bool true) ∧ Ext w w' := by
  have F0 := awake_any
  obtain ⟨R, hRR⟩ : ∃ R, R = rightU ⟨a, x, y, s, p⟩ m (bits .and .u8 p 1) := ⟨_, rfl⟩
  have hA : 0 ≤ R.1.a ∧ R.1.a < 256 := by rw [hRR]; exact ha
  have hR : 0 ≤ R.2 ∧ R.2 < 256 := by rw [hRR]; exact bits_u8 .or _ _
  have F1 : ∀ w, Calls Try.prog 20 #[.agg #[.int .u8 a, .int .u8 x, .int .u8 y, .int .u8 s, .int .u8 p], .int .u8 28, .int .u8 m] w fun e w' => e = .returned (.tuple #[uu (adcU R.1 R.2), .int .u8 R.2]) ∧ Ext w w' := by
    subst hRR; exact fun w => Change_rra a x y s p m ha.1 ha.2 w
  have F2 : ∀ w, Calls Try.prog 20 #[.agg #[.int .u8 a, .int .u8 x, .int .u8 y, .int .u8 s, .int .u8 p], .int .u8 22, .int .u8 m] w fun e w' => e = .returned (.tuple #[.agg #[.int .u8 R.1.a, .int .u8 R.1.x, .int .u8 R.1.y, .int .u8 R.1.s, .int .u8 R.1.p], .int .u8 R.2]) ∧ Ext w w' := by
    subst hRR; exact fun w => Change_ror a x y s p m w
  have F3 : ∀ w, Calls Try.prog 18 #[.agg #[.int .u8 R.1.a, .int .u8 R.1.x, .int .u8 R.1.y, .int .u8 R.1.s, .int .u8 R.1.p], .int .u8 4, .int .u8 R.2] w fun e w' => e = .returned (uu (adcU R.1 R.2)) ∧ Ext w w' :=
    fun w => Read_adc R.1.a R.1.x R.1.y R.1.s R.1.p R.2 hA.1 hA.2 hR.1 hR.2 w
  generalize adcU R.1 R.2 = T at *
  unfold uu uv at F1 F3
  clear hRR hA hR ha _hm
  have r1 := ext_cell
  have r2 := ext_frozen
  have r3 := ext_setCell
  have r4 := ext_lt
  have r5 := ext_drew
  have r6 := ext_ext
  have r7 := ext_lt1
  unfold uv
  go_enter Try.func9, Try.ntmps9
  go_upto_region 6 with (first | (go_at_call 13; refine (F0 _).mono ?_; rintro e w' ⟨rfl, os, q, rfl⟩) | (go_at_call 20; refine (F1 _).mono ?_; rintro e w1 ⟨rfl, hE1⟩; have B1 := boxE (Ext.trans (Ext.alloc (Ext.alloc (Ext.ext (Ext.refl _) _ _) _) _) hE1); obtain ⟨z1, c0, c1, c2, c3, c4⟩ := B1))
  have z2 := Nat.lt_succ_of_lt z1
  simp only [Nat.succ_eq_add_one] at z2
  go_upto_region 7 with (go_at_call 20; refine (F2 _).mono ?_; rintro e w2 ⟨rfl, hE2⟩; have B2 := boxE hE2)
  have B3 := B2.ext ((Ext.refl _).alloc (.cells #[.int .u8 R.1.a, .int .u8 R.1.x, .int .u8 R.1.y, .int .u8 R.1.s, .int .u8 R.1.p] 23))
  have B4 := Bx.made w2 .u8 R.1.a R.1.x R.1.y R.1.s R.1.p 23
  go_region_held3 (fun v => (w1.heap.size < v.heap.size ∧ v.cell? ⟨w1.heap.size, 0, none⟩ = some (.int .u8 T.a) ∧ v.cell? ⟨w1.heap.size, 1, none⟩ = some (.int .u8 T.x) ∧ v.cell? ⟨w1.heap.size, 2, none⟩ = some (.int .u8 T.y) ∧ v.cell? ⟨w1.heap.size, 3, none⟩ = some (.int .u8 T.s) ∧ v.cell? ⟨w1.heap.size, 4, none⟩ = some (.int .u8 T.p)) ∧ (w2.heap.size < v.heap.size ∧ v.cell? ⟨w2.heap.size, 0, none⟩ = some (.int .u8 R.1.a) ∧ v.cell? ⟨w2.heap.size, 1, none⟩ = some (.int .u8 R.1.x) ∧ v.cell? ⟨w2.heap.size, 2, none⟩ = some (.int .u8 R.1.y) ∧ v.cell? ⟨w2.heap.size, 3, none⟩ = some (.int .u8 R.1.s) ∧ v.cell? ⟨w2.heap.size, 4, none⟩ = some (.int .u8 R.1.p))) (first | assumption | exact ⟨B3, B4⟩ | exact ⟨bx_ext B3 _ _, bx_ext B4 _ _⟩) (first | (go_at_call 18; refine (F3 _).mono ?_; rintro e w' ⟨rfl, os, q, rfl⟩))
  all_goals
    go_wp2
    go_ret
    refine ⟨rfl, ?_⟩
    repeat (first | exact Ext.refl _ | refine Ext.trans ?_ hE2 | refine Ext.trans ?_ hE1 | refine Ext.alloc ?_ _ | refine Ext.ext ?_ _ _ | refine Ext.drew ?_ | refine Ext.drewN ?_ _)

set_option maxRecDepth 100000 in
set_option maxHeartbeats 2000000 in
theorem pair_dcp (a x y s p m z : Int) (w : World) (ha : 0 ≤ a ∧ a < 256) (_hm : 0 ≤ m ∧ m < 256) (hz : z.tmod 6 = 4) :
    Calls Try.prog 9 #[uv a x y s p, .int .u8 m, .int .u8 z] w fun e w' => e = .returned (.bool true) ∧ Ext w w' := by
  have F0 := awake_any
  obtain ⟨R, hRR⟩ : ∃ R, R = becU ⟨a, x, y, s, p⟩ (IntKind.u8.wrap (m - 1)) := ⟨_, rfl⟩
  have hA : 0 ≤ R.1.a ∧ R.1.a < 256 := by rw [hRR]; exact ha
  have hR : 0 ≤ R.2 ∧ R.2 < 256 := by rw [hRR]; show 0 ≤ IntKind.u8.wrap _ ∧ IntKind.u8.wrap _ < 256; rw [wrap_u8_mod]; omega
  have F1 : ∀ w, Calls Try.prog 20 #[.agg #[.int .u8 a, .int .u8 x, .int .u8 y, .int .u8 s, .int .u8 p], .int .u8 29, .int .u8 m] w fun e w' => e = .returned (.tuple #[uu (cmpU R.1 R.1.a R.2), .int .u8 R.2]) ∧ Ext w w' := by
    subst hRR; exact fun w => Change_dcp a x y s p m w
  have F2 : ∀ w, Calls Try.prog 20 #[.agg #[.int .u8 a, .int .u8 x, .int .u8 y, .int .u8 s, .int .u8 p], .int .u8 24, .int .u8 m] w fun e w' => e = .returned (.tuple #[.agg #[.int .u8 R.1.a, .int .u8 R.1.x, .int .u8 R.1.y, .int .u8 R.1.s, .int .u8 R.1.p], .int .u8 R.2]) ∧ Ext w w' := by
    subst hRR; exact fun w => Change_dec a x y s p m w
  have F3 : ∀ w, Calls Try.prog 18 #[.agg #[.int .u8 R.1.a, .int .u8 R.1.x, .int .u8 R.1.y, .int .u8 R.1.s, .int .u8 R.1.p], .int .u8 6, .int .u8 R.2] w fun e w' => e = .returned (uu (cmpU R.1 R.1.a R.2)) ∧ Ext w w' :=
    fun w => Read_cmp R.1.a R.1.x R.1.y R.1.s R.1.p R.2 w
  generalize cmpU R.1 R.1.a R.2 = T at *
  unfold uu uv at F1 F3
  clear hRR hA hR ha _hm
  have r1 := ext_cell
  have r2 := ext_frozen
  have r3 := ext_setCell
  have r4 := ext_lt
  have r5 := ext_drew
  have r6 := ext_ext
  have r7 := ext_lt1
  unfold uv
  go_enter Try.func9, Try.ntmps9
  go_upto_region 6 with (first | (go_at_call 13; refine (F0 _).mono ?_; rintro e w' ⟨rfl, os, q, rfl⟩) | (go_at_call 20; refine (F1 _).mono ?_; rintro e w1 ⟨rfl, hE1⟩; have B1 := boxE (Ext.trans (Ext.alloc (Ext.alloc (Ext.ext (Ext.refl _) _ _) _) _) hE1); obtain ⟨z1, c0, c1, c2, c3, c4⟩ := B1))
  have z2 := Nat.lt_succ_of_lt z1
  simp only [Nat.succ_eq_add_one] at z2
  go_upto_region 7 with (go_at_call 20; refine (F2 _).mono ?_; rintro e w2 ⟨rfl, hE2⟩; have B2 := boxE hE2)
  have B3 := B2.ext ((Ext.refl _).alloc (.cells #[.int .u8 R.1.a, .int .u8 R.1.x, .int .u8 R.1.y, .int .u8 R.1.s, .int .u8 R.1.p] 23))
  have B4 := Bx.made w2 .u8 R.1.a R.1.x R.1.y R.1.s R.1.p 23
  go_region_held3 (fun v => (w1.heap.size < v.heap.size ∧ v.cell? ⟨w1.heap.size, 0, none⟩ = some (.int .u8 T.a) ∧ v.cell? ⟨w1.heap.size, 1, none⟩ = some (.int .u8 T.x) ∧ v.cell? ⟨w1.heap.size, 2, none⟩ = some (.int .u8 T.y) ∧ v.cell? ⟨w1.heap.size, 3, none⟩ = some (.int .u8 T.s) ∧ v.cell? ⟨w1.heap.size, 4, none⟩ = some (.int .u8 T.p)) ∧ (w2.heap.size < v.heap.size ∧ v.cell? ⟨w2.heap.size, 0, none⟩ = some (.int .u8 R.1.a) ∧ v.cell? ⟨w2.heap.size, 1, none⟩ = some (.int .u8 R.1.x) ∧ v.cell? ⟨w2.heap.size, 2, none⟩ = some (.int .u8 R.1.y) ∧ v.cell? ⟨w2.heap.size, 3, none⟩ = some (.int .u8 R.1.s) ∧ v.cell? ⟨w2.heap.size, 4, none⟩ = some (.int .u8 R.1.p))) (first | assumption | exact ⟨B3, B4⟩ | exact ⟨bx_ext B3 _ _, bx_ext B4 _ _⟩) (first | (go_at_call 18; refine (F3 _).mono ?_; rintro e w' ⟨rfl, os, q, rfl⟩))
  all_goals
    go_wp2
    go_ret
    refine ⟨rfl, ?_⟩
    repeat (first | exact Ext.refl _ | refine Ext.trans ?_ hE2 | refine Ext.trans ?_ hE1 | refine Ext.alloc ?_ _ | refine Ext.ext ?_ _ _ | refine Ext.drew ?_ | refine Ext.drewN ?_ _)

set_option maxRecDepth 100000 in
set_option maxHeartbeats 2000000 in
theorem pair_isc (a x y s p m z : Int) (w : World) (ha : 0 ≤ a ∧ a < 256) (_hm : 0 ≤ m ∧ m < 256) (hz : z.tmod 6 = 5) :
    Calls Try.prog 9 #[uv a x y s p, .int .u8 m, .int .u8 z] w fun e w' => e = .returned (.bool true) ∧ Ext w w' := by
  have F0 := awake_any
  obtain ⟨R, hRR⟩ : ∃ R, R = becU ⟨a, x, y, s, p⟩ (IntKind.u8.wrap (m + 1)) := ⟨_, rfl⟩
  have hA : 0 ≤ R.1.a ∧ R.1.a < 256 := by rw [hRR]; exact ha
  have hR : 0 ≤ R.2 ∧ R.2 < 256 := by rw [hRR]; show 0 ≤ IntKind.u8.wrap _ ∧ IntKind.u8.wrap _ < 256; rw [wrap_u8_mod]; omega
  have F1 : ∀ w, Calls Try.prog 20 #[.agg #[.int .u8 a, .int .u8 x, .int .u8 y, .int .u8 s, .int .u8 p], .int .u8 30, .int .u8 m] w fun e w' => e = .returned (.tuple #[uu (adcU R.1 (notB R.2)), .int .u8 R.2]) ∧ Ext w w' := by
    subst hRR; exact fun w => Change_isc a x y s p m ha.1 ha.2 w
  have F2 : ∀ w, Calls Try.prog 20 #[.agg #[.int .u8 a, .int .u8 x, .int .u8 y, .int .u8 s, .int .u8 p], .int .u8 23, .int .u8 m] w fun e w' => e = .returned (.tuple #[.agg #[.int .u8 R.1.a, .int .u8 R.1.x, .int .u8 R.1.y, .int .u8 R.1.s, .int .u8 R.1.p], .int .u8 R.2]) ∧ Ext w w' := by
    subst hRR; exact fun w => Change_inc a x y s p m w
  have F3 : ∀ w, Calls Try.prog 18 #[.agg #[.int .u8 R.1.a, .int .u8 R.1.x, .int .u8 R.1.y, .int .u8 R.1.s, .int .u8 R.1.p], .int .u8 5, .int .u8 R.2] w fun e w' => e = .returned (uu (adcU R.1 (notB R.2))) ∧ Ext w w' :=
    fun w => Read_sbc R.1.a R.1.x R.1.y R.1.s R.1.p R.2 hA.1 hA.2 w
  generalize adcU R.1 (notB R.2) = T at *
  unfold uu uv at F1 F3
  clear hRR hA hR ha _hm
  have r1 := ext_cell
  have r2 := ext_frozen
  have r3 := ext_setCell
  have r4 := ext_lt
  have r5 := ext_drew
  have r6 := ext_ext
  have r7 := ext_lt1
  unfold uv
  go_enter Try.func9, Try.ntmps9
  go_upto_region 6 with (first | (go_at_call 13; refine (F0 _).mono ?_; rintro e w' ⟨rfl, os, q, rfl⟩) | (go_at_call 20; refine (F1 _).mono ?_; rintro e w1 ⟨rfl, hE1⟩; have B1 := boxE (Ext.trans (Ext.alloc (Ext.alloc (Ext.ext (Ext.refl _) _ _) _) _) hE1); obtain ⟨z1, c0, c1, c2, c3, c4⟩ := B1))
  have z2 := Nat.lt_succ_of_lt z1
  simp only [Nat.succ_eq_add_one] at z2
  go_upto_region 7 with (go_at_call 20; refine (F2 _).mono ?_; rintro e w2 ⟨rfl, hE2⟩; have B2 := boxE hE2)
  have B3 := B2.ext ((Ext.refl _).alloc (.cells #[.int .u8 R.1.a, .int .u8 R.1.x, .int .u8 R.1.y, .int .u8 R.1.s, .int .u8 R.1.p] 23))
  have B4 := Bx.made w2 .u8 R.1.a R.1.x R.1.y R.1.s R.1.p 23
  go_region_held3 (fun v => (w1.heap.size < v.heap.size ∧ v.cell? ⟨w1.heap.size, 0, none⟩ = some (.int .u8 T.a) ∧ v.cell? ⟨w1.heap.size, 1, none⟩ = some (.int .u8 T.x) ∧ v.cell? ⟨w1.heap.size, 2, none⟩ = some (.int .u8 T.y) ∧ v.cell? ⟨w1.heap.size, 3, none⟩ = some (.int .u8 T.s) ∧ v.cell? ⟨w1.heap.size, 4, none⟩ = some (.int .u8 T.p)) ∧ (w2.heap.size < v.heap.size ∧ v.cell? ⟨w2.heap.size, 0, none⟩ = some (.int .u8 R.1.a) ∧ v.cell? ⟨w2.heap.size, 1, none⟩ = some (.int .u8 R.1.x) ∧ v.cell? ⟨w2.heap.size, 2, none⟩ = some (.int .u8 R.1.y) ∧ v.cell? ⟨w2.heap.size, 3, none⟩ = some (.int .u8 R.1.s) ∧ v.cell? ⟨w2.heap.size, 4, none⟩ = some (.int .u8 R.1.p))) (first | assumption | exact ⟨B3, B4⟩ | exact ⟨bx_ext B3 _ _, bx_ext B4 _ _⟩) (first | (go_at_call 18; refine (F3 _).mono ?_; rintro e w' ⟨rfl, os, q, rfl⟩))
  all_goals
    go_wp2
    go_ret
    refine ⟨rfl, ?_⟩
    repeat (first | exact Ext.refl _ | refine Ext.trans ?_ hE2 | refine Ext.trans ?_ hE1 | refine Ext.alloc ?_ _ | refine Ext.ext ?_ _ _ | refine Ext.drew ?_ | refine Ext.drewN ?_ _)

theorem aluPairs_w (a x y s p m z : Int) (w : World) (hu : Ok ⟨a, x, y, s, p⟩) (hm : 0 ≤ m ∧ m < 256) (hz : 0 ≤ z ∧ z < 256) :
    Calls Try.prog 9 #[uv a x y s p, .int .u8 m, .int .u8 z] w fun e w' => e = .returned (.bool true) ∧ Ext w w' := by
  have ha := hu.1
  have ht : z.tmod 6 = z % 6 := Int.tmod_eq_emod_of_nonneg hz.1
  have h6 : z % 6 = 0 ∨ z % 6 = 1 ∨ z % 6 = 2 ∨ z % 6 = 3 ∨ z % 6 = 4 ∨ z % 6 = 5 := by omega
  rcases h6 with h | h | h | h | h | h
  · exact pair_slo a x y s p m z w ha hm (ht.trans h)
  · exact pair_rla a x y s p m z w ha hm (ht.trans h)
  · exact pair_sre a x y s p m z w ha hm (ht.trans h)
  · exact pair_rra a x y s p m z w ha hm (ht.trans h)
  · exact pair_dcp a x y s p m z w ha hm (ht.trans h)
  · exact pair_isc a x y s p m z w ha hm (ht.trans h)

theorem aluPairs_walk (a x y s p m z : Int) (w : World) (hu : Ok ⟨a, x, y, s, p⟩) (hm : 0 ≤ m ∧ m < 256) (hz : 0 ≤ z ∧ z < 256) :
    Calls Try.prog 9 #[uv a x y s p, .int .u8 m, .int .u8 z] w fun e w' => e = .returned (.bool true) ∧ Below w.heap.size w w' :=
  (aluPairs_w a x y s p m z w hu hm hz).mono fun _ _ h => ⟨h.1, h.2.below⟩

end Go.Proofs.Ytigpmmjbdpnkjaa
