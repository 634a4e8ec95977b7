/- Contracts of package alu: operations of registers alone. No law is claimed here. -/
import Derived.Test.YtigpmmjbdpnkjaaAlu1
namespace Go.Proofs.Ytigpmmjbdpnkjaa
open Go.RowKit

set_option maxRecDepth 100000 in
set_option maxHeartbeats 1000000 in
theorem tax_any (a x y s p : Int) (w : World) :
    Calls Try.prog 74 #[uv a x y s p] w fun e w' => e = .returned (uu (ldxU ⟨a, x, y, s, p⟩ a)) ∧ Ext w w' := by
  have F0 := ldx_any
  unfold uu uv at F0
  have F1 := ldy_any
  unfold uu uv at F1
  have F2 := lda_any
  unfold uu uv at F2
  have F3 := flag_any
  unfold uu uv at F3
  have r1 := ext_cell
  have r2 := ext_frozen
  have r3 := ext_setCell
  have r4 := ext_lt
  have r5 := ext_drew
  have r6 := ext_ext
  unfold uu uv
  go_enter Try.func74, Try.ntmps74
  go_wp2_with (first | (go_at_call 53; refine (F0 _ _ _ _ _ _ _).mono ?_; rintro e w' ⟨rfl, os, q, rfl⟩) | (go_at_call 54; refine (F1 _ _ _ _ _ _ _).mono ?_; rintro e w' ⟨rfl, os, q, rfl⟩) | (go_at_call 52; refine (F2 _ _ _ _ _ _ _).mono ?_; rintro e w' ⟨rfl, os, q, rfl⟩) | (go_at_call 23; refine (F3 _ _ _ _ _ _ _ _).mono ?_; rintro e w' ⟨rfl, os, q, rfl⟩))
  all_goals
    refine bodyPost_ret (by simp [results, Try.results74, go_sem, *] <;> (repeat' (first | exact rfl | refine And.intro ?_ ?_))) rfl ⟨rfl, ?_⟩
    repeat (first | exact Ext.refl _ | refine Ext.alloc ?_ _ | refine Ext.ext ?_ _ _ | refine Ext.drew ?_ | refine Ext.drewN ?_ _)

set_option maxRecDepth 100000 in
set_option maxHeartbeats 1000000 in
theorem tay_any (a x y s p : Int) (w : World) :
    Calls Try.prog 75 #[uv a x y s p] w fun e w' => e = .returned (uu (ldyU ⟨a, x, y, s, p⟩ a)) ∧ Ext w w' := by
  have F0 := ldx_any
  unfold uu uv at F0
  have F1 := ldy_any
  unfold uu uv at F1
  have F2 := lda_any
  unfold uu uv at F2
  have F3 := flag_any
  unfold uu uv at F3
  have r1 := ext_cell
  have r2 := ext_frozen
  have r3 := ext_setCell
  have r4 := ext_lt
  have r5 := ext_drew
  have r6 := ext_ext
  unfold uu uv
  go_enter Try.func75, Try.ntmps75
  go_wp2_with (first | (go_at_call 53; refine (F0 _ _ _ _ _ _ _).mono ?_; rintro e w' ⟨rfl, os, q, rfl⟩) | (go_at_call 54; refine (F1 _ _ _ _ _ _ _).mono ?_; rintro e w' ⟨rfl, os, q, rfl⟩) | (go_at_call 52; refine (F2 _ _ _ _ _ _ _).mono ?_; rintro e w' ⟨rfl, os, q, rfl⟩) | (go_at_call 23; refine (F3 _ _ _ _ _ _ _ _).mono ?_; rintro e w' ⟨rfl, os, q, rfl⟩))
  all_goals
    refine bodyPost_ret (by simp [results, Try.results75, go_sem, *] <;> (repeat' (first | exact rfl | refine And.intro ?_ ?_))) rfl ⟨rfl, ?_⟩
    repeat (first | exact Ext.refl _ | refine Ext.alloc ?_ _ | refine Ext.ext ?_ _ _ | refine Ext.drew ?_ | refine Ext.drewN ?_ _)

set_option maxRecDepth 100000 in
set_option maxHeartbeats 1000000 in
theorem txa_any (a x y s p : Int) (w : World) :
    Calls Try.prog 76 #[uv a x y s p] w fun e w' => e = .returned (uu (ldaU ⟨a, x, y, s, p⟩ x)) ∧ Ext w w' := by
  have F0 := ldx_any
  unfold uu uv at F0
  have F1 := ldy_any
  unfold uu uv at F1
  have F2 := lda_any
  unfold uu uv at F2
  have F3 := flag_any
  unfold uu uv at F3
  have r1 := ext_cell
  have r2 := ext_frozen
  have r3 := ext_setCell
  have r4 := ext_lt
  have r5 := ext_drew
  have r6 := ext_ext
  unfold uu uv
  go_enter Try.func76, Try.ntmps76
  go_wp2_with (first | (go_at_call 53; refine (F0 _ _ _ _ _ _ _).mono ?_; rintro e w' ⟨rfl, os, q, rfl⟩) | (go_at_call 54; refine (F1 _ _ _ _ _ _ _).mono ?_; rintro e w' ⟨rfl, os, q, rfl⟩) | (go_at_call 52; refine (F2 _ _ _ _ _ _ _).mono ?_; rintro e w' ⟨rfl, os, q, rfl⟩) | (go_at_call 23; refine (F3 _ _ _ _ _ _ _ _).mono ?_; rintro e w' ⟨rfl, os, q, rfl⟩))
  all_goals
    refine bodyPost_ret (by simp [results, Try.results76, go_sem, *] <;> (repeat' (first | exact rfl | refine And.intro ?_ ?_))) rfl ⟨rfl, ?_⟩
    repeat (first | exact Ext.refl _ | refine Ext.alloc ?_ _ | refine Ext.ext ?_ _ _ | refine Ext.drew ?_ | refine Ext.drewN ?_ _)

set_option maxRecDepth 100000 in
set_option maxHeartbeats 1000000 in
theorem tya_any (a x y s p : Int) (w : World) :
    Calls Try.prog 77 #[uv a x y s p] w fun e w' => e = .returned (uu (ldaU ⟨a, x, y, s, p⟩ y)) ∧ Ext w w' := by
  have F0 := ldx_any
  unfold uu uv at F0
  have F1 := ldy_any
  unfold uu uv at F1
  have F2 := lda_any
  unfold uu uv at F2
  have F3 := flag_any
  unfold uu uv at F3
  have r1 := ext_cell
  have r2 := ext_frozen
  have r3 := ext_setCell
  have r4 := ext_lt
  have r5 := ext_drew
  have r6 := ext_ext
  unfold uu uv
  go_enter Try.func77, Try.ntmps77
  go_wp2_with (first | (go_at_call 53; refine (F0 _ _ _ _ _ _ _).mono ?_; rintro e w' ⟨rfl, os, q, rfl⟩) | (go_at_call 54; refine (F1 _ _ _ _ _ _ _).mono ?_; rintro e w' ⟨rfl, os, q, rfl⟩) | (go_at_call 52; refine (F2 _ _ _ _ _ _ _).mono ?_; rintro e w' ⟨rfl, os, q, rfl⟩) | (go_at_call 23; refine (F3 _ _ _ _ _ _ _ _).mono ?_; rintro e w' ⟨rfl, os, q, rfl⟩))
  all_goals
    refine bodyPost_ret (by simp [results, Try.results77, go_sem, *] <;> (repeat' (first | exact rfl | refine And.intro ?_ ?_))) rfl ⟨rfl, ?_⟩
    repeat (first | exact Ext.refl _ | refine Ext.alloc ?_ _ | refine Ext.ext ?_ _ _ | refine Ext.drew ?_ | refine Ext.drewN ?_ _)

set_option maxRecDepth 100000 in
set_option maxHeartbeats 1000000 in
theorem tsx_any (a x y s p : Int) (w : World) :
    Calls Try.prog 78 #[uv a x y s p] w fun e w' => e = .returned (uu (ldxU ⟨a, x, y, s, p⟩ s)) ∧ Ext w w' := by
  have F0 := ldx_any
  unfold uu uv at F0
  have F1 := ldy_any
  unfold uu uv at F1
  have F2 := lda_any
  unfold uu uv at F2
  have F3 := flag_any
  unfold uu uv at F3
  have r1 := ext_cell
  have r2 := ext_frozen
  have r3 := ext_setCell
  have r4 := ext_lt
  have r5 := ext_drew
  have r6 := ext_ext
  unfold uu uv
  go_enter Try.func78, Try.ntmps78
  go_wp2_with (first | (go_at_call 53; refine (F0 _ _ _ _ _ _ _).mono ?_; rintro e w' ⟨rfl, os, q, rfl⟩) | (go_at_call 54; refine (F1 _ _ _ _ _ _ _).mono ?_; rintro e w' ⟨rfl, os, q, rfl⟩) | (go_at_call 52; refine (F2 _ _ _ _ _ _ _).mono ?_; rintro e w' ⟨rfl, os, q, rfl⟩) | (go_at_call 23; refine (F3 _ _ _ _ _ _ _ _).mono ?_; rintro e w' ⟨rfl, os, q, rfl⟩))
  all_goals
    refine bodyPost_ret (by simp [results, Try.results78, go_sem, *] <;> (repeat' (first | exact rfl | refine And.intro ?_ ?_))) rfl ⟨rfl, ?_⟩
    repeat (first | exact Ext.refl _ | refine Ext.alloc ?_ _ | refine Ext.ext ?_ _ _ | refine Ext.drew ?_ | refine Ext.drewN ?_ _)

set_option maxRecDepth 100000 in
set_option maxHeartbeats 1000000 in
theorem txs_any (a x y s p : Int) (w : World) :
    Calls Try.prog 79 #[uv a x y s p] w fun e w' => e = .returned (uu (⟨a, x, y, x, p⟩)) ∧ Ext w w' := by
  have F0 := ldx_any
  unfold uu uv at F0
  have F1 := ldy_any
  unfold uu uv at F1
  have F2 := lda_any
  unfold uu uv at F2
  have F3 := flag_any
  unfold uu uv at F3
  have r1 := ext_cell
  have r2 := ext_frozen
  have r3 := ext_setCell
  have r4 := ext_lt
  have r5 := ext_drew
  have r6 := ext_ext
  unfold uu uv
  go_enter Try.func79, Try.ntmps79
  go_wp2_with (first | (go_at_call 53; refine (F0 _ _ _ _ _ _ _).mono ?_; rintro e w' ⟨rfl, os, q, rfl⟩) | (go_at_call 54; refine (F1 _ _ _ _ _ _ _).mono ?_; rintro e w' ⟨rfl, os, q, rfl⟩) | (go_at_call 52; refine (F2 _ _ _ _ _ _ _).mono ?_; rintro e w' ⟨rfl, os, q, rfl⟩) | (go_at_call 23; refine (F3 _ _ _ _ _ _ _ _).mono ?_; rintro e w' ⟨rfl, os, q, rfl⟩))
  all_goals
    refine bodyPost_ret (by simp [results, Try.results79, go_sem, *] <;> (repeat' (first | exact rfl | refine And.intro ?_ ?_))) rfl ⟨rfl, ?_⟩
    repeat (first | exact Ext.refl _ | refine Ext.alloc ?_ _ | refine Ext.ext ?_ _ _ | refine Ext.drew ?_ | refine Ext.drewN ?_ _)

set_option maxRecDepth 100000 in
set_option maxHeartbeats 1000000 in
theorem inx_any (a x y s p : Int) (w : World) :
    Calls Try.prog 80 #[uv a x y s p] w fun e w' => e = .returned (uu (ldxU ⟨a, x, y, s, p⟩ (IntKind.u8.wrap (x + 1)))) ∧ Ext w w' := by
  have F0 := ldx_any
  unfold uu uv at F0
  have F1 := ldy_any
  unfold uu uv at F1
  have F2 := lda_any
  unfold uu uv at F2
  have F3 := flag_any
  unfold uu uv at F3
  have r1 := ext_cell
  have r2 := ext_frozen
  have r3 := ext_setCell
  have r4 := ext_lt
  have r5 := ext_drew
  have r6 := ext_ext
  unfold uu uv
  go_enter Try.func80, Try.ntmps80
  go_wp2_with (first | (go_at_call 53; refine (F0 _ _ _ _ _ _ _).mono ?_; rintro e w' ⟨rfl, os, q, rfl⟩) | (go_at_call 54; refine (F1 _ _ _ _ _ _ _).mono ?_; rintro e w' ⟨rfl, os, q, rfl⟩) | (go_at_call 52; refine (F2 _ _ _ _ _ _ _).mono ?_; rintro e w' ⟨rfl, os, q, rfl⟩) | (go_at_call 23; refine (F3 _ _ _ _ _ _ _ _).mono ?_; rintro e w' ⟨rfl, os, q, rfl⟩))
  all_goals
    refine bodyPost_ret (by simp [results, Try.results80, go_sem, *] <;> (repeat' (first | exact rfl | refine And.intro ?_ ?_))) rfl ⟨rfl, ?_⟩
    repeat (first | exact Ext.refl _ | refine Ext.alloc ?_ _ | refine Ext.ext ?_ _ _ | refine Ext.drew ?_ | refine Ext.drewN ?_ _)

set_option maxRecDepth 100000 in
set_option maxHeartbeats 1000000 in
theorem iny_any (a x y s p : Int) (w : World) :
    Calls Try.prog 81 #[uv a x y s p] w fun e w' => e = .returned (uu (ldyU ⟨a, x, y, s, p⟩ (IntKind.u8.wrap (y + 1)))) ∧ Ext w w' := by
  have F0 := ldx_any
  unfold uu uv at F0
  have F1 := ldy_any
  unfold uu uv at F1
  have F2 := lda_any
  unfold uu uv at F2
  have F3 := flag_any
  unfold uu uv at F3
  have r1 := ext_cell
  have r2 := ext_frozen
  have r3 := ext_setCell
  have r4 := ext_lt
  have r5 := ext_drew
  have r6 := ext_ext
  unfold uu uv
  go_enter Try.func81, Try.ntmps81
  go_wp2_with (first | (go_at_call 53; refine (F0 _ _ _ _ _ _ _).mono ?_; rintro e w' ⟨rfl, os, q, rfl⟩) | (go_at_call 54; refine (F1 _ _ _ _ _ _ _).mono ?_; rintro e w' ⟨rfl, os, q, rfl⟩) | (go_at_call 52; refine (F2 _ _ _ _ _ _ _).mono ?_; rintro e w' ⟨rfl, os, q, rfl⟩) | (go_at_call 23; refine (F3 _ _ _ _ _ _ _ _).mono ?_; rintro e w' ⟨rfl, os, q, rfl⟩))
  all_goals
    refine bodyPost_ret (by simp [results, Try.results81, go_sem, *] <;> (repeat' (first | exact rfl | refine And.intro ?_ ?_))) rfl ⟨rfl, ?_⟩
    repeat (first | exact Ext.refl _ | refine Ext.alloc ?_ _ | refine Ext.ext ?_ _ _ | refine Ext.drew ?_ | refine Ext.drewN ?_ _)

set_option maxRecDepth 100000 in
set_option maxHeartbeats 1000000 in
theorem dex_any (a x y s p : Int) (w : World) :
    Calls Try.prog 82 #[uv a x y s p] w fun e w' => e = .returned (uu (ldxU ⟨a, x, y, s, p⟩ (IntKind.u8.wrap (x - 1)))) ∧ Ext w w' := by
  have F0 := ldx_any
  unfold uu uv at F0
  have F1 := ldy_any
  unfold uu uv at F1
  have F2 := lda_any
  unfold uu uv at F2
  have F3 := flag_any
  unfold uu uv at F3
  have r1 := ext_cell
  have r2 := ext_frozen
  have r3 := ext_setCell
  have r4 := ext_lt
  have r5 := ext_drew
  have r6 := ext_ext
  unfold uu uv
  go_enter Try.func82, Try.ntmps82
  go_wp2_with (first | (go_at_call 53; refine (F0 _ _ _ _ _ _ _).mono ?_; rintro e w' ⟨rfl, os, q, rfl⟩) | (go_at_call 54; refine (F1 _ _ _ _ _ _ _).mono ?_; rintro e w' ⟨rfl, os, q, rfl⟩) | (go_at_call 52; refine (F2 _ _ _ _ _ _ _).mono ?_; rintro e w' ⟨rfl, os, q, rfl⟩) | (go_at_call 23; refine (F3 _ _ _ _ _ _ _ _).mono ?_; rintro e w' ⟨rfl, os, q, rfl⟩))
  all_goals
    refine bodyPost_ret (by simp [results, Try.results82, go_sem, *] <;> (repeat' (first | exact rfl | refine And.intro ?_ ?_))) rfl ⟨rfl, ?_⟩
    repeat (first | exact Ext.refl _ | refine Ext.alloc ?_ _ | refine Ext.ext ?_ _ _ | refine Ext.drew ?_ | refine Ext.drewN ?_ _)

set_option maxRecDepth 100000 in
set_option maxHeartbeats 1000000 in
theorem dey_any (a x y s p : Int) (w : World) :
    Calls Try.prog 83 #[uv a x y s p] w fun e w' => e = .returned (uu (ldyU ⟨a, x, y, s, p⟩ (IntKind.u8.wrap (y - 1)))) ∧ Ext w w' := by
  have F0 := ldx_any
  unfold uu uv at F0
  have F1 := ldy_any
  unfold uu uv at F1
  have F2 := lda_any
  unfold uu uv at F2
  have F3 := flag_any
  unfold uu uv at F3
  have r1 := ext_cell
  have r2 := ext_frozen
  have r3 := ext_setCell
  have r4 := ext_lt
  have r5 := ext_drew
  have r6 := ext_ext
  unfold uu uv
  go_enter Try.func83, Try.ntmps83
  go_wp2_with (first | (go_at_call 53; refine (F0 _ _ _ _ _ _ _).mono ?_; rintro e w' ⟨rfl, os, q, rfl⟩) | (go_at_call 54; refine (F1 _ _ _ _ _ _ _).mono ?_; rintro e w' ⟨rfl, os, q, rfl⟩) | (go_at_call 52; refine (F2 _ _ _ _ _ _ _).mono ?_; rintro e w' ⟨rfl, os, q, rfl⟩) | (go_at_call 23; refine (F3 _ _ _ _ _ _ _ _).mono ?_; rintro e w' ⟨rfl, os, q, rfl⟩))
  all_goals
    refine bodyPost_ret (by simp [results, Try.results83, go_sem, *] <;> (repeat' (first | exact rfl | refine And.intro ?_ ?_))) rfl ⟨rfl, ?_⟩
    repeat (first | exact Ext.refl _ | refine Ext.alloc ?_ _ | refine Ext.ext ?_ _ _ | refine Ext.drew ?_ | refine Ext.drewN ?_ _)

set_option maxRecDepth 100000 in
set_option maxHeartbeats 1000000 in
theorem clc_any (a x y s p : Int) (w : World) :
    Calls Try.prog 84 #[uv a x y s p] w fun e w' => e = .returned (uu (flU ⟨a, x, y, s, p⟩ 1 false)) ∧ Ext w w' := by
  have F0 := ldx_any
  unfold uu uv at F0
  have F1 := ldy_any
  unfold uu uv at F1
  have F2 := lda_any
  unfold uu uv at F2
  have F3 := flag_any
  unfold uu uv at F3
  have r1 := ext_cell
  have r2 := ext_frozen
  have r3 := ext_setCell
  have r4 := ext_lt
  have r5 := ext_drew
  have r6 := ext_ext
  unfold uu uv
  go_enter Try.func84, Try.ntmps84
  go_wp2_with (first | (go_at_call 53; refine (F0 _ _ _ _ _ _ _).mono ?_; rintro e w' ⟨rfl, os, q, rfl⟩) | (go_at_call 54; refine (F1 _ _ _ _ _ _ _).mono ?_; rintro e w' ⟨rfl, os, q, rfl⟩) | (go_at_call 52; refine (F2 _ _ _ _ _ _ _).mono ?_; rintro e w' ⟨rfl, os, q, rfl⟩) | (go_at_call 23; refine (F3 _ _ _ _ _ _ _ _).mono ?_; rintro e w' ⟨rfl, os, q, rfl⟩))
  all_goals
    refine bodyPost_ret (by simp [results, Try.results84, go_sem, *] <;> (repeat' (first | exact rfl | refine And.intro ?_ ?_))) rfl ⟨rfl, ?_⟩
    repeat (first | exact Ext.refl _ | refine Ext.alloc ?_ _ | refine Ext.ext ?_ _ _ | refine Ext.drew ?_ | refine Ext.drewN ?_ _)

set_option maxRecDepth 100000 in
set_option maxHeartbeats 1000000 in
theorem sec_any (a x y s p : Int) (w : World) :
    Calls Try.prog 85 #[uv a x y s p] w fun e w' => e = .returned (uu (flU ⟨a, x, y, s, p⟩ 1 true)) ∧ Ext w w' := by
  have F0 := ldx_any
  unfold uu uv at F0
  have F1 := ldy_any
  unfold uu uv at F1
  have F2 := lda_any
  unfold uu uv at F2
  have F3 := flag_any
  unfold uu uv at F3
  have r1 := ext_cell
  have r2 := ext_frozen
  have r3 := ext_setCell
  have r4 := ext_lt
  have r5 := ext_drew
  have r6 := ext_ext
  unfold uu uv
  go_enter Try.func85, Try.ntmps85
  go_wp2_with (first | (go_at_call 53; refine (F0 _ _ _ _ _ _ _).mono ?_; rintro e w' ⟨rfl, os, q, rfl⟩) | (go_at_call 54; refine (F1 _ _ _ _ _ _ _).mono ?_; rintro e w' ⟨rfl, os, q, rfl⟩) | (go_at_call 52; refine (F2 _ _ _ _ _ _ _).mono ?_; rintro e w' ⟨rfl, os, q, rfl⟩) | (go_at_call 23; refine (F3 _ _ _ _ _ _ _ _).mono ?_; rintro e w' ⟨rfl, os, q, rfl⟩))
  all_goals
    refine bodyPost_ret (by simp [results, Try.results85, go_sem, *] <;> (repeat' (first | exact rfl | refine And.intro ?_ ?_))) rfl ⟨rfl, ?_⟩
    repeat (first | exact Ext.refl _ | refine Ext.alloc ?_ _ | refine Ext.ext ?_ _ _ | refine Ext.drew ?_ | refine Ext.drewN ?_ _)

set_option maxRecDepth 100000 in
set_option maxHeartbeats 1000000 in
theorem cli_any (a x y s p : Int) (w : World) :
    Calls Try.prog 86 #[uv a x y s p] w fun e w' => e = .returned (uu (flU ⟨a, x, y, s, p⟩ 4 false)) ∧ Ext w w' := by
  have F0 := ldx_any
  unfold uu uv at F0
  have F1 := ldy_any
  unfold uu uv at F1
  have F2 := lda_any
  unfold uu uv at F2
  have F3 := flag_any
  unfold uu uv at F3
  have r1 := ext_cell
  have r2 := ext_frozen
  have r3 := ext_setCell
  have r4 := ext_lt
  have r5 := ext_drew
  have r6 := ext_ext
  unfold uu uv
  go_enter Try.func86, Try.ntmps86
  go_wp2_with (first | (go_at_call 53; refine (F0 _ _ _ _ _ _ _).mono ?_; rintro e w' ⟨rfl, os, q, rfl⟩) | (go_at_call 54; refine (F1 _ _ _ _ _ _ _).mono ?_; rintro e w' ⟨rfl, os, q, rfl⟩) | (go_at_call 52; refine (F2 _ _ _ _ _ _ _).mono ?_; rintro e w' ⟨rfl, os, q, rfl⟩) | (go_at_call 23; refine (F3 _ _ _ _ _ _ _ _).mono ?_; rintro e w' ⟨rfl, os, q, rfl⟩))
  all_goals
    refine bodyPost_ret (by simp [results, Try.results86, go_sem, *] <;> (repeat' (first | exact rfl | refine And.intro ?_ ?_))) rfl ⟨rfl, ?_⟩
    repeat (first | exact Ext.refl _ | refine Ext.alloc ?_ _ | refine Ext.ext ?_ _ _ | refine Ext.drew ?_ | refine Ext.drewN ?_ _)

set_option maxRecDepth 100000 in
set_option maxHeartbeats 1000000 in
theorem sei_any (a x y s p : Int) (w : World) :
    Calls Try.prog 87 #[uv a x y s p] w fun e w' => e = .returned (uu (flU ⟨a, x, y, s, p⟩ 4 true)) ∧ Ext w w' := by
  have F0 := ldx_any
  unfold uu uv at F0
  have F1 := ldy_any
  unfold uu uv at F1
  have F2 := lda_any
  unfold uu uv at F2
  have F3 := flag_any
  unfold uu uv at F3
  have r1 := ext_cell
  have r2 := ext_frozen
  have r3 := ext_setCell
  have r4 := ext_lt
  have r5 := ext_drew
  have r6 := ext_ext
  unfold uu uv
  go_enter Try.func87, Try.ntmps87
  go_wp2_with (first | (go_at_call 53; refine (F0 _ _ _ _ _ _ _).mono ?_; rintro e w' ⟨rfl, os, q, rfl⟩) | (go_at_call 54; refine (F1 _ _ _ _ _ _ _).mono ?_; rintro e w' ⟨rfl, os, q, rfl⟩) | (go_at_call 52; refine (F2 _ _ _ _ _ _ _).mono ?_; rintro e w' ⟨rfl, os, q, rfl⟩) | (go_at_call 23; refine (F3 _ _ _ _ _ _ _ _).mono ?_; rintro e w' ⟨rfl, os, q, rfl⟩))
  all_goals
    refine bodyPost_ret (by simp [results, Try.results87, go_sem, *] <;> (repeat' (first | exact rfl | refine And.intro ?_ ?_))) rfl ⟨rfl, ?_⟩
    repeat (first | exact Ext.refl _ | refine Ext.alloc ?_ _ | refine Ext.ext ?_ _ _ | refine Ext.drew ?_ | refine Ext.drewN ?_ _)

set_option maxRecDepth 100000 in
set_option maxHeartbeats 1000000 in
theorem clv_any (a x y s p : Int) (w : World) :
    Calls Try.prog 88 #[uv a x y s p] w fun e w' => e = .returned (uu (flU ⟨a, x, y, s, p⟩ 64 false)) ∧ Ext w w' := by
  have F0 := ldx_any
  unfold uu uv at F0
  have F1 := ldy_any
  unfold uu uv at F1
  have F2 := lda_any
  unfold uu uv at F2
  have F3 := flag_any
  unfold uu uv at F3
  have r1 := ext_cell
  have r2 := ext_frozen
  have r3 := ext_setCell
  have r4 := ext_lt
  have r5 := ext_drew
  have r6 := ext_ext
  unfold uu uv
  go_enter Try.func88, Try.ntmps88
  go_wp2_with (first | (go_at_call 53; refine (F0 _ _ _ _ _ _ _).mono ?_; rintro e w' ⟨rfl, os, q, rfl⟩) | (go_at_call 54; refine (F1 _ _ _ _ _ _ _).mono ?_; rintro e w' ⟨rfl, os, q, rfl⟩) | (go_at_call 52; refine (F2 _ _ _ _ _ _ _).mono ?_; rintro e w' ⟨rfl, os, q, rfl⟩) | (go_at_call 23; refine (F3 _ _ _ _ _ _ _ _).mono ?_; rintro e w' ⟨rfl, os, q, rfl⟩))
  all_goals
    refine bodyPost_ret (by simp [results, Try.results88, go_sem, *] <;> (repeat' (first | exact rfl | refine And.intro ?_ ?_))) rfl ⟨rfl, ?_⟩
    repeat (first | exact Ext.refl _ | refine Ext.alloc ?_ _ | refine Ext.ext ?_ _ _ | refine Ext.drew ?_ | refine Ext.drewN ?_ _)

set_option maxRecDepth 100000 in
set_option maxHeartbeats 1000000 in
theorem cld_any (a x y s p : Int) (w : World) :
    Calls Try.prog 89 #[uv a x y s p] w fun e w' => e = .returned (uu (flU ⟨a, x, y, s, p⟩ 8 false)) ∧ Ext w w' := by
  have F0 := ldx_any
  unfold uu uv at F0
  have F1 := ldy_any
  unfold uu uv at F1
  have F2 := lda_any
  unfold uu uv at F2
  have F3 := flag_any
  unfold uu uv at F3
  have r1 := ext_cell
  have r2 := ext_frozen
  have r3 := ext_setCell
  have r4 := ext_lt
  have r5 := ext_drew
  have r6 := ext_ext
  unfold uu uv
  go_enter Try.func89, Try.ntmps89
  go_wp2_with (first | (go_at_call 53; refine (F0 _ _ _ _ _ _ _).mono ?_; rintro e w' ⟨rfl, os, q, rfl⟩) | (go_at_call 54; refine (F1 _ _ _ _ _ _ _).mono ?_; rintro e w' ⟨rfl, os, q, rfl⟩) | (go_at_call 52; refine (F2 _ _ _ _ _ _ _).mono ?_; rintro e w' ⟨rfl, os, q, rfl⟩) | (go_at_call 23; refine (F3 _ _ _ _ _ _ _ _).mono ?_; rintro e w' ⟨rfl, os, q, rfl⟩))
  all_goals
    refine bodyPost_ret (by simp [results, Try.results89, go_sem, *] <;> (repeat' (first | exact rfl | refine And.intro ?_ ?_))) rfl ⟨rfl, ?_⟩
    repeat (first | exact Ext.refl _ | refine Ext.alloc ?_ _ | refine Ext.ext ?_ _ _ | refine Ext.drew ?_ | refine Ext.drewN ?_ _)

set_option maxRecDepth 100000 in
set_option maxHeartbeats 1000000 in
theorem sed_any (a x y s p : Int) (w : World) :
    Calls Try.prog 90 #[uv a x y s p] w fun e w' => e = .returned (uu (flU ⟨a, x, y, s, p⟩ 8 true)) ∧ Ext w w' := by
  have F0 := ldx_any
  unfold uu uv at F0
  have F1 := ldy_any
  unfold uu uv at F1
  have F2 := lda_any
  unfold uu uv at F2
  have F3 := flag_any
  unfold uu uv at F3
  have r1 := ext_cell
  have r2 := ext_frozen
  have r3 := ext_setCell
  have r4 := ext_lt
  have r5 := ext_drew
  have r6 := ext_ext
  unfold uu uv
  go_enter Try.func90, Try.ntmps90
  go_wp2_with (first | (go_at_call 53; refine (F0 _ _ _ _ _ _ _).mono ?_; rintro e w' ⟨rfl, os, q, rfl⟩) | (go_at_call 54; refine (F1 _ _ _ _ _ _ _).mono ?_; rintro e w' ⟨rfl, os, q, rfl⟩) | (go_at_call 52; refine (F2 _ _ _ _ _ _ _).mono ?_; rintro e w' ⟨rfl, os, q, rfl⟩) | (go_at_call 23; refine (F3 _ _ _ _ _ _ _ _).mono ?_; rintro e w' ⟨rfl, os, q, rfl⟩))
  all_goals
    refine bodyPost_ret (by simp [results, Try.results90, go_sem, *] <;> (repeat' (first | exact rfl | refine And.intro ?_ ?_))) rfl ⟨rfl, ?_⟩
    repeat (first | exact Ext.refl _ | refine Ext.alloc ?_ _ | refine Ext.ext ?_ _ _ | refine Ext.drew ?_ | refine Ext.drewN ?_ _)

end Go.Proofs.Ytigpmmjbdpnkjaa
