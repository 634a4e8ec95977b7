/- Contracts of package alu: flags, registers, operations that read. No law is claimed here. -/
import Derived.Test.YtigpmmjbdpnkjaaDoorBase
import Derived.Test.YtigpmmjbdpnkjaaDoorBits
import Derived.Below
import Derived.Deep.RegionHeld3
import Derived.Deep.DeepCutAuto
namespace Go.Proofs.YtigpmmjbdpnkjaaDoor
open Go.RowKit

/-- a unit's value -/
def uv (a x y s p : Int) : Value := .agg #[.int .u8 a, .int .u8 x, .int .u8 y, .int .u8 s, .int .u8 p]
/-- registers and flags -/
structure Un where
  a : Int
  x : Int
  y : Int
  s : Int
  p : Int
def uu (u : Un) : Value := uv u.a u.x u.y u.s u.p

/-- flags set or cleared -/
def fl (p b : Int) (on : Bool) : Int := if on then bits .or .u8 (bits .andNot .u8 p b) b else bits .andNot .u8 p b
def flU (u : Un) (b : Int) (on : Bool) : Un := { u with p := fl u.p b on }
def sgU (u : Un) (m : Int) : Un := flU (flU u 128 (decide (128 ≤ m))) 2 (m == 0)
def ldaU (u : Un) (m : Int) : Un := sgU { u with a := m } m
def ldxU (u : Un) (m : Int) : Un := sgU { u with x := m } m
def ldyU (u : Un) (m : Int) : Un := sgU { u with y := m } m
def oraU (u : Un) (m : Int) : Un := ldaU u (bits .or .u8 u.a m)
def andU (u : Un) (m : Int) : Un := ldaU u (bits .and .u8 u.a m)
def eorU (u : Un) (m : Int) : Un := ldaU u (bits .xor .u8 u.a m)
def cmpU (u : Un) (b m : Int) : Un := sgU (flU u 1 (decide (m ≤ b))) (IntKind.u8.wrap (b - m))
def laxU (u : Un) (m : Int) : Un := ldxU (ldaU u m) m
def ancU (u : Un) (m : Int) : Un := flU (andU u m) 1 (decide (128 ≤ (andU u m).a))
def axsU (u : Un) (m : Int) : Un := ldxU (cmpU u (bits .and .u8 u.a u.x) m) (IntKind.u8.wrap (bits .and .u8 u.a u.x - m))
def lasU (u : Un) (m : Int) : Un := laxU { u with s := bits .and .u8 u.s m } (bits .and .u8 u.s m)
def becU (u : Un) (m : Int) : Un × Int := (sgU u m, m)
def shlU (m k : Int) : Int := IntKind.u8.wrap (m * 2 ^ k.toNat)
def shrU (m k : Int) : Int := m / 2 ^ k.toNat
def leftU (u : Un) (m i : Int) : Un × Int := becU (flU u 1 (bits .and .u8 m 128 != 0)) (bits .or .u8 (shlU m 1) i)
def rightU (u : Un) (m i : Int) : Un × Int := becU (flU u 1 (bits .and .u8 m 1 != 0)) (bits .or .u8 (shrU m 1) (shlU i 7))

/-- a world with more in it: nothing that there was is touched -/
def ext (w : World) (os : List Obj) (q : Nat) : World := (os.foldl World.alloc w).drewN q
theorem still_below (w : World) (q B : Nat) : Below B w (w.drewN q) := by
  induction q with
  | zero => exact Below.refl _ _
  | succ q ih => exact ih.drew
theorem setCell_drewN (v : World) (q : Nat) (p : Addr) (u : Value) : (v.drewN q).setCell p u = (v.setCell p u).drewN q := by
  induction q generalizing v with
  | zero => exact rfl
  | succ q ih => exact rfl
theorem fold_alloc_below (os : List Obj) : ∀ (B : Nat) (a w : World), Below B a w → B ≤ w.heap.size → Below B a (os.foldl World.alloc w) := by
  induction os with
  | nil => intro B a w h _; exact h
  | cons o os ih =>
    intro B a w h hB
    exact ih B a (w.alloc o) (h.alloc hB o) (by simp; omega)
theorem ext_below {B : Nat} {a w : World} (h : Below B a w) (hB : B ≤ w.heap.size) (os : List Obj) (q : Nat) : Below B a (ext w os q) :=
  (fold_alloc_below os B a w h hB).trans (still_below _ _ _)
theorem ext_cell (w : World) (os : List Obj) (q : Nat) (p : Addr) (h : p.block < w.heap.size) : (ext w os q).cell? p = w.cell? p :=
  (ext_below (Below.refl _ w) (Nat.le_refl _) os q).cell h
theorem ext_frozen (w : World) (os : List Obj) (q : Nat) (p : Addr) (h : p.block < w.heap.size) : (ext w os q).frozen? p = w.frozen? p :=
  (ext_below (Below.refl _ w) (Nat.le_refl _) os q).frozen h
theorem ext_lt (w : World) (os : List Obj) (q : Nat) (b : Nat) (h : b < w.heap.size) : b < (ext w os q).heap.size :=
  Nat.lt_of_lt_of_le h (ext_below (Below.refl _ w) (Nat.le_refl _) os q).size
theorem heap_setCell_size (w : World) (p : Addr) (v : Value) : (w.setCell p v).heap.size = w.heap.size := by
  unfold World.setCell; simp
theorem fold_setCell (os : List Obj) : ∀ (w : World) (n i : Nat) (v : Value), n < w.heap.size → (os.foldl World.alloc w).setCell ⟨n, i, none⟩ v = os.foldl World.alloc (w.setCell ⟨n, i, none⟩ v) := by
  induction os with
  | nil => intro w n i v _; exact rfl
  | cons o os ih =>
    intro w n i v h
    have := ih (w.alloc o) n i v (by simp; omega)
    rw [World.setCell_alloc_past o n i v h] at this
    exact this
theorem ext_setCell (w : World) (os : List Obj) (q : Nat) (n i : Nat) (v : Value) (h : n < w.heap.size) : (ext w os q).setCell ⟨n, i, none⟩ v = ext (w.setCell ⟨n, i, none⟩ v) os q := by
  unfold ext
  rw [setCell_drewN, fold_setCell os w n i v h]

/-- w' is w with more in it -/
def Ext (w w' : World) : Prop := ∃ os q, w' = ext w os q
theorem drewN_alloc_fold (os : List Obj) : ∀ (w : World) (q : Nat), os.foldl World.alloc (w.drewN q) = (os.foldl World.alloc w).drewN q := by
  induction os with
  | nil => intro w q; exact rfl
  | cons o os ih => intro w q; exact ih (w.alloc o) q
theorem Ext.refl (w : World) : Ext w w := ⟨[], 0, rfl⟩
theorem Ext.trans {a b c : World} (h : Ext a b) (k : Ext b c) : Ext a c := by
  obtain ⟨os, q, rfl⟩ := h
  obtain ⟨os', q', rfl⟩ := k
  refine ⟨os ++ os', q + q', ?_⟩
  unfold ext
  rw [drewN_alloc_fold, List.foldl_append]
  simp
theorem ext_drew (w : World) (os : List Obj) (q : Nat) : ext w.drew os q = ext w os (1 + q) := by
  have := drewN_alloc_fold os w 1
  unfold ext
  rw [show w.drew = w.drewN 1 from rfl, this]
  simp
theorem ext_drewN (w : World) (os : List Obj) (k q : Nat) : ext (w.drewN k) os q = ext w os (k + q) := by
  unfold ext
  rw [drewN_alloc_fold]
  simp
theorem ext_ext (w : World) (os os' : List Obj) (q q' : Nat) : ext (ext w os q) os' q' = ext w (os ++ os') (q + q') := by
  unfold ext
  rw [drewN_alloc_fold, List.foldl_append]
  simp
theorem drewN_ext (w : World) (os : List Obj) (q k : Nat) : (ext w os q).drewN k = ext w os (q + k) := by
  unfold ext
  simp
theorem Ext.alloc {a b : World} (h : Ext a b) (o : Obj) : Ext a (b.alloc o) := h.trans ⟨[o], 0, rfl⟩
theorem Ext.drew {a b : World} (h : Ext a b) : Ext a b.drew := h.trans ⟨[], 1, rfl⟩
theorem Ext.drewN {a b : World} (h : Ext a b) (q : Nat) : Ext a (b.drewN q) := h.trans ⟨[], q, rfl⟩
theorem Ext.ext {a b : World} (h : Ext a b) (os : List Obj) (q : Nat) : Ext a (ext b os q) := h.trans ⟨os, q, rfl⟩
theorem Ext.below {a b : World} (h : Ext a b) : Below a.heap.size a b := by
  obtain ⟨os, q, rfl⟩ := h
  exact ext_below (Below.refl _ _) (Nat.le_refl _) os q

set_option maxRecDepth 100000 in
set_option maxHeartbeats 1000000 in
theorem carry_any (a x y s p : Int) (w : World) :
    Calls Tryd.prog 36 #[uv a x y s p] w fun e w' => e = .returned (.int .u8 (bits .and .u8 p 1)) ∧ Ext w w' := by
  unfold uv
  go_enter Tryd.func36, Tryd.ntmps36
  go_wp2
  go_ret
  exact ⟨rfl, (Ext.refl _).alloc _⟩

set_option maxRecDepth 100000 in
set_option maxHeartbeats 1000000 in
theorem flag_any (a x y s p b : Int) (on : Bool) (w : World) :
    Calls Tryd.prog 37 #[uv a x y s p, .int .u8 b, .bool on] w fun e w' => e = .returned (uu (flU ⟨a, x, y, s, p⟩ b on)) ∧ Ext w w' := by
  cases on
  all_goals
    unfold uu uv
    go_enter Tryd.func37, Tryd.ntmps37
    go_wp2
    refine bodyPost_ret (by simp [results, Tryd.results37, go_sem] <;> exact ⟨rfl, rfl, rfl, rfl, rfl⟩) rfl ⟨rfl, ?_⟩
    exact ((Ext.refl _).alloc _).alloc _


set_option maxRecDepth 100000 in
set_option maxHeartbeats 1000000 in
theorem signed_any (a x y s p b : Int) (w : World) :
    Calls Tryd.prog 39 #[uv a x y s p, .int .u8 b] w fun e w' => e = .returned (uu (sgU ⟨a, x, y, s, p⟩ b)) ∧ Ext w w' := by
  have F0 := flag_any
  unfold uu uv at F0
  have r1 := ext_cell
  have r2 := ext_frozen
  have r3 := ext_setCell
  have r4 := ext_lt
  have r5 := ext_drew
  have r6 := ext_ext
  unfold uu uv
  go_enter Tryd.func39, Tryd.ntmps39
  go_wp2_with (first | (go_at_call 37; refine (F0 _ _ _ _ _ _ _ _).mono ?_; rintro e w' ⟨rfl, os, q, rfl⟩))
  all_goals
    refine bodyPost_ret (by simp [results, Tryd.results39, go_sem, *] <;> (repeat' (first | exact rfl | refine And.intro ?_ ?_))) rfl ⟨rfl, ?_⟩
    repeat (first | exact Ext.refl _ | refine Ext.alloc ?_ _ | refine Ext.ext ?_ _ _ | refine Ext.drew ?_ | refine Ext.drewN ?_ _)

set_option maxRecDepth 100000 in
set_option maxHeartbeats 1000000 in
theorem lda_any (a x y s p m : Int) (w : World) :
    Calls Tryd.prog 26 #[uv a x y s p, .int .u8 m] w fun e w' => e = .returned (uu (ldaU ⟨a, x, y, s, p⟩ m)) ∧ Ext w w' := by
  have F0 := signed_any
  unfold uu uv at F0
  have r1 := ext_cell
  have r2 := ext_frozen
  have r3 := ext_setCell
  have r4 := ext_lt
  have r5 := ext_drew
  have r6 := ext_ext
  unfold uu uv
  go_enter Tryd.func26, Tryd.ntmps26
  go_wp2_with (first | (go_at_call 39; refine (F0 _ _ _ _ _ _ _).mono ?_; rintro e w' ⟨rfl, os, q, rfl⟩))
  all_goals
    refine bodyPost_ret (by simp [results, Tryd.results26, go_sem, *] <;> (repeat' (first | exact rfl | refine And.intro ?_ ?_))) rfl ⟨rfl, ?_⟩
    repeat (first | exact Ext.refl _ | refine Ext.alloc ?_ _ | refine Ext.ext ?_ _ _ | refine Ext.drew ?_ | refine Ext.drewN ?_ _)

set_option maxRecDepth 100000 in
set_option maxHeartbeats 1000000 in
theorem ldx_any (a x y s p m : Int) (w : World) :
    Calls Tryd.prog 27 #[uv a x y s p, .int .u8 m] w fun e w' => e = .returned (uu (ldxU ⟨a, x, y, s, p⟩ m)) ∧ Ext w w' := by
  have F0 := signed_any
  unfold uu uv at F0
  have r1 := ext_cell
  have r2 := ext_frozen
  have r3 := ext_setCell
  have r4 := ext_lt
  have r5 := ext_drew
  have r6 := ext_ext
  unfold uu uv
  go_enter Tryd.func27, Tryd.ntmps27
  go_wp2_with (first | (go_at_call 39; refine (F0 _ _ _ _ _ _ _).mono ?_; rintro e w' ⟨rfl, os, q, rfl⟩))
  all_goals
    refine bodyPost_ret (by simp [results, Tryd.results27, go_sem, *] <;> (repeat' (first | exact rfl | refine And.intro ?_ ?_))) rfl ⟨rfl, ?_⟩
    repeat (first | exact Ext.refl _ | refine Ext.alloc ?_ _ | refine Ext.ext ?_ _ _ | refine Ext.drew ?_ | refine Ext.drewN ?_ _)

set_option maxRecDepth 100000 in
set_option maxHeartbeats 1000000 in
theorem ldy_any (a x y s p m : Int) (w : World) :
    Calls Tryd.prog 28 #[uv a x y s p, .int .u8 m] w fun e w' => e = .returned (uu (ldyU ⟨a, x, y, s, p⟩ m)) ∧ Ext w w' := by
  have F0 := signed_any
  unfold uu uv at F0
  have r1 := ext_cell
  have r2 := ext_frozen
  have r3 := ext_setCell
  have r4 := ext_lt
  have r5 := ext_drew
  have r6 := ext_ext
  unfold uu uv
  go_enter Tryd.func28, Tryd.ntmps28
  go_wp2_with (first | (go_at_call 39; refine (F0 _ _ _ _ _ _ _).mono ?_; rintro e w' ⟨rfl, os, q, rfl⟩))
  all_goals
    refine bodyPost_ret (by simp [results, Tryd.results28, go_sem, *] <;> (repeat' (first | exact rfl | refine And.intro ?_ ?_))) rfl ⟨rfl, ?_⟩
    repeat (first | exact Ext.refl _ | refine Ext.alloc ?_ _ | refine Ext.ext ?_ _ _ | refine Ext.drew ?_ | refine Ext.drewN ?_ _)

set_option maxRecDepth 100000 in
set_option maxHeartbeats 1000000 in
theorem nop_any (a x y s p m : Int) (w : World) :
    Calls Tryd.prog 17 #[uv a x y s p, .int .u8 m] w fun e w' => e = .returned (uu (⟨a, x, y, s, p⟩)) ∧ Ext w w' := by
  have r1 := ext_cell
  have r2 := ext_frozen
  have r3 := ext_setCell
  have r4 := ext_lt
  have r5 := ext_drew
  have r6 := ext_ext
  unfold uu uv
  go_enter Tryd.func17, Tryd.ntmps17
  go_wp2_with (fail)
  all_goals
    refine bodyPost_ret (by simp [results, Tryd.results17, go_sem, *] <;> (repeat' (first | exact rfl | refine And.intro ?_ ?_))) rfl ⟨rfl, ?_⟩
    repeat (first | exact Ext.refl _ | refine Ext.alloc ?_ _ | refine Ext.ext ?_ _ _ | refine Ext.drew ?_ | refine Ext.drewN ?_ _)

set_option maxRecDepth 100000 in
set_option maxHeartbeats 1000000 in
theorem ora_any (a x y s p m : Int) (w : World) :
    Calls Tryd.prog 18 #[uv a x y s p, .int .u8 m] w fun e w' => e = .returned (uu (oraU ⟨a, x, y, s, p⟩ m)) ∧ Ext w w' := by
  have F0 := lda_any
  unfold uu uv at F0
  have r1 := ext_cell
  have r2 := ext_frozen
  have r3 := ext_setCell
  have r4 := ext_lt
  have r5 := ext_drew
  have r6 := ext_ext
  unfold uu uv
  go_enter Tryd.func18, Tryd.ntmps18
  go_wp2_with (first | (go_at_call 26; refine (F0 _ _ _ _ _ _ _).mono ?_; rintro e w' ⟨rfl, os, q, rfl⟩))
  all_goals
    refine bodyPost_ret (by simp [results, Tryd.results18, go_sem, *] <;> (repeat' (first | exact rfl | refine And.intro ?_ ?_))) rfl ⟨rfl, ?_⟩
    repeat (first | exact Ext.refl _ | refine Ext.alloc ?_ _ | refine Ext.ext ?_ _ _ | refine Ext.drew ?_ | refine Ext.drewN ?_ _)

set_option maxRecDepth 100000 in
set_option maxHeartbeats 1000000 in
theorem and_any (a x y s p m : Int) (w : World) :
    Calls Tryd.prog 19 #[uv a x y s p, .int .u8 m] w fun e w' => e = .returned (uu (andU ⟨a, x, y, s, p⟩ m)) ∧ Ext w w' := by
  have F0 := lda_any
  unfold uu uv at F0
  have r1 := ext_cell
  have r2 := ext_frozen
  have r3 := ext_setCell
  have r4 := ext_lt
  have r5 := ext_drew
  have r6 := ext_ext
  unfold uu uv
  go_enter Tryd.func19, Tryd.ntmps19
  go_wp2_with (first | (go_at_call 26; refine (F0 _ _ _ _ _ _ _).mono ?_; rintro e w' ⟨rfl, os, q, rfl⟩))
  all_goals
    refine bodyPost_ret (by simp [results, Tryd.results19, go_sem, *] <;> (repeat' (first | exact rfl | refine And.intro ?_ ?_))) rfl ⟨rfl, ?_⟩
    repeat (first | exact Ext.refl _ | refine Ext.alloc ?_ _ | refine Ext.ext ?_ _ _ | refine Ext.drew ?_ | refine Ext.drewN ?_ _)

set_option maxRecDepth 100000 in
set_option maxHeartbeats 1000000 in
theorem eor_any (a x y s p m : Int) (w : World) :
    Calls Tryd.prog 20 #[uv a x y s p, .int .u8 m] w fun e w' => e = .returned (uu (eorU ⟨a, x, y, s, p⟩ m)) ∧ Ext w w' := by
  have F0 := lda_any
  unfold uu uv at F0
  have r1 := ext_cell
  have r2 := ext_frozen
  have r3 := ext_setCell
  have r4 := ext_lt
  have r5 := ext_drew
  have r6 := ext_ext
  unfold uu uv
  go_enter Tryd.func20, Tryd.ntmps20
  go_wp2_with (first | (go_at_call 26; refine (F0 _ _ _ _ _ _ _).mono ?_; rintro e w' ⟨rfl, os, q, rfl⟩))
  all_goals
    refine bodyPost_ret (by simp [results, Tryd.results20, go_sem, *] <;> (repeat' (first | exact rfl | refine And.intro ?_ ?_))) rfl ⟨rfl, ?_⟩
    repeat (first | exact Ext.refl _ | refine Ext.alloc ?_ _ | refine Ext.ext ?_ _ _ | refine Ext.drew ?_ | refine Ext.drewN ?_ _)

set_option maxRecDepth 100000 in
set_option maxHeartbeats 1000000 in
theorem compare_any (a x y s p b m : Int) (w : World) :
    Calls Tryd.prog 38 #[uv a x y s p, .int .u8 b, .int .u8 m] w fun e w' => e = .returned (uu (cmpU ⟨a, x, y, s, p⟩ b m)) ∧ Ext w w' := by
  have F0 := flag_any
  unfold uu uv at F0
  have F1 := signed_any
  unfold uu uv at F1
  have r1 := ext_cell
  have r2 := ext_frozen
  have r3 := ext_setCell
  have r4 := ext_lt
  have r5 := ext_drew
  have r6 := ext_ext
  unfold uu uv
  go_enter Tryd.func38, Tryd.ntmps38
  go_wp2_with (first | (go_at_call 37; refine (F0 _ _ _ _ _ _ _ _).mono ?_; rintro e w' ⟨rfl, os, q, rfl⟩) | (go_at_call 39; refine (F1 _ _ _ _ _ _ _).mono ?_; rintro e w' ⟨rfl, os, q, rfl⟩))
  all_goals
    refine bodyPost_ret (by simp [results, Tryd.results38, go_sem, *] <;> (repeat' (first | exact rfl | refine And.intro ?_ ?_))) rfl ⟨rfl, ?_⟩
    repeat (first | exact Ext.refl _ | refine Ext.alloc ?_ _ | refine Ext.ext ?_ _ _ | refine Ext.drew ?_ | refine Ext.drewN ?_ _)

set_option maxRecDepth 100000 in
set_option maxHeartbeats 1000000 in
theorem cmp_any (a x y s p m : Int) (w : World) :
    Calls Tryd.prog 23 #[uv a x y s p, .int .u8 m] w fun e w' => e = .returned (uu (cmpU ⟨a, x, y, s, p⟩ a m)) ∧ Ext w w' := by
  have F0 := compare_any
  unfold uu uv at F0
  have r1 := ext_cell
  have r2 := ext_frozen
  have r3 := ext_setCell
  have r4 := ext_lt
  have r5 := ext_drew
  have r6 := ext_ext
  unfold uu uv
  go_enter Tryd.func23, Tryd.ntmps23
  go_wp2_with (first | (go_at_call 38; refine (F0 _ _ _ _ _ _ _ _).mono ?_; rintro e w' ⟨rfl, os, q, rfl⟩))
  all_goals
    refine bodyPost_ret (by simp [results, Tryd.results23, go_sem, *] <;> (repeat' (first | exact rfl | refine And.intro ?_ ?_))) rfl ⟨rfl, ?_⟩
    repeat (first | exact Ext.refl _ | refine Ext.alloc ?_ _ | refine Ext.ext ?_ _ _ | refine Ext.drew ?_ | refine Ext.drewN ?_ _)

set_option maxRecDepth 100000 in
set_option maxHeartbeats 1000000 in
theorem cpx_any (a x y s p m : Int) (w : World) :
    Calls Tryd.prog 24 #[uv a x y s p, .int .u8 m] w fun e w' => e = .returned (uu (cmpU ⟨a, x, y, s, p⟩ x m)) ∧ Ext w w' := by
  have F0 := compare_any
  unfold uu uv at F0
  have r1 := ext_cell
  have r2 := ext_frozen
  have r3 := ext_setCell
  have r4 := ext_lt
  have r5 := ext_drew
  have r6 := ext_ext
  unfold uu uv
  go_enter Tryd.func24, Tryd.ntmps24
  go_wp2_with (first | (go_at_call 38; refine (F0 _ _ _ _ _ _ _ _).mono ?_; rintro e w' ⟨rfl, os, q, rfl⟩))
  all_goals
    refine bodyPost_ret (by simp [results, Tryd.results24, go_sem, *] <;> (repeat' (first | exact rfl | refine And.intro ?_ ?_))) rfl ⟨rfl, ?_⟩
    repeat (first | exact Ext.refl _ | refine Ext.alloc ?_ _ | refine Ext.ext ?_ _ _ | refine Ext.drew ?_ | refine Ext.drewN ?_ _)

set_option maxRecDepth 100000 in
set_option maxHeartbeats 1000000 in
theorem cpy_any (a x y s p m : Int) (w : World) :
    Calls Tryd.prog 25 #[uv a x y s p, .int .u8 m] w fun e w' => e = .returned (uu (cmpU ⟨a, x, y, s, p⟩ y m)) ∧ Ext w w' := by
  have F0 := compare_any
  unfold uu uv at F0
  have r1 := ext_cell
  have r2 := ext_frozen
  have r3 := ext_setCell
  have r4 := ext_lt
  have r5 := ext_drew
  have r6 := ext_ext
  unfold uu uv
  go_enter Tryd.func25, Tryd.ntmps25
  go_wp2_with (first | (go_at_call 38; refine (F0 _ _ _ _ _ _ _ _).mono ?_; rintro e w' ⟨rfl, os, q, rfl⟩))
  all_goals
    refine bodyPost_ret (by simp [results, Tryd.results25, go_sem, *] <;> (repeat' (first | exact rfl | refine And.intro ?_ ?_))) rfl ⟨rfl, ?_⟩
    repeat (first | exact Ext.refl _ | refine Ext.alloc ?_ _ | refine Ext.ext ?_ _ _ | refine Ext.drew ?_ | refine Ext.drewN ?_ _)

set_option maxRecDepth 100000 in
set_option maxHeartbeats 1000000 in
theorem lax_any (a x y s p m : Int) (w : World) :
    Calls Tryd.prog 30 #[uv a x y s p, .int .u8 m] w fun e w' => e = .returned (uu (laxU ⟨a, x, y, s, p⟩ m)) ∧ Ext w w' := by
  have F0 := lda_any
  unfold uu uv at F0
  have F1 := ldx_any
  unfold uu uv at F1
  have r1 := ext_cell
  have r2 := ext_frozen
  have r3 := ext_setCell
  have r4 := ext_lt
  have r5 := ext_drew
  have r6 := ext_ext
  unfold uu uv
  go_enter Tryd.func30, Tryd.ntmps30
  go_wp2_with (first | (go_at_call 26; refine (F0 _ _ _ _ _ _ _).mono ?_; rintro e w' ⟨rfl, os, q, rfl⟩) | (go_at_call 27; refine (F1 _ _ _ _ _ _ _).mono ?_; rintro e w' ⟨rfl, os, q, rfl⟩))
  all_goals
    refine bodyPost_ret (by simp [results, Tryd.results30, go_sem, *] <;> (repeat' (first | exact rfl | refine And.intro ?_ ?_))) rfl ⟨rfl, ?_⟩
    repeat (first | exact Ext.refl _ | refine Ext.alloc ?_ _ | refine Ext.ext ?_ _ _ | refine Ext.drew ?_ | refine Ext.drewN ?_ _)

set_option maxRecDepth 100000 in
set_option maxHeartbeats 1000000 in
theorem anc_any (a x y s p m : Int) (w : World) :
    Calls Tryd.prog 31 #[uv a x y s p, .int .u8 m] w fun e w' => e = .returned (uu (ancU ⟨a, x, y, s, p⟩ m)) ∧ Ext w w' := by
  have F0 := and_any
  unfold uu uv at F0
  have F1 := flag_any
  unfold uu uv at F1
  have r1 := ext_cell
  have r2 := ext_frozen
  have r3 := ext_setCell
  have r4 := ext_lt
  have r5 := ext_drew
  have r6 := ext_ext
  unfold uu uv
  go_enter Tryd.func31, Tryd.ntmps31
  go_wp2_with (first | (go_at_call 19; refine (F0 _ _ _ _ _ _ _).mono ?_; rintro e w' ⟨rfl, os, q, rfl⟩) | (go_at_call 37; refine (F1 _ _ _ _ _ _ _ _).mono ?_; rintro e w' ⟨rfl, os, q, rfl⟩))
  all_goals
    refine bodyPost_ret (by simp [results, Tryd.results31, go_sem, *] <;> (repeat' (first | exact rfl | refine And.intro ?_ ?_))) rfl ⟨rfl, ?_⟩
    repeat (first | exact Ext.refl _ | refine Ext.alloc ?_ _ | refine Ext.ext ?_ _ _ | refine Ext.drew ?_ | refine Ext.drewN ?_ _)

set_option maxRecDepth 100000 in
set_option maxHeartbeats 1000000 in
theorem axs_any (a x y s p m : Int) (w : World) :
    Calls Tryd.prog 34 #[uv a x y s p, .int .u8 m] w fun e w' => e = .returned (uu (axsU ⟨a, x, y, s, p⟩ m)) ∧ Ext w w' := by
  have F0 := compare_any
  unfold uu uv at F0
  have F1 := ldx_any
  unfold uu uv at F1
  have r1 := ext_cell
  have r2 := ext_frozen
  have r3 := ext_setCell
  have r4 := ext_lt
  have r5 := ext_drew
  have r6 := ext_ext
  unfold uu uv
  go_enter Tryd.func34, Tryd.ntmps34
  go_wp2_with (first | (go_at_call 38; refine (F0 _ _ _ _ _ _ _ _).mono ?_; rintro e w' ⟨rfl, os, q, rfl⟩) | (go_at_call 27; refine (F1 _ _ _ _ _ _ _).mono ?_; rintro e w' ⟨rfl, os, q, rfl⟩))
  all_goals
    refine bodyPost_ret (by simp [results, Tryd.results34, go_sem, *] <;> (repeat' (first | exact rfl | refine And.intro ?_ ?_))) rfl ⟨rfl, ?_⟩
    repeat (first | exact Ext.refl _ | refine Ext.alloc ?_ _ | refine Ext.ext ?_ _ _ | refine Ext.drew ?_ | refine Ext.drewN ?_ _)

set_option maxRecDepth 100000 in
set_option maxHeartbeats 1000000 in
theorem las_any (a x y s p m : Int) (w : World) :
    Calls Tryd.prog 35 #[uv a x y s p, .int .u8 m] w fun e w' => e = .returned (uu (lasU ⟨a, x, y, s, p⟩ m)) ∧ Ext w w' := by
  have F0 := lax_any
  unfold uu uv at F0
  have r1 := ext_cell
  have r2 := ext_frozen
  have r3 := ext_setCell
  have r4 := ext_lt
  have r5 := ext_drew
  have r6 := ext_ext
  unfold uu uv
  go_enter Tryd.func35, Tryd.ntmps35
  go_wp2_with (first | (go_at_call 30; refine (F0 _ _ _ _ _ _ _).mono ?_; rintro e w' ⟨rfl, os, q, rfl⟩))
  all_goals
    refine bodyPost_ret (by simp [results, Tryd.results35, go_sem, *] <;> (repeat' (first | exact rfl | refine And.intro ?_ ?_))) rfl ⟨rfl, ?_⟩
    repeat (first | exact Ext.refl _ | refine Ext.alloc ?_ _ | refine Ext.ext ?_ _ _ | refine Ext.drew ?_ | refine Ext.drewN ?_ _)

set_option maxRecDepth 100000 in
set_option maxHeartbeats 1000000 in
theorem becomes_any (a x y s p m : Int) (w : World) :
    Calls Tryd.prog 44 #[uv a x y s p, .int .u8 m] w fun e w' => e = .returned (.tuple #[uu (becU ⟨a, x, y, s, p⟩ m).1, .int .u8 (becU ⟨a, x, y, s, p⟩ m).2]) ∧ Ext w w' := by
  have F0 := signed_any
  unfold uu uv at F0
  have r1 := ext_cell
  have r2 := ext_frozen
  have r3 := ext_setCell
  have r4 := ext_lt
  have r5 := ext_drew
  have r6 := ext_ext
  unfold uu uv
  go_enter Tryd.func44, Tryd.ntmps44
  go_wp2_with (first | (go_at_call 39; refine (F0 _ _ _ _ _ _ _).mono ?_; rintro e w' ⟨rfl, os, q, rfl⟩))
  all_goals
    refine bodyPost_ret (by simp [results, Tryd.results44, go_sem, *] <;> (repeat' (first | exact rfl | refine And.intro ?_ ?_))) rfl ⟨rfl, ?_⟩
    repeat (first | exact Ext.refl _ | refine Ext.alloc ?_ _ | refine Ext.ext ?_ _ _ | refine Ext.drew ?_ | refine Ext.drewN ?_ _)

set_option maxRecDepth 100000 in
set_option maxHeartbeats 1000000 in
theorem right_any (a x y s p m i : Int) (w : World) :
    Calls Tryd.prog 43 #[uv a x y s p, .int .u8 m, .int .u8 i] w fun e w' => e = .returned (.tuple #[uu (rightU ⟨a, x, y, s, p⟩ m i).1, .int .u8 (rightU ⟨a, x, y, s, p⟩ m i).2]) ∧ Ext w w' := by
  have F0 := flag_any
  unfold uu uv at F0
  have F1 := becomes_any
  unfold uu uv at F1
  have r1 := ext_cell
  have r2 := ext_frozen
  have r3 := ext_setCell
  have r4 := ext_lt
  have r5 := ext_drew
  have r6 := ext_ext
  unfold uu uv
  go_enter Tryd.func43, Tryd.ntmps43
  go_wp2_with (first | (go_at_call 37; refine (F0 _ _ _ _ _ _ _ _).mono ?_; rintro e w' ⟨rfl, os, q, rfl⟩) | (go_at_call 44; refine (F1 _ _ _ _ _ _ _).mono ?_; rintro e w' ⟨rfl, os, q, rfl⟩))
  all_goals
    refine bodyPost_ret (by simp [results, Tryd.results43, go_sem, *] <;> (repeat' (first | exact rfl | refine And.intro ?_ ?_))) rfl ⟨rfl, ?_⟩
    repeat (first | exact Ext.refl _ | refine Ext.alloc ?_ _ | refine Ext.ext ?_ _ _ | refine Ext.drew ?_ | refine Ext.drewN ?_ _)

set_option maxRecDepth 100000 in
set_option maxHeartbeats 1000000 in
theorem lsr_any (a x y s p m : Int) (w : World) :
    Calls Tryd.prog 41 #[uv a x y s p, .int .u8 m] w fun e w' => e = .returned (.tuple #[uu (rightU ⟨a, x, y, s, p⟩ m 0).1, .int .u8 (rightU ⟨a, x, y, s, p⟩ m 0).2]) ∧ Ext w w' := by
  have F0 := right_any
  unfold uu uv at F0
  have r1 := ext_cell
  have r2 := ext_frozen
  have r3 := ext_setCell
  have r4 := ext_lt
  have r5 := ext_drew
  have r6 := ext_ext
  unfold uu uv
  go_enter Tryd.func41, Tryd.ntmps41
  go_wp2_with (first | (go_at_call 43; refine (F0 _ _ _ _ _ _ _ _).mono ?_; rintro e w' ⟨rfl, os, q, rfl⟩))
  all_goals
    refine bodyPost_ret (by simp [results, Tryd.results41, go_sem, *] <;> (repeat' (first | exact rfl | refine And.intro ?_ ?_))) rfl ⟨rfl, ?_⟩
    repeat (first | exact Ext.refl _ | refine Ext.alloc ?_ _ | refine Ext.ext ?_ _ _ | refine Ext.drew ?_ | refine Ext.drewN ?_ _)

end Go.Proofs.YtigpmmjbdpnkjaaDoor
