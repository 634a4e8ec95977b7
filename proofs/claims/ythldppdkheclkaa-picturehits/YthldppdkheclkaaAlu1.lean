/- Contracts of package alu: flags, registers, operations that read. No law is claimed here. -/
import Derived.Test.YthldppdkheclkaaBase
import Derived.Test.YthldppdkheclkaaBits
import Derived.Below
import Derived.Deep.RegionHeld3
import Derived.Deep.DeepCutAuto
namespace Go.Proofs.Ythldppdkheclkaa
open Go.RowKit

/-- a unit's value -/
def uv (a x y s p : Int) : Value := .agg #[.int .u8 a, .int .u8 x, .int .u8 y, .int .u8 s, .int .u8 p]
/-- registers and flags -/
structure Un where
  a : Int
  x : Int
  y : Int
  s : Int
  p : Int
def uu (u : Un) : Value := uv u.a u.x u.y u.s u.p

/-- flags set or cleared -/
def fl (p b : Int) (on : Bool) : Int := if on then bits .or .u8 (bits .andNot .u8 p b) b else bits .andNot .u8 p b
def flU (u : Un) (b : Int) (on : Bool) : Un := { u with p := fl u.p b on }
def sgU (u : Un) (m : Int) : Un := flU (flU u 128 (decide (128 ≤ m))) 2 (m == 0)
def ldaU (u : Un) (m : Int) : Un := sgU { u with a := m } m
def ldxU (u : Un) (m : Int) : Un := sgU { u with x := m } m
def ldyU (u : Un) (m : Int) : Un := sgU { u with y := m } m
def oraU (u : Un) (m : Int) : Un := ldaU u (bits .or .u8 u.a m)
def andU (u : Un) (m : Int) : Un := ldaU u (bits .and .u8 u.a m)
def eorU (u : Un) (m : Int) : Un := ldaU u (bits .xor .u8 u.a m)
def cmpU (u : Un) (b m : Int) : Un := sgU (flU u 1 (decide (m ≤ b))) (IntKind.u8.wrap (b - m))
def laxU (u : Un) (m : Int) : Un := ldxU (ldaU u m) m
def ancU (u : Un) (m : Int) : Un := flU (andU u m) 1 (decide (128 ≤ (andU u m).a))
def axsU (u : Un) (m : Int) : Un := ldxU (cmpU u (bits .and .u8 u.a u.x) m) (IntKind.u8.wrap (bits .and .u8 u.a u.x - m))
def lasU (u : Un) (m : Int) : Un := laxU { u with s := bits .and .u8 u.s m } (bits .and .u8 u.s m)
def becU (u : Un) (m : Int) : Un × Int := (sgU u m, m)
def shlU (m k : Int) : Int := IntKind.u8.wrap (m * 2 ^ k.toNat)
def shrU (m k : Int) : Int := m / 2 ^ k.toNat
def leftU (u : Un) (m i : Int) : Un × Int := becU (flU u 1 (bits .and .u8 m 128 != 0)) (bits .or .u8 (shlU m 1) i)
def rightU (u : Un) (m i : Int) : Un × Int := becU (flU u 1 (bits .and .u8 m 1 != 0)) (bits .or .u8 (shrU m 1) (shlU i 7))

/-- a world with more in it: nothing that there was is touched -/
def ext (w : World) (os : List Obj) (q : Nat) : World := (os.foldl World.alloc w).drewN q
theorem still_below (w : World) (q B : Nat) : Below B w (w.drewN q) := by
  induction q with
  | zero => exact Below.refl _ _
  | succ q ih => exact ih.drew
theorem setCell_drewN (v : World) (q : Nat) (p : Addr) (u : Value) : (v.drewN q).setCell p u = (v.setCell p u).drewN q := by
  induction q generalizing v with
  | zero => exact rfl
  | succ q ih => exact rfl
theorem fold_alloc_below (os : List Obj) : ∀ (B : Nat) (a w : World), Below B a w → B ≤ w.heap.size → Below B a (os.foldl World.alloc w) := by
  induction os with
  | nil => intro B a w h _; exact h
  | cons o os ih =>
    intro B a w h hB
    exact ih B a (w.alloc o) (h.alloc hB o) (by simp; omega)
theorem ext_below {B : Nat} {a w : World} (h : Below B a w) (hB : B ≤ w.heap.size) (os : List Obj) (q : Nat) : Below B a (ext w os q) :=
  (fold_alloc_below os B a w h hB).trans (still_below _ _ _)
theorem ext_cell (w : World) (os : List Obj) (q : Nat) (p : Addr) (h : p.block < w.heap.size) : (ext w os q).cell? p = w.cell? p :=
  (ext_below (Below.refl _ w) (Nat.le_refl _) os q).cell h
theorem ext_frozen (w : World) (os : List Obj) (q : Nat) (p : Addr) (h : p.block < w.heap.size) : (ext w os q).frozen? p = w.frozen? p :=
  (ext_below (Below.refl _ w) (Nat.le_refl _) os q).frozen h
theorem ext_lt (w : World) (os : List Obj) (q : Nat) (b : Nat) (h : b < w.heap.size) : b < (ext w os q).heap.size :=
  Nat.lt_of_lt_of_le h (ext_below (Below.refl _ w) (Nat.le_refl _) os q).size
theorem heap_setCell_size (w : World) (p : Addr) (v : Value) : (w.setCell p v).heap.size = w.heap.size := by
  unfold World.setCell; simp
theorem fold_setCell (os : List Obj) : ∀ (w : World) (n i : Nat) (v : Value), n < w.heap.size → (os.foldl World.alloc w).setCell ⟨n, i, none⟩ v = os.foldl World.alloc (w.setCell ⟨n, i, none⟩ v) := by
  induction os with
  | nil => intro w n i v _; exact rfl
  | cons o os ih =>
    intro w n i v h
    have := ih (w.alloc o) n i v (by simp; omega)
    rw [World.setCell_alloc_past o n i v h] at this
    exact this
theorem ext_setCell (w : World) (os : List Obj) (q : Nat) (n i : Nat) (v : Value) (h : n < w.heap.size) : (ext w os q).setCell ⟨n, i, none⟩ v = ext (w.setCell ⟨n, i, none⟩ v) os q := by
  unfold ext
  rw [setCell_drewN, fold_setCell os w n i v h]

/-- w' is w with more in it -/
def Ext (w w' : World) : Prop := ∃ os q, w' = ext w os q
theorem drewN_alloc_fold (os : List Obj) : ∀ (w : World) (q : Nat), os.foldl World.alloc (w.drewN q) = (os.foldl World.alloc w).drewN q := by
  induction os with
  | nil => intro w q; exact rfl
  | cons o os ih => intro w q; exact ih (w.alloc o) q
theorem Ext.refl (w : World) : Ext w w := ⟨[], 0, rfl⟩
theorem Ext.trans {a b c : World} (h : Ext a b) (k : Ext b c) : Ext a c := by
  obtain ⟨os, q, rfl⟩ := h
  obtain ⟨os', q', rfl⟩ := k
  refine ⟨os ++ os', q + q', ?_⟩
  unfold ext
  rw [drewN_alloc_fold, List.foldl_append]
  simp
theorem ext_drew (w : World) (os : List Obj) (q : Nat) : ext w.drew os q = ext w os (1 + q) := by
  have := drewN_alloc_fold os w 1
  unfold ext
  rw [show w.drew = w.drewN 1 from rfl, this]
  simp
theorem ext_drewN (w : World) (os : List Obj) (k q : Nat) : ext (w.drewN k) os q = ext w os (k + q) := by
  unfold ext
  rw [drewN_alloc_fold]
  simp
theorem ext_ext (w : World) (os os' : List Obj) (q q' : Nat) : ext (ext w os q) os' q' = ext w (os ++ os') (q + q') := by
  unfold ext
  rw [drewN_alloc_fold, List.foldl_append]
  simp
theorem drewN_ext (w : World) (os : List Obj) (q k : Nat) : (ext w os q).drewN k = ext w os (q + k) := by
  unfold ext
  simp
theorem Ext.alloc {a b : World} (h : Ext a b) (o : Obj) : Ext a (b.alloc o) := h.trans ⟨[o], 0, rfl⟩
theorem Ext.drew {a b : World} (h : Ext a b) : Ext a b.drew := h.trans ⟨[], 1, rfl⟩
theorem Ext.drewN {a b : World} (h : Ext a b) (q : Nat) : Ext a (b.drewN q) := h.trans ⟨[], q, rfl⟩
theorem Ext.ext {a b : World} (h : Ext a b) (os : List Obj) (q : Nat) : Ext a (ext b os q) := h.trans ⟨os, q, rfl⟩
theorem Ext.below {a b : World} (h : Ext a b) : Below a.heap.size a b := by
  obtain ⟨os, q, rfl⟩ := h
  exact ext_below (Below.refl _ _) (Nat.le_refl _) os q

end Go.Proofs.Ythldppdkheclkaa
