/- The picture unit in memory: 72025 cells of one block. No law is claimed here. -/
import Derived.Test.YthldppdkheclkaaMore
import Derived.BigQuiet
set_option linter.unusedSimpArgs false
set_option linter.unusedVariables false
namespace Go.Proofs.Ythldppdkheclkaa
open Go.RowKit

/-- its single cells -/
structure PC where
  up : Bool
  V : Int
  T : Int
  X : Int
  W : Bool
  con : Int
  msk : Int
  bus : Int
  buf : Int
  ad : Int
  cnt : Int
  blank : Bool
  hit : Bool
  over : Bool
  line : Int
  dot : Int
  fr : Int

def updV (A : Nat → Value) (k : Nat) (x : Value) : Nat → Value := fun i => if i = k then x else A i
theorem updV_same (A : Nat → Value) (k : Nat) (x : Value) : updV A k x k = x := if_pos rfl
theorem updV_other (A : Nat → Value) (k : Nat) (x : Value) (i : Nat) (h : i ≠ k) : updV A k x i = A i := if_neg h
/-- a byte -/
def IsB (y : Value) : Prop := ∃ x : Int, y = .int .u8 x ∧ 0 ≤ x ∧ x < 256
/-- a selected sprite -/
def IsS (A : Nat → Value) (j : Nat) : Prop := ∃ (f : Bool) (a x l u : Int), A j = .bool f ∧ A (j + 1) = .int .u8 a ∧ A (j + 2) = .int .i64 x ∧ A (j + 3) = .int .u8 l ∧ A (j + 4) = .int .u8 u ∧ (0 ≤ a ∧ a < 256) ∧ (0 ≤ x ∧ x < 256) ∧ (0 ≤ l ∧ l < 256) ∧ (0 ≤ u ∧ u < 256)
/-- what each cell is -/
structure Ty (c : PC) (A : Nat → Value) : Prop where
  mem : ∀ i, i < 10272 → IsB (A i)
  sp : ∀ i, i < 256 → IsB (A (10282 + i))
  sel : ∀ i, i < 8 → IsS A (10538 + 5 * i)
  rows : ∀ i, i < 61440 → IsB (A (10585 + i))
  up : A 10272 = .bool c.up
  V : A 10273 = .int .u16 c.V
  T : A 10274 = .int .u16 c.T
  X : A 10275 = .int .u8 c.X
  W : A 10276 = .bool c.W
  con : A 10277 = .int .u8 c.con
  msk : A 10278 = .int .u8 c.msk
  bus : A 10279 = .int .u8 c.bus
  buf : A 10280 = .int .u8 c.buf
  ad : A 10281 = .int .u8 c.ad
  cnt : A 10578 = .int .i64 c.cnt
  blank : A 10579 = .bool c.blank
  hit : A 10580 = .bool c.hit
  over : A 10581 = .bool c.over
  line : A 10582 = .int .i64 c.line
  dot : A 10583 = .int .i64 c.dot
  fr : A 10584 = .int .i64 c.fr

/-- a byte is written -/
theorem Ty.byte {c : PC} {A : Nat → Value} (h : Ty c A) (k : Nat) (x : Int) (hk : k < 10272 ∨ (10282 ≤ k ∧ k < 10538) ∨ 10585 ≤ k) (hx : 0 ≤ x ∧ x < 256) : Ty c (updV A k (.int .u8 x)) := by
  have hB : ∀ i, IsB (A i) → IsB (updV A k (.int .u8 x) i) := fun i hi => by
    by_cases e : i = k
    · subst e; rw [updV_same]; exact ⟨x, rfl, hx.1, hx.2⟩
    · rw [updV_other _ _ _ _ e]; exact hi
  refine ⟨fun i hi => hB _ (h.mem i hi), fun i hi => hB _ (h.sp i hi), fun i hi => ?_, fun i hi => hB _ (h.rows i hi), ?_, ?_, ?_, ?_, ?_, ?_, ?_, ?_, ?_, ?_, ?_, ?_, ?_, ?_, ?_, ?_, ?_⟩
  · obtain ⟨f, a, z, l, u, h0, h1, h2, h3, h4, h5⟩ := h.sel i hi
    refine ⟨f, a, z, l, u, ?_, ?_, ?_, ?_, ?_, h5⟩
    · rw [updV_other _ _ _ _ (by omega)]; exact h0
    · rw [updV_other _ _ _ _ (by omega)]; exact h1
    · rw [updV_other _ _ _ _ (by omega)]; exact h2
    · rw [updV_other _ _ _ _ (by omega)]; exact h3
    · rw [updV_other _ _ _ _ (by omega)]; exact h4
  · rw [updV_other _ _ _ _ (by omega)]; exact h.up
  · rw [updV_other _ _ _ _ (by omega)]; exact h.V
  · rw [updV_other _ _ _ _ (by omega)]; exact h.T
  · rw [updV_other _ _ _ _ (by omega)]; exact h.X
  · rw [updV_other _ _ _ _ (by omega)]; exact h.W
  · rw [updV_other _ _ _ _ (by omega)]; exact h.con
  · rw [updV_other _ _ _ _ (by omega)]; exact h.msk
  · rw [updV_other _ _ _ _ (by omega)]; exact h.bus
  · rw [updV_other _ _ _ _ (by omega)]; exact h.buf
  · rw [updV_other _ _ _ _ (by omega)]; exact h.ad
  · rw [updV_other _ _ _ _ (by omega)]; exact h.cnt
  · rw [updV_other _ _ _ _ (by omega)]; exact h.blank
  · rw [updV_other _ _ _ _ (by omega)]; exact h.hit
  · rw [updV_other _ _ _ _ (by omega)]; exact h.over
  · rw [updV_other _ _ _ _ (by omega)]; exact h.line
  · rw [updV_other _ _ _ _ (by omega)]; exact h.dot
  · rw [updV_other _ _ _ _ (by omega)]; exact h.fr
theorem Ty.set_up {c : PC} {A : Nat → Value} (h : Ty c A) (x : Bool) : Ty { c with up := x } (updV A 10272 (.bool x)) := by
  refine ⟨fun i hi => ?_, fun i hi => ?_, fun i hi => ?_, fun i hi => ?_, ?_, ?_, ?_, ?_, ?_, ?_, ?_, ?_, ?_, ?_, ?_, ?_, ?_, ?_, ?_, ?_, ?_⟩
  · rw [updV_other _ _ _ _ (by omega)]; exact h.mem i hi
  · rw [updV_other _ _ _ _ (by omega)]; exact h.sp i hi
  · obtain ⟨f, a, z, l, u, h0, h1, h2, h3, h4, h5⟩ := h.sel i hi
    refine ⟨f, a, z, l, u, ?_, ?_, ?_, ?_, ?_, h5⟩
    · rw [updV_other _ _ _ _ (by omega)]; exact h0
    · rw [updV_other _ _ _ _ (by omega)]; exact h1
    · rw [updV_other _ _ _ _ (by omega)]; exact h2
    · rw [updV_other _ _ _ _ (by omega)]; exact h3
    · rw [updV_other _ _ _ _ (by omega)]; exact h4
  · rw [updV_other _ _ _ _ (by omega)]; exact h.rows i hi
  · exact updV_same _ _ _
  · rw [updV_other _ _ _ _ (by decide)]; exact h.V
  · rw [updV_other _ _ _ _ (by decide)]; exact h.T
  · rw [updV_other _ _ _ _ (by decide)]; exact h.X
  · rw [updV_other _ _ _ _ (by decide)]; exact h.W
  · rw [updV_other _ _ _ _ (by decide)]; exact h.con
  · rw [updV_other _ _ _ _ (by decide)]; exact h.msk
  · rw [updV_other _ _ _ _ (by decide)]; exact h.bus
  · rw [updV_other _ _ _ _ (by decide)]; exact h.buf
  · rw [updV_other _ _ _ _ (by decide)]; exact h.ad
  · rw [updV_other _ _ _ _ (by decide)]; exact h.cnt
  · rw [updV_other _ _ _ _ (by decide)]; exact h.blank
  · rw [updV_other _ _ _ _ (by decide)]; exact h.hit
  · rw [updV_other _ _ _ _ (by decide)]; exact h.over
  · rw [updV_other _ _ _ _ (by decide)]; exact h.line
  · rw [updV_other _ _ _ _ (by decide)]; exact h.dot
  · rw [updV_other _ _ _ _ (by decide)]; exact h.fr
theorem Ty.set_V {c : PC} {A : Nat → Value} (h : Ty c A) (x : Int) : Ty { c with V := x } (updV A 10273 (.int .u16 x)) := by
  refine ⟨fun i hi => ?_, fun i hi => ?_, fun i hi => ?_, fun i hi => ?_, ?_, ?_, ?_, ?_, ?_, ?_, ?_, ?_, ?_, ?_, ?_, ?_, ?_, ?_, ?_, ?_, ?_⟩
  · rw [updV_other _ _ _ _ (by omega)]; exact h.mem i hi
  · rw [updV_other _ _ _ _ (by omega)]; exact h.sp i hi
  · obtain ⟨f, a, z, l, u, h0, h1, h2, h3, h4, h5⟩ := h.sel i hi
    refine ⟨f, a, z, l, u, ?_, ?_, ?_, ?_, ?_, h5⟩
    · rw [updV_other _ _ _ _ (by omega)]; exact h0
    · rw [updV_other _ _ _ _ (by omega)]; exact h1
    · rw [updV_other _ _ _ _ (by omega)]; exact h2
    · rw [updV_other _ _ _ _ (by omega)]; exact h3
    · rw [updV_other _ _ _ _ (by omega)]; exact h4
  · rw [updV_other _ _ _ _ (by omega)]; exact h.rows i hi
  · rw [updV_other _ _ _ _ (by decide)]; exact h.up
  · exact updV_same _ _ _
  · rw [updV_other _ _ _ _ (by decide)]; exact h.T
  · rw [updV_other _ _ _ _ (by decide)]; exact h.X
  · rw [updV_other _ _ _ _ (by decide)]; exact h.W
  · rw [updV_other _ _ _ _ (by decide)]; exact h.con
  · rw [updV_other _ _ _ _ (by decide)]; exact h.msk
  · rw [updV_other _ _ _ _ (by decide)]; exact h.bus
  · rw [updV_other _ _ _ _ (by decide)]; exact h.buf
  · rw [updV_other _ _ _ _ (by decide)]; exact h.ad
  · rw [updV_other _ _ _ _ (by decide)]; exact h.cnt
  · rw [updV_other _ _ _ _ (by decide)]; exact h.blank
  · rw [updV_other _ _ _ _ (by decide)]; exact h.hit
  · rw [updV_other _ _ _ _ (by decide)]; exact h.over
  · rw [updV_other _ _ _ _ (by decide)]; exact h.line
  · rw [updV_other _ _ _ _ (by decide)]; exact h.dot
  · rw [updV_other _ _ _ _ (by decide)]; exact h.fr
theorem Ty.set_T {c : PC} {A : Nat → Value} (h : Ty c A) (x : Int) : Ty { c with T := x } (updV A 10274 (.int .u16 x)) := by
  refine ⟨fun i hi => ?_, fun i hi => ?_, fun i hi => ?_, fun i hi => ?_, ?_, ?_, ?_, ?_, ?_, ?_, ?_, ?_, ?_, ?_, ?_, ?_, ?_, ?_, ?_, ?_, ?_⟩
  · rw [updV_other _ _ _ _ (by omega)]; exact h.mem i hi
  · rw [updV_other _ _ _ _ (by omega)]; exact h.sp i hi
  · obtain ⟨f, a, z, l, u, h0, h1, h2, h3, h4, h5⟩ := h.sel i hi
    refine ⟨f, a, z, l, u, ?_, ?_, ?_, ?_, ?_, h5⟩
    · rw [updV_other _ _ _ _ (by omega)]; exact h0
    · rw [updV_other _ _ _ _ (by omega)]; exact h1
    · rw [updV_other _ _ _ _ (by omega)]; exact h2
    · rw [updV_other _ _ _ _ (by omega)]; exact h3
    · rw [updV_other _ _ _ _ (by omega)]; exact h4
  · rw [updV_other _ _ _ _ (by omega)]; exact h.rows i hi
  · rw [updV_other _ _ _ _ (by decide)]; exact h.up
  · rw [updV_other _ _ _ _ (by decide)]; exact h.V
  · exact updV_same _ _ _
  · rw [updV_other _ _ _ _ (by decide)]; exact h.X
  · rw [updV_other _ _ _ _ (by decide)]; exact h.W
  · rw [updV_other _ _ _ _ (by decide)]; exact h.con
  · rw [updV_other _ _ _ _ (by decide)]; exact h.msk
  · rw [updV_other _ _ _ _ (by decide)]; exact h.bus
  · rw [updV_other _ _ _ _ (by decide)]; exact h.buf
  · rw [updV_other _ _ _ _ (by decide)]; exact h.ad
  · rw [updV_other _ _ _ _ (by decide)]; exact h.cnt
  · rw [updV_other _ _ _ _ (by decide)]; exact h.blank
  · rw [updV_other _ _ _ _ (by decide)]; exact h.hit
  · rw [updV_other _ _ _ _ (by decide)]; exact h.over
  · rw [updV_other _ _ _ _ (by decide)]; exact h.line
  · rw [updV_other _ _ _ _ (by decide)]; exact h.dot
  · rw [updV_other _ _ _ _ (by decide)]; exact h.fr
theorem Ty.set_X {c : PC} {A : Nat → Value} (h : Ty c A) (x : Int) : Ty { c with X := x } (updV A 10275 (.int .u8 x)) := by
  refine ⟨fun i hi => ?_, fun i hi => ?_, fun i hi => ?_, fun i hi => ?_, ?_, ?_, ?_, ?_, ?_, ?_, ?_, ?_, ?_, ?_, ?_, ?_, ?_, ?_, ?_, ?_, ?_⟩
  · rw [updV_other _ _ _ _ (by omega)]; exact h.mem i hi
  · rw [updV_other _ _ _ _ (by omega)]; exact h.sp i hi
  · obtain ⟨f, a, z, l, u, h0, h1, h2, h3, h4, h5⟩ := h.sel i hi
    refine ⟨f, a, z, l, u, ?_, ?_, ?_, ?_, ?_, h5⟩
    · rw [updV_other _ _ _ _ (by omega)]; exact h0
    · rw [updV_other _ _ _ _ (by omega)]; exact h1
    · rw [updV_other _ _ _ _ (by omega)]; exact h2
    · rw [updV_other _ _ _ _ (by omega)]; exact h3
    · rw [updV_other _ _ _ _ (by omega)]; exact h4
  · rw [updV_other _ _ _ _ (by omega)]; exact h.rows i hi
  · rw [updV_other _ _ _ _ (by decide)]; exact h.up
  · rw [updV_other _ _ _ _ (by decide)]; exact h.V
  · rw [updV_other _ _ _ _ (by decide)]; exact h.T
  · exact updV_same _ _ _
  · rw [updV_other _ _ _ _ (by decide)]; exact h.W
  · rw [updV_other _ _ _ _ (by decide)]; exact h.con
  · rw [updV_other _ _ _ _ (by decide)]; exact h.msk
  · rw [updV_other _ _ _ _ (by decide)]; exact h.bus
  · rw [updV_other _ _ _ _ (by decide)]; exact h.buf
  · rw [updV_other _ _ _ _ (by decide)]; exact h.ad
  · rw [updV_other _ _ _ _ (by decide)]; exact h.cnt
  · rw [updV_other _ _ _ _ (by decide)]; exact h.blank
  · rw [updV_other _ _ _ _ (by decide)]; exact h.hit
  · rw [updV_other _ _ _ _ (by decide)]; exact h.over
  · rw [updV_other _ _ _ _ (by decide)]; exact h.line
  · rw [updV_other _ _ _ _ (by decide)]; exact h.dot
  · rw [updV_other _ _ _ _ (by decide)]; exact h.fr
theorem Ty.set_W {c : PC} {A : Nat → Value} (h : Ty c A) (x : Bool) : Ty { c with W := x } (updV A 10276 (.bool x)) := by
  refine ⟨fun i hi => ?_, fun i hi => ?_, fun i hi => ?_, fun i hi => ?_, ?_, ?_, ?_, ?_, ?_, ?_, ?_, ?_, ?_, ?_, ?_, ?_, ?_, ?_, ?_, ?_, ?_⟩
  · rw [updV_other _ _ _ _ (by omega)]; exact h.mem i hi
  · rw [updV_other _ _ _ _ (by omega)]; exact h.sp i hi
  · obtain ⟨f, a, z, l, u, h0, h1, h2, h3, h4, h5⟩ := h.sel i hi
    refine ⟨f, a, z, l, u, ?_, ?_, ?_, ?_, ?_, h5⟩
    · rw [updV_other _ _ _ _ (by omega)]; exact h0
    · rw [updV_other _ _ _ _ (by omega)]; exact h1
    · rw [updV_other _ _ _ _ (by omega)]; exact h2
    · rw [updV_other _ _ _ _ (by omega)]; exact h3
    · rw [updV_other _ _ _ _ (by omega)]; exact h4
  · rw [updV_other _ _ _ _ (by omega)]; exact h.rows i hi
  · rw [updV_other _ _ _ _ (by decide)]; exact h.up
  · rw [updV_other _ _ _ _ (by decide)]; exact h.V
  · rw [updV_other _ _ _ _ (by decide)]; exact h.T
  · rw [updV_other _ _ _ _ (by decide)]; exact h.X
  · exact updV_same _ _ _
  · rw [updV_other _ _ _ _ (by decide)]; exact h.con
  · rw [updV_other _ _ _ _ (by decide)]; exact h.msk
  · rw [updV_other _ _ _ _ (by decide)]; exact h.bus
  · rw [updV_other _ _ _ _ (by decide)]; exact h.buf
  · rw [updV_other _ _ _ _ (by decide)]; exact h.ad
  · rw [updV_other _ _ _ _ (by decide)]; exact h.cnt
  · rw [updV_other _ _ _ _ (by decide)]; exact h.blank
  · rw [updV_other _ _ _ _ (by decide)]; exact h.hit
  · rw [updV_other _ _ _ _ (by decide)]; exact h.over
  · rw [updV_other _ _ _ _ (by decide)]; exact h.line
  · rw [updV_other _ _ _ _ (by decide)]; exact h.dot
  · rw [updV_other _ _ _ _ (by decide)]; exact h.fr
theorem Ty.set_con {c : PC} {A : Nat → Value} (h : Ty c A) (x : Int) : Ty { c with con := x } (updV A 10277 (.int .u8 x)) := by
  refine ⟨fun i hi => ?_, fun i hi => ?_, fun i hi => ?_, fun i hi => ?_, ?_, ?_, ?_, ?_, ?_, ?_, ?_, ?_, ?_, ?_, ?_, ?_, ?_, ?_, ?_, ?_, ?_⟩
  · rw [updV_other _ _ _ _ (by omega)]; exact h.mem i hi
  · rw [updV_other _ _ _ _ (by omega)]; exact h.sp i hi
  · obtain ⟨f, a, z, l, u, h0, h1, h2, h3, h4, h5⟩ := h.sel i hi
    refine ⟨f, a, z, l, u, ?_, ?_, ?_, ?_, ?_, h5⟩
    · rw [updV_other _ _ _ _ (by omega)]; exact h0
    · rw [updV_other _ _ _ _ (by omega)]; exact h1
    · rw [updV_other _ _ _ _ (by omega)]; exact h2
    · rw [updV_other _ _ _ _ (by omega)]; exact h3
    · rw [updV_other _ _ _ _ (by omega)]; exact h4
  · rw [updV_other _ _ _ _ (by omega)]; exact h.rows i hi
  · rw [updV_other _ _ _ _ (by decide)]; exact h.up
  · rw [updV_other _ _ _ _ (by decide)]; exact h.V
  · rw [updV_other _ _ _ _ (by decide)]; exact h.T
  · rw [updV_other _ _ _ _ (by decide)]; exact h.X
  · rw [updV_other _ _ _ _ (by decide)]; exact h.W
  · exact updV_same _ _ _
  · rw [updV_other _ _ _ _ (by decide)]; exact h.msk
  · rw [updV_other _ _ _ _ (by decide)]; exact h.bus
  · rw [updV_other _ _ _ _ (by decide)]; exact h.buf
  · rw [updV_other _ _ _ _ (by decide)]; exact h.ad
  · rw [updV_other _ _ _ _ (by decide)]; exact h.cnt
  · rw [updV_other _ _ _ _ (by decide)]; exact h.blank
  · rw [updV_other _ _ _ _ (by decide)]; exact h.hit
  · rw [updV_other _ _ _ _ (by decide)]; exact h.over
  · rw [updV_other _ _ _ _ (by decide)]; exact h.line
  · rw [updV_other _ _ _ _ (by decide)]; exact h.dot
  · rw [updV_other _ _ _ _ (by decide)]; exact h.fr
theorem Ty.set_msk {c : PC} {A : Nat → Value} (h : Ty c A) (x : Int) : Ty { c with msk := x } (updV A 10278 (.int .u8 x)) := by
  refine ⟨fun i hi => ?_, fun i hi => ?_, fun i hi => ?_, fun i hi => ?_, ?_, ?_, ?_, ?_, ?_, ?_, ?_, ?_, ?_, ?_, ?_, ?_, ?_, ?_, ?_, ?_, ?_⟩
  · rw [updV_other _ _ _ _ (by omega)]; exact h.mem i hi
  · rw [updV_other _ _ _ _ (by omega)]; exact h.sp i hi
  · obtain ⟨f, a, z, l, u, h0, h1, h2, h3, h4, h5⟩ := h.sel i hi
    refine ⟨f, a, z, l, u, ?_, ?_, ?_, ?_, ?_, h5⟩
    · rw [updV_other _ _ _ _ (by omega)]; exact h0
    · rw [updV_other _ _ _ _ (by omega)]; exact h1
    · rw [updV_other _ _ _ _ (by omega)]; exact h2
    · rw [updV_other _ _ _ _ (by omega)]; exact h3
    · rw [updV_other _ _ _ _ (by omega)]; exact h4
  · rw [updV_other _ _ _ _ (by omega)]; exact h.rows i hi
  · rw [updV_other _ _ _ _ (by decide)]; exact h.up
  · rw [updV_other _ _ _ _ (by decide)]; exact h.V
  · rw [updV_other _ _ _ _ (by decide)]; exact h.T
  · rw [updV_other _ _ _ _ (by decide)]; exact h.X
  · rw [updV_other _ _ _ _ (by decide)]; exact h.W
  · rw [updV_other _ _ _ _ (by decide)]; exact h.con
  · exact updV_same _ _ _
  · rw [updV_other _ _ _ _ (by decide)]; exact h.bus
  · rw [updV_other _ _ _ _ (by decide)]; exact h.buf
  · rw [updV_other _ _ _ _ (by decide)]; exact h.ad
  · rw [updV_other _ _ _ _ (by decide)]; exact h.cnt
  · rw [updV_other _ _ _ _ (by decide)]; exact h.blank
  · rw [updV_other _ _ _ _ (by decide)]; exact h.hit
  · rw [updV_other _ _ _ _ (by decide)]; exact h.over
  · rw [updV_other _ _ _ _ (by decide)]; exact h.line
  · rw [updV_other _ _ _ _ (by decide)]; exact h.dot
  · rw [updV_other _ _ _ _ (by decide)]; exact h.fr
theorem Ty.set_bus {c : PC} {A : Nat → Value} (h : Ty c A) (x : Int) : Ty { c with bus := x } (updV A 10279 (.int .u8 x)) := by
  refine ⟨fun i hi => ?_, fun i hi => ?_, fun i hi => ?_, fun i hi => ?_, ?_, ?_, ?_, ?_, ?_, ?_, ?_, ?_, ?_, ?_, ?_, ?_, ?_, ?_, ?_, ?_, ?_⟩
  · rw [updV_other _ _ _ _ (by omega)]; exact h.mem i hi
  · rw [updV_other _ _ _ _ (by omega)]; exact h.sp i hi
  · obtain ⟨f, a, z, l, u, h0, h1, h2, h3, h4, h5⟩ := h.sel i hi
    refine ⟨f, a, z, l, u, ?_, ?_, ?_, ?_, ?_, h5⟩
    · rw [updV_other _ _ _ _ (by omega)]; exact h0
    · rw [updV_other _ _ _ _ (by omega)]; exact h1
    · rw [updV_other _ _ _ _ (by omega)]; exact h2
    · rw [updV_other _ _ _ _ (by omega)]; exact h3
    · rw [updV_other _ _ _ _ (by omega)]; exact h4
  · rw [updV_other _ _ _ _ (by omega)]; exact h.rows i hi
  · rw [updV_other _ _ _ _ (by decide)]; exact h.up
  · rw [updV_other _ _ _ _ (by decide)]; exact h.V
  · rw [updV_other _ _ _ _ (by decide)]; exact h.T
  · rw [updV_other _ _ _ _ (by decide)]; exact h.X
  · rw [updV_other _ _ _ _ (by decide)]; exact h.W
  · rw [updV_other _ _ _ _ (by decide)]; exact h.con
  · rw [updV_other _ _ _ _ (by decide)]; exact h.msk
  · exact updV_same _ _ _
  · rw [updV_other _ _ _ _ (by decide)]; exact h.buf
  · rw [updV_other _ _ _ _ (by decide)]; exact h.ad
  · rw [updV_other _ _ _ _ (by decide)]; exact h.cnt
  · rw [updV_other _ _ _ _ (by decide)]; exact h.blank
  · rw [updV_other _ _ _ _ (by decide)]; exact h.hit
  · rw [updV_other _ _ _ _ (by decide)]; exact h.over
  · rw [updV_other _ _ _ _ (by decide)]; exact h.line
  · rw [updV_other _ _ _ _ (by decide)]; exact h.dot
  · rw [updV_other _ _ _ _ (by decide)]; exact h.fr
theorem Ty.set_buf {c : PC} {A : Nat → Value} (h : Ty c A) (x : Int) : Ty { c with buf := x } (updV A 10280 (.int .u8 x)) := by
  refine ⟨fun i hi => ?_, fun i hi => ?_, fun i hi => ?_, fun i hi => ?_, ?_, ?_, ?_, ?_, ?_, ?_, ?_, ?_, ?_, ?_, ?_, ?_, ?_, ?_, ?_, ?_, ?_⟩
  · rw [updV_other _ _ _ _ (by omega)]; exact h.mem i hi
  · rw [updV_other _ _ _ _ (by omega)]; exact h.sp i hi
  · obtain ⟨f, a, z, l, u, h0, h1, h2, h3, h4, h5⟩ := h.sel i hi
    refine ⟨f, a, z, l, u, ?_, ?_, ?_, ?_, ?_, h5⟩
    · rw [updV_other _ _ _ _ (by omega)]; exact h0
    · rw [updV_other _ _ _ _ (by omega)]; exact h1
    · rw [updV_other _ _ _ _ (by omega)]; exact h2
    · rw [updV_other _ _ _ _ (by omega)]; exact h3
    · rw [updV_other _ _ _ _ (by omega)]; exact h4
  · rw [updV_other _ _ _ _ (by omega)]; exact h.rows i hi
  · rw [updV_other _ _ _ _ (by decide)]; exact h.up
  · rw [updV_other _ _ _ _ (by decide)]; exact h.V
  · rw [updV_other _ _ _ _ (by decide)]; exact h.T
  · rw [updV_other _ _ _ _ (by decide)]; exact h.X
  · rw [updV_other _ _ _ _ (by decide)]; exact h.W
  · rw [updV_other _ _ _ _ (by decide)]; exact h.con
  · rw [updV_other _ _ _ _ (by decide)]; exact h.msk
  · rw [updV_other _ _ _ _ (by decide)]; exact h.bus
  · exact updV_same _ _ _
  · rw [updV_other _ _ _ _ (by decide)]; exact h.ad
  · rw [updV_other _ _ _ _ (by decide)]; exact h.cnt
  · rw [updV_other _ _ _ _ (by decide)]; exact h.blank
  · rw [updV_other _ _ _ _ (by decide)]; exact h.hit
  · rw [updV_other _ _ _ _ (by decide)]; exact h.over
  · rw [updV_other _ _ _ _ (by decide)]; exact h.line
  · rw [updV_other _ _ _ _ (by decide)]; exact h.dot
  · rw [updV_other _ _ _ _ (by decide)]; exact h.fr
theorem Ty.set_ad {c : PC} {A : Nat → Value} (h : Ty c A) (x : Int) : Ty { c with ad := x } (updV A 10281 (.int .u8 x)) := by
  refine ⟨fun i hi => ?_, fun i hi => ?_, fun i hi => ?_, fun i hi => ?_, ?_, ?_, ?_, ?_, ?_, ?_, ?_, ?_, ?_, ?_, ?_, ?_, ?_, ?_, ?_, ?_, ?_⟩
  · rw [updV_other _ _ _ _ (by omega)]; exact h.mem i hi
  · rw [updV_other _ _ _ _ (by omega)]; exact h.sp i hi
  · obtain ⟨f, a, z, l, u, h0, h1, h2, h3, h4, h5⟩ := h.sel i hi
    refine ⟨f, a, z, l, u, ?_, ?_, ?_, ?_, ?_, h5⟩
    · rw [updV_other _ _ _ _ (by omega)]; exact h0
    · rw [updV_other _ _ _ _ (by omega)]; exact h1
    · rw [updV_other _ _ _ _ (by omega)]; exact h2
    · rw [updV_other _ _ _ _ (by omega)]; exact h3
    · rw [updV_other _ _ _ _ (by omega)]; exact h4
  · rw [updV_other _ _ _ _ (by omega)]; exact h.rows i hi
  · rw [updV_other _ _ _ _ (by decide)]; exact h.up
  · rw [updV_other _ _ _ _ (by decide)]; exact h.V
  · rw [updV_other _ _ _ _ (by decide)]; exact h.T
  · rw [updV_other _ _ _ _ (by decide)]; exact h.X
  · rw [updV_other _ _ _ _ (by decide)]; exact h.W
  · rw [updV_other _ _ _ _ (by decide)]; exact h.con
  · rw [updV_other _ _ _ _ (by decide)]; exact h.msk
  · rw [updV_other _ _ _ _ (by decide)]; exact h.bus
  · rw [updV_other _ _ _ _ (by decide)]; exact h.buf
  · exact updV_same _ _ _
  · rw [updV_other _ _ _ _ (by decide)]; exact h.cnt
  · rw [updV_other _ _ _ _ (by decide)]; exact h.blank
  · rw [updV_other _ _ _ _ (by decide)]; exact h.hit
  · rw [updV_other _ _ _ _ (by decide)]; exact h.over
  · rw [updV_other _ _ _ _ (by decide)]; exact h.line
  · rw [updV_other _ _ _ _ (by decide)]; exact h.dot
  · rw [updV_other _ _ _ _ (by decide)]; exact h.fr
theorem Ty.set_cnt {c : PC} {A : Nat → Value} (h : Ty c A) (x : Int) : Ty { c with cnt := x } (updV A 10578 (.int .i64 x)) := by
  refine ⟨fun i hi => ?_, fun i hi => ?_, fun i hi => ?_, fun i hi => ?_, ?_, ?_, ?_, ?_, ?_, ?_, ?_, ?_, ?_, ?_, ?_, ?_, ?_, ?_, ?_, ?_, ?_⟩
  · rw [updV_other _ _ _ _ (by omega)]; exact h.mem i hi
  · rw [updV_other _ _ _ _ (by omega)]; exact h.sp i hi
  · obtain ⟨f, a, z, l, u, h0, h1, h2, h3, h4, h5⟩ := h.sel i hi
    refine ⟨f, a, z, l, u, ?_, ?_, ?_, ?_, ?_, h5⟩
    · rw [updV_other _ _ _ _ (by omega)]; exact h0
    · rw [updV_other _ _ _ _ (by omega)]; exact h1
    · rw [updV_other _ _ _ _ (by omega)]; exact h2
    · rw [updV_other _ _ _ _ (by omega)]; exact h3
    · rw [updV_other _ _ _ _ (by omega)]; exact h4
  · rw [updV_other _ _ _ _ (by omega)]; exact h.rows i hi
  · rw [updV_other _ _ _ _ (by decide)]; exact h.up
  · rw [updV_other _ _ _ _ (by decide)]; exact h.V
  · rw [updV_other _ _ _ _ (by decide)]; exact h.T
  · rw [updV_other _ _ _ _ (by decide)]; exact h.X
  · rw [updV_other _ _ _ _ (by decide)]; exact h.W
  · rw [updV_other _ _ _ _ (by decide)]; exact h.con
  · rw [updV_other _ _ _ _ (by decide)]; exact h.msk
  · rw [updV_other _ _ _ _ (by decide)]; exact h.bus
  · rw [updV_other _ _ _ _ (by decide)]; exact h.buf
  · rw [updV_other _ _ _ _ (by decide)]; exact h.ad
  · exact updV_same _ _ _
  · rw [updV_other _ _ _ _ (by decide)]; exact h.blank
  · rw [updV_other _ _ _ _ (by decide)]; exact h.hit
  · rw [updV_other _ _ _ _ (by decide)]; exact h.over
  · rw [updV_other _ _ _ _ (by decide)]; exact h.line
  · rw [updV_other _ _ _ _ (by decide)]; exact h.dot
  · rw [updV_other _ _ _ _ (by decide)]; exact h.fr
theorem Ty.set_blank {c : PC} {A : Nat → Value} (h : Ty c A) (x : Bool) : Ty { c with blank := x } (updV A 10579 (.bool x)) := by
  refine ⟨fun i hi => ?_, fun i hi => ?_, fun i hi => ?_, fun i hi => ?_, ?_, ?_, ?_, ?_, ?_, ?_, ?_, ?_, ?_, ?_, ?_, ?_, ?_, ?_, ?_, ?_, ?_⟩
  · rw [updV_other _ _ _ _ (by omega)]; exact h.mem i hi
  · rw [updV_other _ _ _ _ (by omega)]; exact h.sp i hi
  · obtain ⟨f, a, z, l, u, h0, h1, h2, h3, h4, h5⟩ := h.sel i hi
    refine ⟨f, a, z, l, u, ?_, ?_, ?_, ?_, ?_, h5⟩
    · rw [updV_other _ _ _ _ (by omega)]; exact h0
    · rw [updV_other _ _ _ _ (by omega)]; exact h1
    · rw [updV_other _ _ _ _ (by omega)]; exact h2
    · rw [updV_other _ _ _ _ (by omega)]; exact h3
    · rw [updV_other _ _ _ _ (by omega)]; exact h4
  · rw [updV_other _ _ _ _ (by omega)]; exact h.rows i hi
  · rw [updV_other _ _ _ _ (by decide)]; exact h.up
  · rw [updV_other _ _ _ _ (by decide)]; exact h.V
  · rw [updV_other _ _ _ _ (by decide)]; exact h.T
  · rw [updV_other _ _ _ _ (by decide)]; exact h.X
  · rw [updV_other _ _ _ _ (by decide)]; exact h.W
  · rw [updV_other _ _ _ _ (by decide)]; exact h.con
  · rw [updV_other _ _ _ _ (by decide)]; exact h.msk
  · rw [updV_other _ _ _ _ (by decide)]; exact h.bus
  · rw [updV_other _ _ _ _ (by decide)]; exact h.buf
  · rw [updV_other _ _ _ _ (by decide)]; exact h.ad
  · rw [updV_other _ _ _ _ (by decide)]; exact h.cnt
  · exact updV_same _ _ _
  · rw [updV_other _ _ _ _ (by decide)]; exact h.hit
  · rw [updV_other _ _ _ _ (by decide)]; exact h.over
  · rw [updV_other _ _ _ _ (by decide)]; exact h.line
  · rw [updV_other _ _ _ _ (by decide)]; exact h.dot
  · rw [updV_other _ _ _ _ (by decide)]; exact h.fr
theorem Ty.set_hit {c : PC} {A : Nat → Value} (h : Ty c A) (x : Bool) : Ty { c with hit := x } (updV A 10580 (.bool x)) := by
  refine ⟨fun i hi => ?_, fun i hi => ?_, fun i hi => ?_, fun i hi => ?_, ?_, ?_, ?_, ?_, ?_, ?_, ?_, ?_, ?_, ?_, ?_, ?_, ?_, ?_, ?_, ?_, ?_⟩
  · rw [updV_other _ _ _ _ (by omega)]; exact h.mem i hi
  · rw [updV_other _ _ _ _ (by omega)]; exact h.sp i hi
  · obtain ⟨f, a, z, l, u, h0, h1, h2, h3, h4, h5⟩ := h.sel i hi
    refine ⟨f, a, z, l, u, ?_, ?_, ?_, ?_, ?_, h5⟩
    · rw [updV_other _ _ _ _ (by omega)]; exact h0
    · rw [updV_other _ _ _ _ (by omega)]; exact h1
    · rw [updV_other _ _ _ _ (by omega)]; exact h2
    · rw [updV_other _ _ _ _ (by omega)]; exact h3
    · rw [updV_other _ _ _ _ (by omega)]; exact h4
  · rw [updV_other _ _ _ _ (by omega)]; exact h.rows i hi
  · rw [updV_other _ _ _ _ (by decide)]; exact h.up
  · rw [updV_other _ _ _ _ (by decide)]; exact h.V
  · rw [updV_other _ _ _ _ (by decide)]; exact h.T
  · rw [updV_other _ _ _ _ (by decide)]; exact h.X
  · rw [updV_other _ _ _ _ (by decide)]; exact h.W
  · rw [updV_other _ _ _ _ (by decide)]; exact h.con
  · rw [updV_other _ _ _ _ (by decide)]; exact h.msk
  · rw [updV_other _ _ _ _ (by decide)]; exact h.bus
  · rw [updV_other _ _ _ _ (by decide)]; exact h.buf
  · rw [updV_other _ _ _ _ (by decide)]; exact h.ad
  · rw [updV_other _ _ _ _ (by decide)]; exact h.cnt
  · rw [updV_other _ _ _ _ (by decide)]; exact h.blank
  · exact updV_same _ _ _
  · rw [updV_other _ _ _ _ (by decide)]; exact h.over
  · rw [updV_other _ _ _ _ (by decide)]; exact h.line
  · rw [updV_other _ _ _ _ (by decide)]; exact h.dot
  · rw [updV_other _ _ _ _ (by decide)]; exact h.fr
theorem Ty.set_over {c : PC} {A : Nat → Value} (h : Ty c A) (x : Bool) : Ty { c with over := x } (updV A 10581 (.bool x)) := by
  refine ⟨fun i hi => ?_, fun i hi => ?_, fun i hi => ?_, fun i hi => ?_, ?_, ?_, ?_, ?_, ?_, ?_, ?_, ?_, ?_, ?_, ?_, ?_, ?_, ?_, ?_, ?_, ?_⟩
  · rw [updV_other _ _ _ _ (by omega)]; exact h.mem i hi
  · rw [updV_other _ _ _ _ (by omega)]; exact h.sp i hi
  · obtain ⟨f, a, z, l, u, h0, h1, h2, h3, h4, h5⟩ := h.sel i hi
    refine ⟨f, a, z, l, u, ?_, ?_, ?_, ?_, ?_, h5⟩
    · rw [updV_other _ _ _ _ (by omega)]; exact h0
    · rw [updV_other _ _ _ _ (by omega)]; exact h1
    · rw [updV_other _ _ _ _ (by omega)]; exact h2
    · rw [updV_other _ _ _ _ (by omega)]; exact h3
    · rw [updV_other _ _ _ _ (by omega)]; exact h4
  · rw [updV_other _ _ _ _ (by omega)]; exact h.rows i hi
  · rw [updV_other _ _ _ _ (by decide)]; exact h.up
  · rw [updV_other _ _ _ _ (by decide)]; exact h.V
  · rw [updV_other _ _ _ _ (by decide)]; exact h.T
  · rw [updV_other _ _ _ _ (by decide)]; exact h.X
  · rw [updV_other _ _ _ _ (by decide)]; exact h.W
  · rw [updV_other _ _ _ _ (by decide)]; exact h.con
  · rw [updV_other _ _ _ _ (by decide)]; exact h.msk
  · rw [updV_other _ _ _ _ (by decide)]; exact h.bus
  · rw [updV_other _ _ _ _ (by decide)]; exact h.buf
  · rw [updV_other _ _ _ _ (by decide)]; exact h.ad
  · rw [updV_other _ _ _ _ (by decide)]; exact h.cnt
  · rw [updV_other _ _ _ _ (by decide)]; exact h.blank
  · rw [updV_other _ _ _ _ (by decide)]; exact h.hit
  · exact updV_same _ _ _
  · rw [updV_other _ _ _ _ (by decide)]; exact h.line
  · rw [updV_other _ _ _ _ (by decide)]; exact h.dot
  · rw [updV_other _ _ _ _ (by decide)]; exact h.fr
theorem Ty.set_line {c : PC} {A : Nat → Value} (h : Ty c A) (x : Int) : Ty { c with line := x } (updV A 10582 (.int .i64 x)) := by
  refine ⟨fun i hi => ?_, fun i hi => ?_, fun i hi => ?_, fun i hi => ?_, ?_, ?_, ?_, ?_, ?_, ?_, ?_, ?_, ?_, ?_, ?_, ?_, ?_, ?_, ?_, ?_, ?_⟩
  · rw [updV_other _ _ _ _ (by omega)]; exact h.mem i hi
  · rw [updV_other _ _ _ _ (by omega)]; exact h.sp i hi
  · obtain ⟨f, a, z, l, u, h0, h1, h2, h3, h4, h5⟩ := h.sel i hi
    refine ⟨f, a, z, l, u, ?_, ?_, ?_, ?_, ?_, h5⟩
    · rw [updV_other _ _ _ _ (by omega)]; exact h0
    · rw [updV_other _ _ _ _ (by omega)]; exact h1
    · rw [updV_other _ _ _ _ (by omega)]; exact h2
    · rw [updV_other _ _ _ _ (by omega)]; exact h3
    · rw [updV_other _ _ _ _ (by omega)]; exact h4
  · rw [updV_other _ _ _ _ (by omega)]; exact h.rows i hi
  · rw [updV_other _ _ _ _ (by decide)]; exact h.up
  · rw [updV_other _ _ _ _ (by decide)]; exact h.V
  · rw [updV_other _ _ _ _ (by decide)]; exact h.T
  · rw [updV_other _ _ _ _ (by decide)]; exact h.X
  · rw [updV_other _ _ _ _ (by decide)]; exact h.W
  · rw [updV_other _ _ _ _ (by decide)]; exact h.con
  · rw [updV_other _ _ _ _ (by decide)]; exact h.msk
  · rw [updV_other _ _ _ _ (by decide)]; exact h.bus
  · rw [updV_other _ _ _ _ (by decide)]; exact h.buf
  · rw [updV_other _ _ _ _ (by decide)]; exact h.ad
  · rw [updV_other _ _ _ _ (by decide)]; exact h.cnt
  · rw [updV_other _ _ _ _ (by decide)]; exact h.blank
  · rw [updV_other _ _ _ _ (by decide)]; exact h.hit
  · rw [updV_other _ _ _ _ (by decide)]; exact h.over
  · exact updV_same _ _ _
  · rw [updV_other _ _ _ _ (by decide)]; exact h.dot
  · rw [updV_other _ _ _ _ (by decide)]; exact h.fr
theorem Ty.set_dot {c : PC} {A : Nat → Value} (h : Ty c A) (x : Int) : Ty { c with dot := x } (updV A 10583 (.int .i64 x)) := by
  refine ⟨fun i hi => ?_, fun i hi => ?_, fun i hi => ?_, fun i hi => ?_, ?_, ?_, ?_, ?_, ?_, ?_, ?_, ?_, ?_, ?_, ?_, ?_, ?_, ?_, ?_, ?_, ?_⟩
  · rw [updV_other _ _ _ _ (by omega)]; exact h.mem i hi
  · rw [updV_other _ _ _ _ (by omega)]; exact h.sp i hi
  · obtain ⟨f, a, z, l, u, h0, h1, h2, h3, h4, h5⟩ := h.sel i hi
    refine ⟨f, a, z, l, u, ?_, ?_, ?_, ?_, ?_, h5⟩
    · rw [updV_other _ _ _ _ (by omega)]; exact h0
    · rw [updV_other _ _ _ _ (by omega)]; exact h1
    · rw [updV_other _ _ _ _ (by omega)]; exact h2
    · rw [updV_other _ _ _ _ (by omega)]; exact h3
    · rw [updV_other _ _ _ _ (by omega)]; exact h4
  · rw [updV_other _ _ _ _ (by omega)]; exact h.rows i hi
  · rw [updV_other _ _ _ _ (by decide)]; exact h.up
  · rw [updV_other _ _ _ _ (by decide)]; exact h.V
  · rw [updV_other _ _ _ _ (by decide)]; exact h.T
  · rw [updV_other _ _ _ _ (by decide)]; exact h.X
  · rw [updV_other _ _ _ _ (by decide)]; exact h.W
  · rw [updV_other _ _ _ _ (by decide)]; exact h.con
  · rw [updV_other _ _ _ _ (by decide)]; exact h.msk
  · rw [updV_other _ _ _ _ (by decide)]; exact h.bus
  · rw [updV_other _ _ _ _ (by decide)]; exact h.buf
  · rw [updV_other _ _ _ _ (by decide)]; exact h.ad
  · rw [updV_other _ _ _ _ (by decide)]; exact h.cnt
  · rw [updV_other _ _ _ _ (by decide)]; exact h.blank
  · rw [updV_other _ _ _ _ (by decide)]; exact h.hit
  · rw [updV_other _ _ _ _ (by decide)]; exact h.over
  · rw [updV_other _ _ _ _ (by decide)]; exact h.line
  · exact updV_same _ _ _
  · rw [updV_other _ _ _ _ (by decide)]; exact h.fr
theorem Ty.set_fr {c : PC} {A : Nat → Value} (h : Ty c A) (x : Int) : Ty { c with fr := x } (updV A 10584 (.int .i64 x)) := by
  refine ⟨fun i hi => ?_, fun i hi => ?_, fun i hi => ?_, fun i hi => ?_, ?_, ?_, ?_, ?_, ?_, ?_, ?_, ?_, ?_, ?_, ?_, ?_, ?_, ?_, ?_, ?_, ?_⟩
  · rw [updV_other _ _ _ _ (by omega)]; exact h.mem i hi
  · rw [updV_other _ _ _ _ (by omega)]; exact h.sp i hi
  · obtain ⟨f, a, z, l, u, h0, h1, h2, h3, h4, h5⟩ := h.sel i hi
    refine ⟨f, a, z, l, u, ?_, ?_, ?_, ?_, ?_, h5⟩
    · rw [updV_other _ _ _ _ (by omega)]; exact h0
    · rw [updV_other _ _ _ _ (by omega)]; exact h1
    · rw [updV_other _ _ _ _ (by omega)]; exact h2
    · rw [updV_other _ _ _ _ (by omega)]; exact h3
    · rw [updV_other _ _ _ _ (by omega)]; exact h4
  · rw [updV_other _ _ _ _ (by omega)]; exact h.rows i hi
  · rw [updV_other _ _ _ _ (by decide)]; exact h.up
  · rw [updV_other _ _ _ _ (by decide)]; exact h.V
  · rw [updV_other _ _ _ _ (by decide)]; exact h.T
  · rw [updV_other _ _ _ _ (by decide)]; exact h.X
  · rw [updV_other _ _ _ _ (by decide)]; exact h.W
  · rw [updV_other _ _ _ _ (by decide)]; exact h.con
  · rw [updV_other _ _ _ _ (by decide)]; exact h.msk
  · rw [updV_other _ _ _ _ (by decide)]; exact h.bus
  · rw [updV_other _ _ _ _ (by decide)]; exact h.buf
  · rw [updV_other _ _ _ _ (by decide)]; exact h.ad
  · rw [updV_other _ _ _ _ (by decide)]; exact h.cnt
  · rw [updV_other _ _ _ _ (by decide)]; exact h.blank
  · rw [updV_other _ _ _ _ (by decide)]; exact h.hit
  · rw [updV_other _ _ _ _ (by decide)]; exact h.over
  · rw [updV_other _ _ _ _ (by decide)]; exact h.line
  · rw [updV_other _ _ _ _ (by decide)]; exact h.dot
  · exact updV_same _ _ _

/-- in the world v the block m has the cells A; all below m is as in w0 -/
structure PA (w0 : World) (m : Nat) (A : Nat → Value) (v : World) : Prop where
  ex : ∃ (a : Array Value), v.heap[m]? = some (.cells a 85 (0, 0)) ∧ a.size = 72025 ∧ ∀ i, i < 72025 → a[i]? = some (A i)
  bel : Below m w0 v
variable {w0 v v' : World} {m : Nat} {A : Nat → Value} {c : PC}
theorem PA.lt (h : PA w0 m A v) : m < v.heap.size := by
  obtain ⟨a, ha, _⟩ := h.ex
  exact (Array.getElem?_eq_some_iff.1 ha).1
theorem PA.cell (h : PA w0 m A v) (i : Nat) (hi : i < 72025) : v.cell? ⟨m, i, none⟩ = some (A i) := by
  obtain ⟨a, ha, _, hc⟩ := h.ex
  exact (by simp [World.cell?, ha] : v.cell? ⟨m, i, none⟩ = a[i]?).trans (hc i hi)
theorem PA.fz (h : PA w0 m A v) (i : Nat) : v.frozen? ⟨m, i, none⟩ = false := by
  obtain ⟨a, ha, _, hc⟩ := h.ex
  simp [World.frozen?, ha]
theorem PA.past (h : PA w0 m A v) (hb : Below v.heap.size v v') : PA w0 m A v' := by
  obtain ⟨a, ha, hs, hc⟩ := h.ex
  exact ⟨⟨a, (hb.block _ h.lt).trans ha, hs, hc⟩, h.bel.trans (hb.mono (Nat.le_of_lt h.lt))⟩
theorem PA.set (h : PA w0 m A v) (k : Nat) (x : Value) : PA w0 m (updV A k x) (v.setCell ⟨m, k, none⟩ x) := by
  obtain ⟨a, ha, hs, hc⟩ := h.ex
  have hm := h.lt
  refine ⟨⟨a.setIfInBounds k x, ?_, by simp [hs], fun i hi => ?_⟩, ?_⟩
  · have hv : v.heap[m] = .cells a 85 (0, 0) := by have := ha; rw [Array.getElem?_eq_getElem hm] at this; exact Option.some.inj this
    simp [World.setCell, hm, Array.getElem_modify, hv]
  · by_cases e : i = k
    · subst e
      rw [updV_same]
      simp [hs, hi]
    · rw [updV_other _ _ _ _ e]
      simp [Ne.symm e, hc i hi]
  · exact h.bel.setCell (Nat.le_refl m) x
/-- a picture unit of the single cells c -/
def PX (w0 : World) (m : Nat) (c : PC) (v : World) : Prop := ∃ A, PA w0 m A v ∧ Ty c A
theorem PX.past (h : PX w0 m c v) (hb : Below v.heap.size v v') : PX w0 m c v' := by
  obtain ⟨A, h1, h2⟩ := h
  exact ⟨A, h1.past hb, h2⟩

end Go.Proofs.Ythldppdkheclkaa
