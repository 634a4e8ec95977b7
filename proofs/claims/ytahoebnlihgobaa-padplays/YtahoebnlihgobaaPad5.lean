/- Scripts of a pad (walk). No law is claimed here. -/
import Derived.Test.YtahoebnlihgobaaPad4
import Derived.Test.YtahoebnlihgobaaK1
namespace Go.Proofs.Ytahoebnlihgobaa
open Go.RowKit

/-- an act -/
def shAct : Shape (Int × Int) (Int × Int) where
  k := 2
  raw r := [.int .u8 r.1, .int .u8 r.2]
  Ok _ _ r x := r = x
  pos := by omega
  len _ := rfl
  one r u h := by simp at h; rcases h with rfl | rfl <;> rfl
  keep h _ _ := h
def okAct (y : Int × Int) : Prop := (0 ≤ y.1 ∧ y.1 < 256) ∧ (0 ≤ y.2 ∧ y.2 < 256)
theorem rdAct_at {w : World} {S : Nat → Prop} {A : Option Addr} {n c : Nat} {l : List (Int × Int)} (h : RdX shAct w S A n c l) (j : Nat) (hj : j < l.length) :
    ∃ b off, A = some ⟨b, off, none⟩ ∧ S b ∧ w.cell? ⟨b, off + j * 2, none⟩ = some (.int .u8 l[j].1) ∧ w.cell? ⟨b, off + j * 2 + 1, none⟩ = some (.int .u8 l[j].2) := by
  obtain ⟨b, off, e, hb, r, hc, h1⟩ := h.at_ j hj
  have h1' : r = l[j] := h1
  subst h1'
  exact ⟨b, off, e, hb, hc 0 _ rfl, hc 1 _ rfl⟩

/-- the document's pad in a block -/
structure Qd (w : World) (X : Nat) (h : Int) (A : Option Addr) (c : Nat) (t : Bool) : Prop where
  lt : X < w.heap.size
  c0 : w.cell? ⟨X, 0, none⟩ = some (.int .i64 h)
  c1 : w.cell? ⟨X, 1, none⟩ = some (.slice A 8 c)
  c2 : w.cell? ⟨X, 2, none⟩ = some (.bool t)
  fz : ∀ i, w.frozen? ⟨X, i, none⟩ = false
theorem Qd.below {w w' : World} {X c : Nat} {h : Int} {A : Option Addr} {t : Bool} (p : Qd w X h A c t) (b : Below w.heap.size w w') : Qd w' X h A c t :=
  ⟨Nat.lt_of_lt_of_le p.lt b.size, (b.cell p.lt).trans p.c0, (b.cell p.lt).trans p.c1, (b.cell p.lt).trans p.c2, fun i => (b.frozen p.lt).trans (p.fz i)⟩
theorem Qd.other {w w' : World} {X c m : Nat} {h : Int} {A : Option Addr} {t : Bool} (p : Qd w X h A c t) (k : Ch m w w') (hne : X ≠ m) : Qd w' X h A c t :=
  ⟨by rw [k.size]; exact p.lt, (k.cell _ hne).trans p.c0, (k.cell _ hne).trans p.c1, (k.cell _ hne).trans p.c2, fun i => (k.frozen _).trans (p.fz i)⟩
/-- .. written anew -/
def setQ (w : World) (X : Nat) (h : Int) (A : Option Addr) (c : Nat) (t : Bool) : World := ((w.setCell ⟨X, 0, none⟩ (.int .i64 h)).setCell ⟨X, 1, none⟩ (.slice A 8 c)).setCell ⟨X, 2, none⟩ (.bool t)
theorem setQ_ch (w : World) (X : Nat) (h : Int) (A : Option Addr) (c : Nat) (t : Bool) : Ch X w (setQ w X h A c t) := (((Ch.refl X w).set _ _).set _ _).set _ _
theorem setQ_more (w : World) (X : Nat) (h : Int) (A : Option Addr) (c : Nat) (t : Bool) (os : List Obj) (d : Nat) (hX : X < w.heap.size) : more (((w.setCell ⟨X, 0, none⟩ (.int .i64 h)).setCell ⟨X, 1, none⟩ (.slice A 8 c)).setCell ⟨X, 2, none⟩ (.bool t)) os d = setQ (more w os d) X h A c t := by
  unfold setQ
  rw [more_setCell w os d X _ _ hX, more_setCell _ os d X _ _ (by simpa using hX), more_setCell _ os d X _ _ (by simpa using hX)]
theorem Qd.set {w : World} {X c c' : Nat} {h h' : Int} {A A' : Option Addr} {t t' : Bool} (p : Qd w X h A c t) : Qd (setQ w X h' A' c' t') X h' A' c' t' := by
  unfold setQ
  refine ⟨by simpa using p.lt, ?_, ?_, ?_, fun i => by simpa using p.fz i⟩
  · rw [World.cell?_setCell_other _ _ _ _ (by simp), World.cell?_setCell_other _ _ _ _ (by simp)]; exact World.cell?_setCell_same _ _ _ p.c0
  · rw [World.cell?_setCell_other _ _ _ _ (by simp)]; exact World.cell?_setCell_same _ _ _ (by rw [World.cell?_setCell_other _ _ _ _ (by simp)]; exact p.c1)
  · exact World.cell?_setCell_same _ _ _ (by rw [World.cell?_setCell_other _ _ _ _ (by simp), World.cell?_setCell_other _ _ _ _ (by simp)]; exact p.c2)

theorem low_all : ∀ s : Fin 256, bits .and .u8 (s.val : Int) 1 = (s.val : Int) % 2 ∧ (bitsL 8 (nxt (s.val : Int) false) = bitsL 7 ((s.val : Int) / 2) ++ [1]) ∧ (0 ≤ nxt (s.val : Int) false ∧ nxt (s.val : Int) false < 256) ∧ lowOn (s.val : Int) = decide ((s.val : Int) % 2 = 1) := by decide +kernel
theorem low_s (s : Int) (h : 0 ≤ s ∧ s < 256) : bits .and .u8 s 1 = s % 2 ∧ (bitsL 8 (nxt s false) = bitsL 7 (s / 2) ++ [1]) ∧ (0 ≤ nxt s false ∧ nxt s false < 256) ∧ lowOn s = decide (s % 2 = 1) := by
  obtain ⟨k, rfl⟩ : ∃ k : Nat, s = (k : Int) := ⟨s.toNat, by omega⟩
  exact low_all ⟨k, by omega⟩

end Go.Proofs.Ytahoebnlihgobaa
