/- Contracts of package block: putPair, File, Disk. No law is claimed here. -/
import Derived.Test.YtbfibikbhnbinaaBlk2
import Derived.Test.YtbfibikbhnbinaaK2
namespace Go.Proofs.Ytbfibikbhnbinaa
open Go.RowKit

/-- a number below 256 as a byte -/
def u8N (z : Nat) : UInt8 := UInt8.ofNat z
theorem u8N_toNat (z : Nat) (h : z < 256) : (u8N z).toNat = z := by unfold u8N; simp; omega
theorem u8N_of (x : UInt8) : u8N x.toNat = x := by unfold u8N; simp

theorem Own.at_ {α : Type} {f : α → Value} {w : World} {base g n c : Nat} {e : TypeId} {xs : List α} (h : Own f w base e (some ⟨g, 0, none⟩) n c xs) (j : Nat) (hj : j < xs.length) : w.cell? ⟨g, j, none⟩ = some (f xs[j]) := by
  obtain ⟨b, off, e, _, hc⟩ := h.rd.at_ j hj
  injection e with e; injection e with e1 e2; subst e1; subst e2
  rw [Nat.zero_add] at hc; exact hc
theorem World.grownBy.trans' {a b c : World} {row : Option Nat} (h : a.grownBy b row) (k : b.grownBy c row) : a.grownBy c row :=
  ⟨k.os.trans h.os, k.tape.trans h.tape, k.output.trans h.output, Nat.le_trans h.size k.size, fun i hi hne => (k.block i (Nat.lt_of_lt_of_le hi h.size) hne).trans (h.block i hi hne)⟩
theorem Own.storedG {α : Type} {f : α → Value} {w : World} {base g n c : Nat} {e : TypeId} {xs : List α} (h : Own f w base e (some ⟨g, 0, none⟩) n c xs) (j : Nat) (u : Value) :
    w.grownBy (w.setCell ⟨g, j, none⟩ u) (some g) := (h.own.stored j u).2

/-- a block of structs that was just made -/
theorem RdX.madeX {ρ α : Type} (T : Shape ρ α) (w : World) (e : TypeId) (fr : Nat × Nat) (cs : Array Value) (rs : List ρ) (xs : List α) (g n : Nat) (S : Nat → Prop) (hcs : cs = (rs.flatMap T.raw).toArray) (hg : g = w.heap.size) (hn : rs.length = n) (hn2 : xs.length = n) (hS : S g)
    (hok : ∀ (j : Nat) (r : ρ) (x : α), rs[j]? = some r → xs[j]? = some x → T.Ok (w.alloc (.cells cs e fr)) S r x) : RdX T (w.alloc (.cells cs e fr)) S (some ⟨g, 0, none⟩) n n xs := by
  refine ⟨hn2, Nat.le_refl _, fun j hj => ⟨g, 0, rfl, hS, rs[j]'(by omega), fun i u hu => ?_, hok j _ _ (List.getElem?_eq_getElem (by omega)) (List.getElem?_eq_getElem hj)⟩⟩
  have hi : i < T.k := by
    rcases Nat.lt_or_ge i T.k with hh | hh
    · exact hh
    · rw [List.getElem?_eq_none (by rw [T.len]; exact hh)] at hu; cases hu
  rw [Nat.zero_add]
  subst hg; subst hcs
  rw [cell_of_row _ _ _ _ _ _ (heap_alloc_new w _)]
  have := flatMap_get T.raw T.k T.len rs j i (by omega) hi
  rw [hu] at this
  simpa using this

/-- the head of a file -/
def headN (number id : UInt8) (name : List UInt8) (a : Nat) (kind : UInt8) (sz : Nat) : List UInt8 :=
  (((((lay [number, id, 0, 0, 0, 0, 0, 0, 0, 0, 0, 0, 0, 0, 0] 2 (name.take 8)).set 10 (u8N (a % 256))).set 11 (u8N (a / 256))).set 12 (u8N (sz % 256))).set 13 (u8N (sz / 256))).set 14 kind
def fileN (number id : UInt8) (name : List UInt8) (a : Nat) (kind : UInt8) (xs : List UInt8) : List Bm := [⟨3, headN number id name a kind xs.length⟩, ⟨4, xs⟩]

/-- a call that makes blocks -/
def RetB (w : World) (l : List Bm) (r : Ending) (w' : World) : Prop :=
  ∃ A n c, r = .returned (.slice A n c) ∧ RdX shB w' (· < w'.heap.size) A n c l ∧ Below w.heap.size w w'

/-- .. all of it new -/
def RetF (w : World) (l : List Bm) (r : Ending) (w' : World) : Prop :=
  ∃ A n c, r = .returned (.slice A n c) ∧ RdX shB w' (fun b => w.heap.size ≤ b ∧ b < w'.heap.size) A n c l ∧ Below w.heap.size w w'

theorem Try.mk15 (w : World) : (Instr.makeSlice 22 (.int .i64 15) (.int .i64 15)).run Try.prog w = .ok (.slice (some ⟨w.heap.size, 0, none⟩) 15 15)
    (w.alloc (.cells #[.int .u8 0, .int .u8 0, .int .u8 0, .int .u8 0, .int .u8 0, .int .u8 0, .int .u8 0, .int .u8 0, .int .u8 0, .int .u8 0, .int .u8 0, .int .u8 0, .int .u8 0, .int .u8 0, .int .u8 0] 5)) := by kernel_rfl
theorem Try.szU8 : (Try.prog.info? 5).map (·.size) = some 1 := by kernel_rfl

end Go.Proofs.Ytbfibikbhnbinaa
