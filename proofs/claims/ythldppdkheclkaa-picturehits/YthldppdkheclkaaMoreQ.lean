/- A region whose order is open and whose callees make memory, but write none that was there: one walk in the order of the text serves every order. No law is claimed here. -/
import Derived.Test.YthldppdkheclkaaMore
import Derived.Deep.QuietTactic
import Derived.BigQuiet
namespace Go.Proofs.Ythldppdkheclkaa
open Go.RowKit

/-- what was made, and how often was drawn -/
structure MQ where
  os : List Obj
  d : Nat
instance : Nonempty MQ := ⟨⟨[], 0⟩⟩
/-- w with more in it -/
def mP (w : World) (n : MQ) : World := more w n.os n.d
theorem mP_of {w w' : World} (h : Below w.heap.size w w') : ∃ n, w' = mP w n := by
  obtain ⟨os, d, e⟩ := more_of h
  exact ⟨⟨os, d⟩, e⟩
theorem mP_below (w : World) (n : MQ) : Below w.heap.size w (mP w n) := more_self w n.os n.d
theorem mP_cell {w : World} {b i : Nat} {v : Value} (hb : b < w.heap.size) (h : w.cell? ⟨b, i, none⟩ = some v) (n : MQ) : (mP w n).cell? ⟨b, i, none⟩ = some v := ((mP_below w n).cell (p := ⟨b, i, none⟩) hb).trans h
/-- what a callee's contract gives, for the walk -/
theorem Calls.more_q {P : Program} {f : FuncId} {args : Array Value} {w : World} {n : MQ} {v : Value}
    (h : Calls P f args (mP w n) fun e w' => e = .returned v ∧ Below (mP w n).heap.size (mP w n) w') : Calls P f args (mP w n) fun e w'' => e = .returned v ∧ ∃ m, w'' = mP w m :=
  h.mono fun _ _ ⟨he, hb⟩ => ⟨he, mP_of ((mP_below w n).trans (hb.mono (mP_below w n).size))⟩
theorem wp_region_more {P : Program} {id : Nat} {Q : Exit → Act → World → Prop} {a : Act} {w : World} {l : List Oper} (hm : P.follows .mixedOrders = true) (hB : Region.lexB .any l.toArray = true)
    (h : wpQuiet P l.toArray (fun w' => ∃ n, w' = mP w n) (fun a' => ∀ w', (∃ n, w' = mP w n) → Q .normal a' w') l a) : (Code.region id l.toArray true).wp P Q a w :=
  wp_region_quiet (C := fun w' => ∃ n, w' = mP w n) hm hB ⟨⟨[], w.drawn + 1⟩, rfl⟩ (by simpa using h)

/-- the look at a region's order, some operations at a time (for great regions: each part its own lemma) -/
def lexSome (md : Region.Mode) (ops : Array Oper) : Nat → Nat → Array Bool → Bool
  | 0, _, _ => true
  | n + 1, k, listed => (Region.ready md ops listed).contains k && Region.free md ops listed k && lexSome md ops n (k + 1) (listed.setIfInBounds k true)
def lexMark : Nat → Nat → Array Bool → Array Bool
  | 0, _, listed => listed
  | n + 1, k, listed => lexMark n (k + 1) (listed.setIfInBounds k true)
theorem lexFrom_add {md : Region.Mode} {ops : Array Oper} {m : Nat} : ∀ (n k : Nat) (listed : Array Bool), lexSome md ops n k listed = true → Region.lexFrom md ops m (k + n) (lexMark n k listed) = true → Region.lexFrom md ops (n + m) k listed = true
  | 0, k, listed, _, h => by rw [Nat.zero_add]; exact h
  | n + 1, k, listed, h1, h2 => by
    rw [Nat.succ_add]
    unfold lexSome at h1
    unfold Region.lexFrom
    rw [Bool.and_eq_true] at h1 ⊢
    exact ⟨h1.1, lexFrom_add n (k + 1) _ h1.2 (by rw [Nat.add_assoc, Nat.add_comm 1 n]; exact h2)⟩
theorem lexB_of {ops : Array Oper} (h1 : Region.noSelect ops = true) (h2 : Region.lexFrom .any ops ops.size 0 (Array.replicate ops.size false) = true) : Region.lexB .any ops = true := by
  unfold Region.lexB
  rw [h1, h2]; rfl

end Go.Proofs.Ythldppdkheclkaa
