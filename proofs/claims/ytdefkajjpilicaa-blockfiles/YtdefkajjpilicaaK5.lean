/- 'append(append([]T{}, l...), x)' where the order is open: steps. No law is claimed here. -/
import Derived.Test.YtdefkajjpilicaaK4
import Derived.Laws.OwnMore
namespace Go.Proofs.Ytdefkajjpilicaa
open Go.RowKit

/-- so many noughts, as cells -/
def zerosC (n : Nat) : Array Value := ((List.replicate n (0 : UInt8)).map bv).toArray
theorem Try.mkN (k : IntKind) (n : Nat) (hn : n ≤ 1099511627776) (w : World) : (Instr.makeSlice 24 (.int k (n : Int)) (.int k (n : Int))).run Try.prog w = .ok (.slice (some ⟨w.heap.size, 0, none⟩) n n) (w.alloc (.cells (zerosC n) 5)) := by
  unfold zerosC
  obtain ⟨i0, hi, hz0, hz1, hz2⟩ := info_parts Try.infoU8
  have := run_make (P := Try.prog) w 24 5 i0 _ Try.underlying24 hi hz0 k k n n (by omega) (by omega) (by rw [hz2]; omega) (by omega)
  rw [this, hz1, Int.toNat_natCast, Nat.mul_one]
  congr 3
  have h := toList_madeCells_one (.int .u8 0) n
  rw [List.map_replicate]
  show madeCells #[.int .u8 0] n = (List.replicate n (Value.int .u8 0)).toArray
  rw [← h]

section
variable {ρ α : Type} {T : Shape ρ α} {w : World}
theorem OE.zero {w0 : World} {e : TypeId} {g : Nat} (hg : g = w.heap.size) (hB : BlE w0 w) : OE T (w.alloc (.cells #[] e)) w0.heap.size e (some ⟨g, 0, none⟩) 0 0 [] [] :=
  (OwnX.fresh T w e _ #[] [] [] 0 g rfl rfl rfl (by simp [maxLen]) hg (by simp)).lower (Below.size hB)
theorem PE.newRow {β : Type} {f : β → Value} {A : Option Addr} {n c : Nat} {xs : List β} (h : PE f w none A n c xs) {o : Obj} {g : Nat} (hg : g = w.heap.size) : PE f (w.alloc o) (some ⟨g, 0, none⟩) A n c xs :=
  Rdp.keep h (Kp.alloc (fun _ h => h.1) o) (fun b h => ⟨by have := h.1; simp; omega, by rw [off_some]; have := h.1; omega, off_none _⟩)
theorem PE.made0 {β : Type} {f : β → Value} {xs : List β} {e : TypeId} {cs : Array Value} {g m : Nat} (hcs : cs = (xs.map f).toArray) (hg : g = w.heap.size) (hn : xs.length = m) : PE f (w.alloc (.cells cs e)) none (some ⟨g, 0, none⟩) m m xs := by
  have h := RdE.made (w := w) (e := e) (fr := (0, 0)) hcs hg hn
  exact (Rd.rdp h).keep (Kp.refl _ _) (fun b hb => ⟨hb, off_none _, off_none _⟩)
theorem PE.zeros0 {e : TypeId} {g m : Nat} (hg : g = w.heap.size) : PE bv (w.alloc (.cells (zerosC m) e)) none (some ⟨g, 0, none⟩) m m (List.replicate m 0) := PE.made0 rfl hg (by simp)
theorem PE.zeros {base : Nat} {e0 : TypeId} {Aw : Option Addr} {n c : Nat} {rs : List ρ} {xs : List α} (h : OE T w base e0 Aw n c rs xs) {e : TypeId} {g m : Nat} (hg : g = w.heap.size) : PE bv (w.alloc (.cells (zerosC m) e)) Aw (some ⟨g, 0, none⟩) m m (List.replicate m 0) :=
  OE.made h (f := bv) (ys := List.replicate m 0) rfl hg (by simp)
end

section
variable {P : Program}
/-- all of a list behind a new, empty row -/
theorem step_app0 {ρ α : Type} (T : Shape ρ α) {ops : Array Oper} {o : Oper} {a : Act} {K : Act → World → Prop} {Q : Exit → Act → World → Prop} {E : Prop} (w : World) (hgd : o.guard = none) (s x : Operand) (t : TypeId)
    (ho : o.op = .call { callee := .builtin .append, args := #[s, x], argTypes := #[t, t] }) (w0 : World) (e : TypeId) (i : TypeInfo) (z : Value) (bytes : Nat)
    (ht : P.underlying t = some (.slice e)) (hi : P.info? e = some i) (hz : i.zero = some z) (hsize : i.size = T.k) (hby : i.bytes = bytes) (hzs : z.cells.size = T.k)
    (A2 : Option Addr) (m c2 : Nat) (ys : List α) (r : RdX T w0 (· < w0.heap.size) A2 m c2 ys) (g0 c0 : Nat) (hs : a.eval s = .slice (some ⟨g0, 0, none⟩) 0 c0) (hx : a.eval x = .slice A2 m c2)
    (h63 : m ≤ maxLen) (hbytes : m * bytes ≤ 140737488355328) (hO : OE T w w0.heap.size e (some ⟨g0, 0, none⟩) 0 c0 [] []) (hB : BlE w0 w)
    (h : ∀ A' c' w' rs', OE T w' w0.heap.size e A' m c' rs' ys → BlE w0 w' → (∀ (f : UInt8 → Value) A n c xs, PE f w (some ⟨g0, 0, none⟩) A n c xs → PE f w' A' A n c xs) → (∀ b i v, Has w b i v → b ≠ g0 → Has w' b i v) → K (a.put o.dst (.slice A' m c')) w') :
    if Region.wanted o (yielded ops a.tmps) = true then Oper.wp P o a w K Q else E := by
  have hlo : w0.heap.size ≤ g0 := OE.lo hO g0 rfl
  have hX : XE T w (some ⟨g0, 0, none⟩) A2 m c2 ys := r.keep (Kp.below hB (fun _ h => h)) (fun b h => ⟨Nat.lt_of_lt_of_le h (Below.size hB), by rw [off_some]; have : b < w0.heap.size := h; omega, off_none _⟩)
  refine step_appX w T hgd s x t ho w0 e i z bytes ht hi hz hsize hby hzs (some ⟨g0, 0, none⟩) 0 c0 [] [] A2 m c2 ys hs hx (by omega) (by rw [Nat.zero_add]; exact hbytes) hO hX hB ?_
  intro A' c' w' rs' hO' hg hat
  rw [Nat.zero_add, List.nil_append, List.nil_append] at hO'
  rw [Nat.zero_add]
  refine h A' c' w' rs' hO' (BlE.grown hB hg (fun k hk => by injection hk with hk; subst hk; exact hlo)) ?_ (fun b i v hh hne => Has.grown hh hg (by intro e; injection e with e; exact hne e))
  intro f A n c xs hp
  rcases hat with rfl | ⟨g, rfl, hat⟩
  · exact Rdp.keep hp (Kp.grown hg (fun _ h => ⟨h.1, h.2.1⟩)) (fun b h => ⟨Nat.lt_of_lt_of_le h.1 hg.size, h.2⟩)
  · exact PE.grown hp hg hat
end

end Go.Proofs.Ytdefkajjpilicaa
