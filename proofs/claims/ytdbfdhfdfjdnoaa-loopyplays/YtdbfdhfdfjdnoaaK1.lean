/- Words for memory and for bytes that do not need a sum: put together out of the older texts (NextW, ScrW, FrameW, Mem, ScrB, ScrE, RdE). No law is claimed here. -/
import Derived.Test.YtdbfdhfdfjdnoaaR1
import Derived.Laws.BytesArg
namespace Go.Proofs.Ytdbfdhfdfjdnoaa
open Go.RowKit

theorem quiet_eq {P : Program} {f : FuncId} {args : Array Value} {w : World} {n : Nat} {v : Value}
    (h : Calls P f args (w.drewN n) fun e w' => e = .returned v ∧ w.drewN n = w') : Calls P f args (w.drewN n) fun e w'' => e = .returned v ∧ ∃ m, w'' = w.drewN m :=
  h.mono fun _ _ ⟨he, hm⟩ => ⟨he, n, hm.symm⟩
theorem quiet_still {P : Program} {f : FuncId} {args : Array Value} {w : World} {n : Nat} {v : Value}
    (h : Calls P f args (w.drewN n) fun e w' => e = .returned v ∧ Still (w.drewN n) w') : Calls P f args (w.drewN n) fun e w'' => e = .returned v ∧ ∃ m, w'' = w.drewN m :=
  Calls.quiet_of h

theorem Rd.still {α : Type} {f : α → Value} {w w' : World} {B : Nat} {A : Option Addr} {n c : Nat} {xs : List α} (h : Rd f w B A n c xs) (hs : Still w w') : Rd f w' B A n c xs := by
  obtain ⟨q, rfl⟩ := hs; exact h.drewN q
theorem Still.trans {a b c : World} (h : Still a b) (k : Still b c) : Still a c := by
  obtain ⟨q, rfl⟩ := h
  obtain ⟨r, rfl⟩ := k
  exact ⟨q + r, by simp⟩

/-- what a call answers that goes on with a row: a slice of blocks from base on that reads as xs; nothing below base has changed -/
def RetA {α : Type} (f : α → Value) (e : TypeId) (base : Nat) (w : World) (xs : List α) (r : Ending) (w' : World) : Prop :=
  ∃ A n c, r = .returned (.slice A n c) ∧ Own f w' base e A n c xs ∧ Below base w w'

/-- the cells of a block that was just made, later -/
theorem box_cell {w w' : World} {cs : Array Value} {e : TypeId} (hb : Below (w.heap.size + 1) (w.alloc (.cells cs e)) w') (i : Nat) : w'.cell? ⟨w.heap.size, i, none⟩ = cs[i]? := by
  rw [hb.cell (p := ⟨w.heap.size, i, none⟩) (by simp), cell_of_row _ _ _ _ _ _ (heap_alloc_new w _)]

/-- on the blocks of S nothing has changed -/
def Kp (S : Nat → Prop) (w w' : World) : Prop := ∀ b, S b → w'.heap[b]? = w.heap[b]?
theorem Kp.refl (S : Nat → Prop) (w : World) : Kp S w w := fun _ _ => rfl
theorem Kp.trans {S : Nat → Prop} {a b c : World} (h : Kp S a b) (k : Kp S b c) : Kp S a c := fun x hx => (k x hx).trans (h x hx)
theorem Kp.sub {S S' : Nat → Prop} {w w' : World} (h : Kp S w w') (hs : ∀ b, S' b → S b) : Kp S' w w' := fun b hb => h b (hs b hb)
theorem Kp.cell {S : Nat → Prop} {w w' : World} (h : Kp S w w') {b o : Nat} (hb : S b) : w'.cell? ⟨b, o, none⟩ = w.cell? ⟨b, o, none⟩ := World.cell?_of_block (w := w) (a := ⟨b, o, none⟩) (h b hb)
theorem Kp.alloc {S : Nat → Prop} {w : World} (hs : ∀ b, S b → b < w.heap.size) (o : Obj) : Kp S w (w.alloc o) := fun b hb => Below.heap_alloc w o b (hs b hb)
theorem Kp.below {S : Nat → Prop} {B : Nat} {w w' : World} (hb : Below B w w') (hs : ∀ b, S b → b < B) : Kp S w w' := fun b h => hb.block b (hs b h)
theorem Kp.drew (S : Nat → Prop) (w : World) : Kp S w w.drew := fun _ _ => rfl
theorem Kp.drewN (S : Nat → Prop) (w : World) (n : Nat) : Kp S w (w.drewN n) := fun _ _ => rfl
theorem Kp.still {S : Nat → Prop} {w w' : World} (h : Still w w') : Kp S w w' := by obtain ⟨q, rfl⟩ := h; exact fun _ _ => rfl
theorem Kp.setCell {S : Nat → Prop} {w : World} {p : Addr} (hs : ∀ b, S b → b ≠ p.block) (u : Value) : Kp S w (w.setCell p u) := fun b hb => Below.heap_setCell w p u b (hs b hb)
theorem Kp.grown {S : Nat → Prop} {w w' : World} {row : Option Nat} (hg : w.grownBy w' row) (hs : ∀ b, S b → b < w.heap.size ∧ some b ≠ row) : Kp S w w' := fun b hb => hg.block b (hs b hb).1 (hs b hb).2

/-- b is not the block of A -/
def Off (A : Option Addr) (b : Nat) : Prop := some b ≠ A.map (·.block)
theorem off_none (b : Nat) : Off none b := by simp [Off]
theorem off_some {g o b : Nat} : Off (some ⟨g, o, .none⟩) b ↔ b ≠ g := by simp [Off]
theorem ownBlock_slice (A : Option Addr) (n c : Nat) : Value.ownBlock (.slice A n c) = A.map (·.block) := by cases A <;> rfl

structure Rdp {α : Type} (f : α → Value) (w : World) (S : Nat → Prop) (A : Option Addr) (n c : Nat) (xs : List α) : Prop where
  len : xs.length = n
  cap : n ≤ c
  at_ : ∀ j, (h : j < xs.length) → ∃ b off, A = some ⟨b, off, none⟩ ∧ S b ∧ w.cell? ⟨b, off + j, none⟩ = some (f xs[j])
theorem Rd.rdp {α : Type} {f : α → Value} {w : World} {B : Nat} {A : Option Addr} {n c : Nat} {xs : List α} (h : Rd f w B A n c xs) : Rdp f w (· < B) A n c xs := ⟨h.len, h.cap, h.at_⟩
theorem Rdp.rd {α : Type} {f : α → Value} {w : World} {S : Nat → Prop} {B : Nat} {A : Option Addr} {n c : Nat} {xs : List α} (h : Rdp f w S A n c xs) (hS : ∀ b, S b → b < B) : Rd f w B A n c xs :=
  ⟨h.len, h.cap, fun j hj => by obtain ⟨b, off, e, hb, hc⟩ := h.at_ j hj; exact ⟨b, off, e, hS b hb, hc⟩⟩
theorem Rdp.keep {α : Type} {f : α → Value} {w w' : World} {S S' : Nat → Prop} {A : Option Addr} {n c : Nat} {xs : List α} (h : Rdp f w S A n c xs) (hk : Kp S w w') (hS : ∀ b, S b → S' b) : Rdp f w' S' A n c xs :=
  ⟨h.len, h.cap, fun j hj => by obtain ⟨b, off, e, hb, hc⟩ := h.at_ j hj; exact ⟨b, off, e, hS b hb, (hk.cell hb).trans hc⟩⟩
theorem Rdp.nil {α : Type} {f : α → Value} {w : World} {S : Nat → Prop} {A : Option Addr} {c : Nat} : Rdp f w S A 0 c [] := ⟨rfl, Nat.zero_le _, fun j h => absurd h (by simp)⟩
/-- what a call of one's own has made lies from base on -/
theorem Own.rdp {α : Type} {f : α → Value} {w : World} {base : Nat} {e : TypeId} {A : Option Addr} {n c : Nat} {xs : List α} (h : Own f w base e A n c xs) : Rdp f w (fun b => base ≤ b ∧ b < w.heap.size) A n c xs :=
  ⟨h.len, h.rd.cap, fun j hj => by
    obtain ⟨b, off, e, hb, hc⟩ := h.rd.at_ j hj
    subst e
    exact ⟨b, off, rfl, ⟨(h.lt b rfl).1, hb⟩, hc⟩⟩

/-- how an element is laid: k cells, out of a raw r; what it must be beside -/
structure Shape (ρ α : Type) where
  k : Nat
  raw : ρ → List Value
  Ok : World → (Nat → Prop) → ρ → α → Prop
  pos : 0 < k
  len : ∀ r, (raw r).length = k
  one : ∀ r u, u ∈ raw r → u.oneCell' = true
  keep : ∀ {w w' : World} {S S' : Nat → Prop} {r : ρ} {x : α}, Ok w S r x → Kp S w w' → (∀ b, S b → S' b) → Ok w' S' r x

def Shape.El {ρ α : Type} (T : Shape ρ α) (w : World) (S : Nat → Prop) (b o : Nat) (x : α) : Prop :=
  ∃ r, (∀ i u, (T.raw r)[i]? = some u → w.cell? ⟨b, o + i, none⟩ = some u) ∧ T.Ok w S r x
theorem Shape.El.keep {ρ α : Type} {T : Shape ρ α} {w w' : World} {S S' : Nat → Prop} {b o : Nat} {x : α} (h : T.El w S b o x) (hb : S b) (hk : Kp S w w') (hS : ∀ b, S b → S' b) : T.El w' S' b o x := by
  obtain ⟨r, hc, ho⟩ := h
  exact ⟨r, fun i u hu => (hk.cell hb).trans (hc i u hu), T.keep ho hk hS⟩

structure RdX {ρ α : Type} (T : Shape ρ α) (w : World) (S : Nat → Prop) (A : Option Addr) (n c : Nat) (xs : List α) : Prop where
  len : xs.length = n
  cap : n ≤ c
  at_ : ∀ j, (h : j < xs.length) → ∃ b off, A = some ⟨b, off, none⟩ ∧ S b ∧ T.El w S b (off + j * T.k) xs[j]
theorem RdX.keep {ρ α : Type} {T : Shape ρ α} {w w' : World} {S S' : Nat → Prop} {A : Option Addr} {n c : Nat} {xs : List α} (h : RdX T w S A n c xs) (hk : Kp S w w') (hS : ∀ b, S b → S' b) : RdX T w' S' A n c xs :=
  ⟨h.len, h.cap, fun j hj => by obtain ⟨b, off, e, hb, hc⟩ := h.at_ j hj; exact ⟨b, off, e, hS b hb, hc.keep hb hk hS⟩⟩
theorem RdX.nil {ρ α : Type} {T : Shape ρ α} {w : World} {S : Nat → Prop} {A : Option Addr} {c : Nat} : RdX T w S A 0 c [] := ⟨rfl, Nat.zero_le _, fun j h => absurd h (by simp)⟩
theorem RdX.take {ρ α : Type} {T : Shape ρ α} {w : World} {S : Nat → Prop} {A : Option Addr} {n c : Nat} {xs : List α} (h : RdX T w S A n c xs) (k : Nat) (hk : k ≤ n) : RdX T w S A k c (xs.take k) := by
  have hl := h.len
  have hc := h.cap
  refine ⟨by simp; omega, by omega, fun j hj => ?_⟩
  obtain ⟨b, off, e, hb, hc⟩ := h.at_ j (by simp at hj; omega)
  exact ⟨b, off, e, hb, by simpa using hc⟩

/-- a row of the call's own that is appended to; what its elements lead to lies in S -/
structure OwnX {ρ α : Type} (T : Shape ρ α) (w : World) (base : Nat) (e : TypeId) (S : Nat → Prop) (A : Option Addr) (n c : Nat) (rs : List ρ) (xs : List α) : Prop where
  own : w.ownsRow base e T.k (.slice A n c) n (rs.flatMap T.raw)
  lenr : rs.length = n
  len : xs.length = n
  ok : ∀ (j : Nat) (r : ρ) (x : α), rs[j]? = some r → xs[j]? = some x → T.Ok w S r x
theorem OwnX.empty {ρ α : Type} (T : Shape ρ α) (w : World) (base : Nat) (e : TypeId) (S : Nat → Prop) : OwnX T w base e S none 0 0 [] [] := ⟨World.ownsRow_nil _ _ _ _, rfl, rfl, fun j r x h => by simp at h⟩

theorem flatMap_get {ρ : Type} (raw : ρ → List Value) (k : Nat) (hl : ∀ r, (raw r).length = k) (rs : List ρ) : ∀ (j i : Nat) (h : j < rs.length), i < k → (rs.flatMap raw)[j * k + i]? = (raw rs[j])[i]? := by
  induction rs with
  | nil => intro j i h; simp at h
  | cons r rs ih =>
    intro j i h hi
    rw [List.flatMap_cons]
    cases j with
    | zero => rw [List.getElem?_append_left (by rw [hl]; omega)]; simp
    | succ j =>
      rw [List.getElem?_append_right (by rw [hl, Nat.succ_mul]; omega), hl, show (j + 1) * k + i - k = j * k + i from by rw [Nat.succ_mul]; omega, ih j i (by simp at h; omega) hi]
      simp
theorem OwnX.cell {ρ α : Type} {T : Shape ρ α} {w : World} {base : Nat} {e : TypeId} {S : Nat → Prop} {A : Option Addr} {n c : Nat} {rs : List ρ} {xs : List α} (h : OwnX T w base e S A n c rs xs) (j : Nat) (hj : j < n) :
    ∃ g, A = some ⟨g, 0, none⟩ ∧ base ≤ g ∧ g < w.heap.size ∧ ∀ i u, (T.raw (rs[j]'(by rw [h.lenr]; exact hj)))[i]? = some u → w.cell? ⟨g, 0 + j * T.k + i, none⟩ = some u := by
  rcases h.own.2 with ⟨hv, hn⟩ | ⟨g, cap, cur, hv, hb, hg, hnc, hcm, hs, ht⟩
  · omega
  · injection hv with h1 h2 h3
    subst h1; subst h3
    refine ⟨g, rfl, hb, (Array.getElem?_eq_some_iff.1 hg).1, fun i u hu => ?_⟩
    have hi : i < T.k := by
      rcases Nat.lt_or_ge i T.k with hh | hh
      · exact hh
      · rw [List.getElem?_eq_none (by rw [T.len]; exact hh)] at hu; cases hu
    have := h.own.cells (g := g) rfl (j * T.k + i) u (by rw [flatMap_get T.raw T.k T.len rs j i (by rw [h.lenr]; exact hj) hi]; exact hu)
    have hadd : (⟨g, 0, Option.none⟩ : Addr).add (j * T.k + i) = ⟨g, 0 + j * T.k + i, Option.none⟩ := by
      have : (⟨g, 0, Option.none⟩ : Addr).add (j * T.k + i) = ⟨g, j * T.k + i, Option.none⟩ := by unfold Addr.add; split <;> simp_all
      rw [this, Nat.zero_add]
    rwa [hadd] at this
theorem OwnX.capn {ρ α : Type} {T : Shape ρ α} {w : World} {base : Nat} {e : TypeId} {S : Nat → Prop} {A : Option Addr} {n c : Nat} {rs : List ρ} {xs : List α} (h : OwnX T w base e S A n c rs xs) : n ≤ c := by
  rcases h.own.2 with ⟨hv, hn⟩ | ⟨g, cap, cur, hv, hb, hg, hnc, hcm, hs, ht⟩
  · injection hv with h1 h2 h3; omega
  · injection hv with h1 h2 h3; omega
theorem OwnX.lt {ρ α : Type} {T : Shape ρ α} {w : World} {base : Nat} {e : TypeId} {S : Nat → Prop} {A : Option Addr} {n c : Nat} {rs : List ρ} {xs : List α} (h : OwnX T w base e S A n c rs xs) :
    ∀ k, A.map (·.block) = some k → base ≤ k ∧ k < w.heap.size := by have := h.own.lt; rw [ownBlock_slice] at this; exact this
/-- a block that isn't there yet isn't the row's -/
theorem OwnX.off {ρ α : Type} {T : Shape ρ α} {w : World} {base : Nat} {e : TypeId} {S : Nat → Prop} {A : Option Addr} {n c : Nat} {rs : List ρ} {xs : List α} (h : OwnX T w base e S A n c rs xs) {b : Nat} (hb : w.heap.size ≤ b) : Off A b := by
  intro e; have := (h.lt b e.symm).2; omega
theorem OwnX.rd {ρ α : Type} {T : Shape ρ α} {w : World} {base : Nat} {e : TypeId} {S S' : Nat → Prop} {A : Option Addr} {n c : Nat} {rs : List ρ} {xs : List α} (h : OwnX T w base e S A n c rs xs) (hS : ∀ b, S b → S' b)
    (hA : ∀ k, A.map (·.block) = some k → S' k) : RdX T w S' A n c xs := by
  refine ⟨h.len, h.capn, fun j hj => ?_⟩
  have hjn : j < n := by rw [← h.len]; exact hj
  obtain ⟨g, rfl, _, _, hc⟩ := h.cell j hjn
  exact ⟨g, 0, rfl, hA g rfl, _, hc, T.keep (h.ok j _ _ (List.getElem?_eq_getElem (by rw [h.lenr]; exact hjn)) (List.getElem?_eq_getElem hj)) (Kp.refl _ _) hS⟩
/-- nothing of the row, nor of what it leads to, was touched -/
theorem OwnX.keep {ρ α : Type} {T : Shape ρ α} {w w' : World} {base : Nat} {e : TypeId} {S S' : Nat → Prop} {A : Option Addr} {n c : Nat} {rs : List ρ} {xs : List α} (h : OwnX T w base e S A n c rs xs)
    (hA : ∀ k, A.map (·.block) = some k → w'.heap[k]? = w.heap[k]?) (hk : Kp S w w') (hS : ∀ b, S b → S' b) : OwnX T w' base e S' A n c rs xs := by
  refine ⟨⟨h.own.1, ?_⟩, h.lenr, h.len, fun j r x hr hx => T.keep (h.ok j r x hr hx) hk hS⟩
  rcases h.own.2 with hn | ⟨g, cap, cur, hv, hb, hg, rest⟩
  · exact .inl hn
  · refine .inr ⟨g, cap, cur, hv, hb, ?_, rest⟩
    injection hv with h1
    rw [hA g (by rw [h1]; rfl)]
    exact hg
theorem OwnX.below {ρ α : Type} {T : Shape ρ α} {w w' : World} {base : Nat} {e : TypeId} {S : Nat → Prop} {A : Option Addr} {n c : Nat} {rs : List ρ} {xs : List α} (h : OwnX T w base e S A n c rs xs)
    (hb : Below w.heap.size w w') (hS : ∀ b, S b → b < w.heap.size) : OwnX T w' base e S A n c rs xs :=
  h.keep (fun k hk => hb.block k (h.lt k hk).2) (Kp.below hb hS) (fun _ h => h)
theorem OwnX.sub {ρ α : Type} {T : Shape ρ α} {w : World} {base : Nat} {e : TypeId} {S S' : Nat → Prop} {A : Option Addr} {n c : Nat} {rs : List ρ} {xs : List α} (h : OwnX T w base e S A n c rs xs)
    (hS : ∀ b, S b → S' b) : OwnX T w base e S' A n c rs xs := h.keep (fun _ _ => rfl) (Kp.refl _ _) hS
theorem OwnX.lower {ρ α : Type} {T : Shape ρ α} {w : World} {base base' : Nat} {e : TypeId} {S : Nat → Prop} {A : Option Addr} {n c : Nat} {rs : List ρ} {xs : List α} (h : OwnX T w base e S A n c rs xs) (hb : base' ≤ base) : OwnX T w base' e S A n c rs xs := by
  refine ⟨⟨h.own.1, ?_⟩, h.lenr, h.len, h.ok⟩
  rcases h.own.2 with h1 | ⟨g, cap, cur, hv, hg, r⟩
  · exact .inl h1
  · exact .inr ⟨g, cap, cur, hv, Nat.le_trans hb hg, r⟩

/-- what an append of one element asks of the cells that were just laid -/
theorem news_one {ρ α : Type} (T : Shape ρ α) (w : World) (cs : Array Value) (e0 : TypeId) (fr : Nat × Nat) (r : ρ) (g : Nat) (hcs : cs = (T.raw r).toArray) (hg : g = w.heap.size) :
    ∀ j u, (T.raw r)[j]? = some u → (w.alloc (.cells cs e0 fr)).cell? ((⟨g, 0, none⟩ : Addr).add j) = some u := by
  intro j u hu
  subst hcs; subst hg
  have hadd : (⟨w.heap.size, 0, Option.none⟩ : Addr).add j = ⟨w.heap.size, j, Option.none⟩ := by unfold Addr.add; split <;> simp_all
  rw [hadd, cell_of_row _ _ _ _ _ _ (heap_alloc_new w _)]
  simpa using hu

/-- the row behind an append of one element -/
theorem OwnX.pushed {ρ α : Type} {T : Shape ρ α} {w w1 w' : World} {base : Nat} {e : TypeId} {S : Nat → Prop} {A : Option Addr} {n c : Nat} {rs : List ρ} {xs : List α} (h : OwnX T w base e S A n c rs xs) {r : ρ} {x : α} {g cap : Nat}
    (hown : w'.ownsRow base e T.k (.slice (some ⟨g, 0, none⟩) (n + 1) cap) (n + 1) (rs.flatMap T.raw ++ T.raw r)) (hok : T.Ok w S r x) (h1 : Kp S w w1) (hk : Kp S w1 w') : OwnX T w' base e S (some ⟨g, 0, none⟩) (n + 1) cap (rs ++ [r]) (xs ++ [x]) := by
  refine ⟨by simpa using hown, by simp [h.lenr], by simp [h.len], fun j r' x' hr hx => ?_⟩
  rcases Nat.lt_or_ge j n with hj | hj
  · rw [List.getElem?_append_left (by rw [h.lenr]; exact hj)] at hr
    rw [List.getElem?_append_left (by rw [h.len]; exact hj)] at hx
    exact T.keep (h.ok j r' x' hr hx) (h1.trans hk) (fun _ h => h)
  · rw [List.getElem?_append_right (by rw [h.lenr]; exact hj), h.lenr] at hr
    rw [List.getElem?_append_right (by rw [h.len]; exact hj), h.len] at hx
    have hj0 : j - n = 0 := by
      rcases Nat.eq_zero_or_pos (j - n) with h0 | h0
      · exact h0
      · rw [List.getElem?_eq_none (by simp; omega)] at hr; cases hr
    rw [hj0] at hr hx
    simp at hr hx
    subst hr; subst hx
    exact T.keep hok (h1.trans hk) (fun _ h => h)

section
variable {P : Program}
/-- append of one element that was just laid, for the walk -/
theorem wpList_push {ρ α : Type} (T : Shape ρ α) {ops : Array Oper} {rest : List Oper} {o : Oper} {a : Act} {Q : Exit → Act → World → Prop} (w : World) (hgd : o.guard = none) (s x : Operand) (t : TypeId)
    (ho : o.op = .call { callee := .builtin .append, args := #[s, x], argTypes := #[t, t] })
    (base : Nat) (e : TypeId) (i : TypeInfo) (z : Value) (bytes : Nat) (ht : P.underlying t = some (.slice e)) (hi : P.info? e = some i) (hz : i.zero = some z) (hsize : i.size = T.k) (hby : i.bytes = bytes) (hzs : z.cells.size = T.k)
    (S : Nat → Prop) (A : Option Addr) (n c : Nat) (rs : List ρ) (xs : List α) (hs : a.eval s = .slice A n c) (hown : OwnX T w base e S A n c rs xs)
    (cs : Array Value) (e0 : TypeId) (fr : Nat × Nat) (g0 c2 : Nat) (r : ρ) (y : α) (hx : a.eval x = .slice (some ⟨g0, 0, none⟩) 1 c2) (hcs : cs = (T.raw r).toArray) (hg0 : g0 = w.heap.size) (hok : T.Ok w S r y)
    (hS : ∀ b, S b → b < w.heap.size ∧ Off A b)
    (h63 : n + 1 ≤ maxLen) (hbytes : (n + 1) * bytes ≤ 140737488355328) (hbase : base ≤ w.heap.size)
    (h : ∀ g cap w', OwnX T w' base e S (some ⟨g, 0, none⟩) (n + 1) cap (rs ++ [r]) (xs ++ [y]) → w.grownBy w' (A.map (·.block)) → (A.map (·.block) = some g ∨ g = w.heap.size + 1) → g < w'.heap.size →
      wpList P ops Q rest (a.put o.dst (.slice (some ⟨g, 0, none⟩) (n + 1) cap)) w') :
    wpList P ops Q (o :: rest) a (w.alloc (.cells cs e0 fr)) := by
  have hk1 : Kp S w (w.alloc (.cells cs e0 fr)) := Kp.alloc (fun b hb => (hS b hb).1) _
  have hown1 : OwnX T (w.alloc (.cells cs e0 fr)) base e S A n c rs xs := hown.keep (fun k hk => Below.heap_alloc w _ k (hown.lt k hk).2) hk1 (fun _ h => h)
  have hga : w.grownBy (w.alloc (.cells cs e0 fr)) (A.map (·.block)) := World.grownBy_alloc w _ _
  refine wpList_append_lies (P := P) (w.alloc (.cells cs e0 fr)) hgd s x t ho base e i z T.k bytes ht hi hz hsize hby hzs T.pos (.slice A n c) n _ hs hown1.own ⟨g0, 0, none⟩ 1 c2 (T.raw r) hx (by rw [T.len]; omega)
    (news_one T w cs e0 fr r g0 hcs hg0) (T.one r) (by omega) h63 hbytes (by simp; omega) (w.heap.size + 1) (by simp) ?_
  intro g cap w' hown2 hgr hat hlt
  rw [ownBlock_slice] at hgr hat
  have hk2 : Kp S (w.alloc (.cells cs e0 fr)) w' := Kp.grown hgr (fun b hb => ⟨by simp; have := (hS b hb).1; omega, (hS b hb).2⟩)
  refine h g cap w' (hown.pushed hown2 hok hk1 hk2) ?_ hat hlt
  exact ⟨hgr.os.trans hga.os, hgr.tape.trans hga.tape, hgr.output.trans hga.output, Nat.le_trans hga.size hgr.size, fun k hk hne => (hgr.block k (by simp; omega) hne).trans (hga.block k hk hne)⟩
end

/-- the row's new block: the old one, or a new one -/
theorem off_pushed {A : Option Addr} {g N b : Nat} (hat : A.map (·.block) = some g ∨ g = N) (hb : b < N) (ho : Off A b) : Off (some ⟨g, 0, none⟩) b := by
  rw [off_some]
  rcases hat with h | h
  · intro e; subst e; exact ho h.symm
  · omega

/-- slices of bytes as elements -/
def shS : Shape (Option Addr × Nat × Nat) (List UInt8) where
  k := 1
  raw s := [sv s]
  Ok w S s ys := Rdp bv w S s.1 s.2.1 s.2.2 ys
  pos := by omega
  len _ := rfl
  one r u h := by simp at h; subst h; rfl
  keep h hk hS := h.keep hk hS

theorem rdS_at {w : World} {S : Nat → Prop} {A : Option Addr} {n c : Nat} {yss : List (List UInt8)} (h : RdX shS w S A n c yss) (j : Nat) (hj : j < yss.length) :
    ∃ b off A' n' c', A = some ⟨b, off, none⟩ ∧ S b ∧ w.cell? ⟨b, off + j, none⟩ = some (.slice A' n' c') ∧ Rdp bv w S A' n' c' yss[j] := by
  obtain ⟨b, off, e, hb, r, hc, h3⟩ := h.at_ j hj
  refine ⟨b, off, r.1, r.2.1, r.2.2, e, hb, ?_, h3⟩
  have := hc 0 _ rfl
  rw [show off + j * shS.k + 0 = off + j from by show off + j * 1 + 0 = off + j; omega] at this
  exact this

/-- a call that makes slices of bytes -/
def RetLL (w : World) (yss : List (List UInt8)) (r : Ending) (w' : World) : Prop :=
  ∃ A n c, r = .returned (.slice A n c) ∧ RdX shS w' (fun b => w.heap.size ≤ b ∧ b < w'.heap.size) A n c yss ∧ Below w.heap.size w w'

theorem Rd.some_of {α : Type} {f : α → Value} {w : World} {B : Nat} {A : Option Addr} {n c : Nat} {xs : List α} (h : Rd f w B A n c xs) (hn : 0 < n) : ∃ b off, A = some ⟨b, off, none⟩ := by
  obtain ⟨b, off, e, _⟩ := h.at_ 0 (by rw [h.len]; exact hn)
  exact ⟨b, off, e⟩

theorem rd_cell {α : Type} {f : α → Value} {w : World} {B b off n c : Nat} {xs : List α} (h : Rd f w B (some ⟨b, off, none⟩) n c xs) (j : Nat) (hj : j < xs.length) : b < B ∧ w.cell? ⟨b, off + j, none⟩ = some (f xs[j]) := by
  obtain ⟨b', o', e1, hbB, hc⟩ := h.at_ j hj
  injection e1 with e1; injection e1 with e1 e2; subst e1; subst e2
  exact ⟨hbB, hc⟩

/-- reads as xs, in what there is now -/
def RdE {α : Type} (f : α → Value) (w : World) (A : Option Addr) (n c : Nat) (xs : List α) : Prop := Rd f w w.heap.size A n c xs
/-- nothing that was there in w has changed -/
def BlE (w w' : World) : Prop := Below w.heap.size w w'
/-- a cell of what there is now -/
def Has (w : World) (b i : Nat) (v : Value) : Prop := b < w.heap.size ∧ w.cell? ⟨b, i, none⟩ = some v
section
variable {α : Type} {f : α → Value} {w w' : World} {A : Option Addr} {n c : Nat} {xs : List α}
theorem RdE.alloc (h : RdE f w A n c xs) {o : Obj} : RdE f (w.alloc o) A n c xs := (Rd.alloc h (Nat.le_refl _) o).more (by simp)
theorem RdE.drew (h : RdE f w A n c xs) : RdE f w.drew A n c xs := Rd.drew h
theorem RdE.drewN (h : RdE f w A n c xs) {k : Nat} : RdE f (w.drewN k) A n c xs := Rd.drewN h k
theorem RdE.below (h : RdE f w A n c xs) (hb : Below w.heap.size w w') : RdE f w' A n c xs := (Rd.below h hb).more hb.size
theorem RdE.still (h : RdE f w A n c xs) (hs : Still w w') : RdE f w' A n c xs := h.below (hs.below _)
theorem RdE.own {base : Nat} {e : TypeId} (h : Own f w base e A n c xs) : RdE f w A n c xs := h.rd
theorem RdE.of {B : Nat} (h : Rd f w B A n c xs) (hB : B ≤ w.heap.size) : RdE f w A n c xs := h.more hB
theorem RdE.one {e : TypeId} {fr : Nat × Nat} {x : α} : RdE f (w.alloc (.cells #[f x] e fr)) (some ⟨w.heap.size, 0, none⟩) 1 1 [x] :=
  (Rd.made w e fr [x] _ _ 1 rfl rfl rfl).more (by simp)
theorem RdE.made {e : TypeId} {fr : Nat × Nat} {cs : Array Value} {g m : Nat} (hcs : cs = (xs.map f).toArray) (hg : g = w.heap.size) (hn : xs.length = m) : RdE f (w.alloc (.cells cs e fr)) (some ⟨g, 0, none⟩) m m xs :=
  (Rd.made w e fr xs cs g m hcs hg hn).more (by subst hg; simp)
end
section
variable {w w1 w2 : World}
theorem BlE.refl (w : World) : BlE w w := Below.refl _ _
theorem BlE.alloc (h : BlE w w1) {o : Obj} : BlE w (w1.alloc o) := Below.alloc h h.size o
theorem BlE.drew (h : BlE w w1) : BlE w w1.drew := Below.drew h
theorem BlE.drewN (h : BlE w w1) {k : Nat} : BlE w (w1.drewN k) := Below.trans h (Still.below ⟨k, rfl⟩ _)
theorem BlE.below (h : BlE w w1) (hb : Below w1.heap.size w1 w2) : BlE w w2 := Below.trans h (hb.mono h.size)
theorem BlE.still (h : BlE w w1) (hs : Still w1 w2) : BlE w w2 := Below.trans h (hs.below _)
end
section
variable {w w' : World} {b i : Nat} {v : Value}
theorem Has.cell (h : Has w b i v) : w.cell? ⟨b, i, none⟩ = some v := h.2
theorem Has.alloc (h : Has w b i v) {o : Obj} : Has (w.alloc o) b i v := ⟨by have := h.1; simp; omega, (World.cell?_alloc_lt w o _ h.1).trans h.2⟩
theorem Has.drew (h : Has w b i v) : Has w.drew b i v := h
theorem Has.drewN (h : Has w b i v) {k : Nat} : Has (w.drewN k) b i v := h
theorem Has.below (h : Has w b i v) (hb : Below w.heap.size w w') : Has w' b i v := ⟨Nat.lt_of_lt_of_le h.1 hb.size, (hb.cell (p := ⟨b, i, none⟩) h.1).trans h.2⟩
theorem Has.still (h : Has w b i v) (hs : Still w w') : Has w' b i v := h.below (hs.below _)
theorem Has.made {cs : Array Value} {e : TypeId} {fr : Nat × Nat} {g : Nat} (hg : g = w.heap.size) (hi : cs[i]? = some v) : Has (w.alloc (.cells cs e fr)) g i v := by
  subst hg
  exact ⟨by simp, by rw [cell_of_row _ _ _ _ _ _ (heap_alloc_new w _)]; exact hi⟩
end

theorem RdE.byte {w : World} {e : TypeId} {fr : Nat × Nat} {x : UInt8} {z : Int} {g : Nat} (hz : z = (x.toNat : Int)) (hg : g = w.heap.size) : RdE bv (w.alloc (.cells #[.int .u8 z] e fr)) (some ⟨g, 0, none⟩) 1 1 [x] := by
  subst hz; subst hg; exact RdE.one (f := bv)
theorem RdE.oneB {w : World} {e : TypeId} {fr : Nat × Nat} {x : UInt8} : RdE bv (w.alloc (.cells #[.int .u8 (x.toNat : Int)] e fr)) (some ⟨w.heap.size, 0, none⟩) 1 1 [x] := RdE.one (f := bv)

end Go.Proofs.Ytdbfdhfdfjdnoaa
