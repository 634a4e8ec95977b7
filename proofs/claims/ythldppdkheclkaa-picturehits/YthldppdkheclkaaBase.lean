/- Words for memory: a slice that reads as a list, a row that the call owns, an append onto it. Plain lemmas, no law is claimed here. -/
import Derived.Test.YthldppdkheclkaaRows
import Derived.WalkKit
import Derived.WalkSpells
import Derived.WalkLawsBesides
import Derived.Deep.QuietTactic
import Derived.BigQuiet
import Derived.Maps.AppendAt
import Derived.Deep.AppendLies
import Derived.Lib.Hide
namespace Go.Proofs.Ythldppdkheclkaa
open Go.RowKit

/-- a byte as a value -/
def bv (x : UInt8) : Value := .int .u8 (x.toNat : Int)
/-- an int as a value -/
def iv (x : Int) : Value := .int .i64 x

/-- In the world w the slice value '.slice A n c' reads as the list xs (element by element through f), all of it below block B. -/
structure Rd {α : Type} (f : α → Value) (w : World) (B : Nat) (A : Option Addr) (n c : Nat) (xs : List α) : Prop where
  len : xs.length = n
  cap : n ≤ c
  at_ : ∀ j, (h : j < xs.length) → ∃ b off, A = some ⟨b, off, none⟩ ∧ b < B ∧ w.cell? ⟨b, off + j, none⟩ = some (f xs[j])

theorem Rd.nil {α : Type} {f : α → Value} {w : World} {B : Nat} {A : Option Addr} {c : Nat} : Rd f w B A 0 c [] :=
  ⟨rfl, Nat.zero_le _, fun j h => absurd h (by simp)⟩
theorem Rd.keep {α : Type} {f : α → Value} {w w' : World} {B : Nat} {A : Option Addr} {n c : Nat} {xs : List α} (h : Rd f w B A n c xs)
    (hk : ∀ p : Addr, p.block < B → w'.cell? p = w.cell? p) : Rd f w' B A n c xs :=
  ⟨h.len, h.cap, fun j hj => by
    obtain ⟨b, off, e, hb, hc⟩ := h.at_ j hj
    exact ⟨b, off, e, hb, (hk _ hb).trans hc⟩⟩
theorem Rd.more {α : Type} {f : α → Value} {w : World} {B B' : Nat} {A : Option Addr} {n c : Nat} {xs : List α} (h : Rd f w B A n c xs) (hB : B ≤ B') : Rd f w B' A n c xs :=
  ⟨h.len, h.cap, fun j hj => by
    obtain ⟨b, off, e, hb, hc⟩ := h.at_ j hj
    exact ⟨b, off, e, Nat.lt_of_lt_of_le hb hB, hc⟩⟩
theorem Rd.below {α : Type} {f : α → Value} {w w' : World} {B : Nat} {A : Option Addr} {n c : Nat} {xs : List α} (h : Rd f w B A n c xs) (hb : Below B w w') : Rd f w' B A n c xs :=
  h.keep fun _ hp => hb.cell hp
/-- over a step that keeps all that lies below a greater bound -/
theorem Rd.belowLe {α : Type} {f : α → Value} {w w' : World} {B C : Nat} {A : Option Addr} {n c : Nat} {xs : List α} (h : Rd f w B A n c xs) (hb : Below C w w') (hl : B ≤ C) : Rd f w' B A n c xs :=
  h.below (hb.mono hl)
theorem Rd.alloc {α : Type} {f : α → Value} {w : World} {B : Nat} {A : Option Addr} {n c : Nat} {xs : List α} (h : Rd f w B A n c xs) (hB : B ≤ w.heap.size) (o : Obj) : Rd f (w.alloc o) B A n c xs :=
  h.keep fun p hp => World.cell?_alloc_lt w o p (Nat.lt_of_lt_of_le hp hB)
theorem Rd.drew {α : Type} {f : α → Value} {w : World} {B : Nat} {A : Option Addr} {n c : Nat} {xs : List α} (h : Rd f w B A n c xs) : Rd f w.drew B A n c xs := h.keep fun _ _ => rfl
theorem Rd.drewN {α : Type} {f : α → Value} {w : World} {B : Nat} {A : Option Addr} {n c : Nat} {xs : List α} (h : Rd f w B A n c xs) (k : Nat) : Rd f (w.drewN k) B A n c xs := h.keep fun _ _ => rfl
theorem Rd.setCell {α : Type} {f : α → Value} {w : World} {B : Nat} {A : Option Addr} {n c : Nat} {xs : List α} (h : Rd f w B A n c xs) {p : Addr} (hB : B ≤ p.block) (u : Value) : Rd f (w.setCell p u) B A n c xs :=
  h.keep fun q hq => World.cell?_setCell_other w p q u (fun e => by subst e; omega)

/-- 's[:k]' -/
theorem Rd.take {α : Type} {f : α → Value} {w : World} {B : Nat} {A : Option Addr} {n c : Nat} {xs : List α} (h : Rd f w B A n c xs) (k : Nat) (hk : k ≤ n) : Rd f w B A k c (xs.take k) := by
  have hl := h.len
  have hc := h.cap
  refine ⟨by simp; omega, by omega, fun j hj => ?_⟩
  have hj' : j < k := by simp at hj; omega
  obtain ⟨b, off, e, hb, hc⟩ := h.at_ j (by omega)
  exact ⟨b, off, e, hb, by simpa using hc⟩
/-- 's[k:]' behind its address as the walk writes it -/
theorem Rd.drop {α : Type} {f : α → Value} {w : World} {B : Nat} {b off : Nat} {n c : Nat} {xs : List α} (h : Rd f w B (some ⟨b, off, none⟩) n c xs) (k : Nat) (hk : k ≤ n) :
    Rd f w B (some ⟨b, off + k, none⟩) (n - k) (c - k) (xs.drop k) := by
  have hl := h.len
  have hc := h.cap
  refine ⟨by simp; omega, by omega, fun j hj => ?_⟩
  have hj' : k + j < xs.length := by simp at hj; omega
  obtain ⟨b', off', e, hb, hc⟩ := h.at_ (k + j) hj'
  simp at e
  obtain ⟨rfl, rfl⟩ := e
  exact ⟨b, off + k, rfl, hb, by rw [Nat.add_assoc]; simpa using hc⟩

/-- The slice value '.slice A n c' is nil, or the head of a row of the call's own (blocks from 'base' on), and holds xs. -/
structure Own {α : Type} (f : α → Value) (w : World) (base : Nat) (e : TypeId) (A : Option Addr) (n c : Nat) (xs : List α) : Prop where
  own : w.ownsRow base e 1 (.slice A n c) n (xs.map f)
  len : xs.length = n

theorem Own.empty {α : Type} (f : α → Value) (w : World) (base : Nat) (e : TypeId) : Own f w base e none 0 0 [] := ⟨World.ownsRow_nil _ _ _ _, rfl⟩
theorem Own.lt {α : Type} {f : α → Value} {w : World} {base : Nat} {e : TypeId} {A : Option Addr} {n c : Nat} {xs : List α} (h : Own f w base e A n c xs) :
    ∀ k, Value.ownBlock (.slice A n c) = some k → base ≤ k ∧ k < w.heap.size := h.own.lt
theorem Own.rd {α : Type} {f : α → Value} {w : World} {base : Nat} {e : TypeId} {A : Option Addr} {n c : Nat} {xs : List α} (h : Own f w base e A n c xs) : Rd f w w.heap.size A n c xs := by
  have hl := h.len
  rcases h.own.2 with ⟨hv, hn⟩ | ⟨g, cap, cur, hv, hb, hg, hnc, hcm, hs, ht⟩
  · injection hv with h1 h2 h3
    subst h1; subst h2; subst h3
    have : xs = [] := List.eq_nil_of_length_eq_zero hl
    subst this
    exact Rd.nil
  · injection hv with h1 h2 h3
    subst h1; subst h3
    refine ⟨hl, hnc, fun j hj => ⟨g, 0, rfl, (Array.getElem?_eq_some_iff.1 hg).1, ?_⟩⟩
    have := h.own.cells (g := g) rfl j (f xs[j]) (by simp [hj])
    rw [Nat.zero_add]
    have hadd : (⟨g, 0, Option.none⟩ : Addr).add j = ⟨g, j, Option.none⟩ := by unfold Addr.add; split <;> simp_all
    rwa [hadd] at this
theorem Own.alloc {α : Type} {f : α → Value} {w : World} {base : Nat} {e : TypeId} {A : Option Addr} {n c : Nat} {xs : List α} (h : Own f w base e A n c xs) (o : Obj) : Own f (w.alloc o) base e A n c xs := ⟨h.own.alloc o, h.len⟩
theorem Own.drew {α : Type} {f : α → Value} {w : World} {base : Nat} {e : TypeId} {A : Option Addr} {n c : Nat} {xs : List α} (h : Own f w base e A n c xs) : Own f w.drew base e A n c xs := ⟨h.own, h.len⟩
theorem Own.drewN {α : Type} {f : α → Value} {w : World} {base : Nat} {e : TypeId} {A : Option Addr} {n c : Nat} {xs : List α} (h : Own f w base e A n c xs) (k : Nat) : Own f (w.drewN k) base e A n c xs := ⟨h.own, h.len⟩
/-- what is owned stays owned while nothing below the heap's end of then is written -/
theorem Own.below {α : Type} {f : α → Value} {w w' : World} {base : Nat} {e : TypeId} {A : Option Addr} {n c : Nat} {xs : List α} (h : Own f w base e A n c xs) (hb : Below w.heap.size w w') : Own f w' base e A n c xs :=
  ⟨h.own.kept ⟨hb.os, hb.tape, hb.output, hb.size, fun k hk _ => hb.block k hk⟩ (by cases hv : Value.ownBlock (.slice A n c) with | none => simp | some k => exact Or.inr (by simp : some k ≠ Option.none)), h.len⟩
theorem Own.lower {α : Type} {f : α → Value} {w : World} {base base' : Nat} {e : TypeId} {A : Option Addr} {n c : Nat} {xs : List α} (h : Own f w base e A n c xs) (hb : base' ≤ base) : Own f w base' e A n c xs := by
  refine ⟨⟨h.own.1, ?_⟩, h.len⟩
  rcases h.own.2 with h1 | ⟨g, cap, cur, hv, hg, r⟩
  · exact .inl h1
  · exact .inr ⟨g, cap, cur, hv, Nat.le_trans hb hg, r⟩

theorem Own.stored {α : Type} {f : α → Value} {w : World} {base g n c : Nat} {e : TypeId} {xs : List α} (h : Own f w base e (some ⟨g, 0, none⟩) n c xs) (j : Nat) (x : α) :
    Own f (w.setCell ⟨g, j, none⟩ (f x)) base e (some ⟨g, 0, none⟩) n c (xs.set j x) := by
  refine ⟨?_, by simp [h.len]⟩
  rw [List.map_set]
  exact (h.own.stored j (f x)).1
theorem Own.frozen {α : Type} {f : α → Value} {w : World} {base g n c : Nat} {e : TypeId} {xs : List α} (h : Own f w base e (some ⟨g, 0, none⟩) n c xs) (j : Nat) : w.frozen? ⟨g, j, none⟩ = false := h.own.frozenAt j
theorem Own.base_le {α : Type} {f : α → Value} {w : World} {base g n c : Nat} {e : TypeId} {xs : List α} (h : Own f w base e (some ⟨g, 0, none⟩) n c xs) : base ≤ g := (h.lt g rfl).1
theorem Own.zero {α : Type} {f : α → Value} {w : World} {base n c : Nat} {e : TypeId} {A : Option Addr} {xs : List α} (h : Own f w base e A n c xs) (hn : 0 < n) : ∃ g, A = some ⟨g, 0, none⟩ := by
  rcases h.own.2 with ⟨hv, h0⟩ | ⟨g, cap, cur, hv, _⟩
  · omega
  · injection hv with h1
    exact ⟨g, h1⟩

/-- a block that was made of one element reads as that element -/
theorem Rd.one {α : Type} {f : α → Value} (w : World) (e : TypeId) (x : α) : Rd f (w.alloc (.cells #[f x] e)) (w.heap.size + 1) (some ⟨w.heap.size, 0, none⟩) 1 1 [x] := by
  refine ⟨rfl, Nat.le_refl _, fun j hj => ⟨_, _, rfl, by omega, ?_⟩⟩
  have : j = 0 := by simp at hj; omega
  subst this
  rw [cell_of_row _ _ _ _ _ _ (heap_alloc_new w _)]
  simp

theorem oneCell_bv (x : UInt8) : (bv x).oneCell' = true := rfl
theorem oneCell_iv (x : Int) : (iv x).oneCell' = true := rfl

section
variable {P : Program} (w : World)
theorem run_app {α : Type} {f : α → Value} (hone : ∀ x, (f x).oneCell' = true) (base : Nat) (t ty e : TypeId) (i : TypeInfo) (z : Value) (bytes : Nat)
    (ht : P.underlying t = some (.slice e)) (hi : P.info? e = some i) (hz : i.zero = some z) (hsize : i.size = 1) (hby : i.bytes = bytes) (hzs : z.cells.size = 1)
    (A : Option Addr) (n c : Nat) (xs : List α) (hown : Own f w base e A n c xs) (B : Nat) (A2 : Option Addr) (m c2 : Nat) (ys : List α) (hr : Rd f w B A2 m c2 ys)
    (h63 : n + m ≤ maxLen) (hbytes : (n + m) * bytes ≤ 140737488355328) (hbase : base ≤ w.heap.size) :
    ∃ A' c' w', (Builtin.append_ #[t, t] ty #[.slice A n c, .slice A2 m c2]).run P w = .ok (.slice A' (n + m) c') w' ∧ Own f w' base e A' (n + m) c' (xs ++ ys) ∧ Below base w w' ∧ w.grownBy w' (Value.ownBlock (.slice A n c)) := by
  have hlt := hown.lt
  rcases A2 with _ | ad
  · have hm : m = 0 := by
      rcases Nat.eq_zero_or_pos m with h0 | h0
      · exact h0
      · obtain ⟨b, off, h, _⟩ := hr.at_ 0 (by have := hr.len; omega)
        cases h
    subst hm
    have hn : ys = [] := List.eq_nil_of_length_eq_zero hr.len
    subst hn
    refine ⟨A, c, w, ?_, by simpa using hown, Below.refl _ _, World.grownBy.refl w _⟩
    rcases hown.own.2 with ⟨hv, hn⟩ | ⟨g, cap, cur, hv, hb, hg, hnc, hcm, hs, ht'⟩
    · injection hv with h1 h2 h3
      subst h1; subst h2; subst h3
      simp [Builtin.append_, run_underlying ht, sizeOf, typeInfo, hi, Builtin.lenOf, Builtin.firstCells]
    · injection hv with h1 h2 h3
      subst h1; subst h3
      simp [Builtin.append_, run_underlying ht, sizeOf, typeInfo, hi, Builtin.lenOf, Builtin.firstCells, hnc, storeCells]
  · have hcells : ∀ j u, (ys.map f)[j]? = some u → w.cell? (ad.add j) = some u := by
      intro j u hu
      rw [List.getElem?_map] at hu
      rcases Nat.lt_or_ge j ys.length with hj | hj
      · obtain ⟨b, off, h, _, hc⟩ := hr.at_ j hj
        injection h with h
        subst h
        rw [List.getElem?_eq_getElem hj] at hu
        simp at hu
        subst hu
        have hadd : (⟨b, off, Option.none⟩ : Addr).add j = ⟨b, off + j, Option.none⟩ := by unfold Addr.add; split <;> simp_all
        rw [hadd]; exact hc
      · rw [List.getElem?_eq_none hj] at hu; cases hu
    obtain ⟨v', w', hrun, h2, h3, _⟩ := run_append_own_at (P := P) w base t ty e i z 1 bytes ht hi hz hsize hby hzs (by omega) (.slice A n c) n (xs.map f) hown.own ad m c2 (ys.map f)
      (by simp [hr.len]) hcells (by intro u hu; simp at hu; obtain ⟨x, _, rfl⟩ := hu; exact hone x) h63 hbytes hbase
    have hlen : (xs ++ ys).length = n + m := by simp [hown.len, hr.len]
    have hbel : Below base w w' := (Below.refl _ _).grown h3 hbase (fun k hk => (hlt k hk).1)
    rcases h2.2 with ⟨hv, hn⟩ | ⟨g, cap, cur, hv, hb, hg, hnc, hcm, hs, ht'⟩
    · subst hv
      refine ⟨none, 0, w', by rw [hrun, hn], ⟨by rw [List.map_append]; rw [hn] at h2 ⊢; exact h2, hlen⟩, hbel, h3⟩
    · subst hv
      exact ⟨some ⟨g, 0, none⟩, cap, w', hrun, ⟨by rw [List.map_append]; exact h2, hlen⟩, hbel, h3⟩

theorem wpList_app {α : Type} {f : α → Value} (hone : ∀ x, (f x).oneCell' = true) {ops : Array Oper} {rest : List Oper} {o : Oper} {a : Act} {Q : Exit → Act → World → Prop} (hgd : o.guard = none) (s x : Operand) (t : TypeId)
    (ho : o.op = .call { callee := .builtin .append, args := #[s, x], argTypes := #[t, t] })
    (base : Nat) (e : TypeId) (i : TypeInfo) (z : Value) (bytes : Nat)
    (ht : P.underlying t = some (.slice e)) (hi : P.info? e = some i) (hz : i.zero = some z) (hsize : i.size = 1) (hby : i.bytes = bytes) (hzs : z.cells.size = 1)
    (A : Option Addr) (n c : Nat) (xs : List α) (hs : a.eval s = .slice A n c) (hown : Own f w base e A n c xs)
    (B : Nat) (A2 : Option Addr) (m c2 : Nat) (ys : List α) (hx : a.eval x = .slice A2 m c2) (hr : Rd f w B A2 m c2 ys)
    (h63 : n + m ≤ maxLen) (hbytes : (n + m) * bytes ≤ 140737488355328) (hbase : base ≤ w.heap.size)
    (h : ∀ A' c' w', Own f w' base e A' (n + m) c' (xs ++ ys) → Below base w w' → w.grownBy w' (Value.ownBlock (.slice A n c)) → wpList P ops Q rest (a.put o.dst (.slice A' (n + m) c')) w') :
    wpList P ops Q (o :: rest) a w := by
  refine wpList_plain hgd fun K hK => ?_
  obtain ⟨A', c', w', hrun, h2, h3, h4⟩ := run_app (P := P) w hone base t o.type e i z bytes ht hi hz hsize hby hzs A n c xs hown B A2 m c2 ys hr h63 hbytes hbase
  unfold Oper.wp execOp
  simp only [ho, resolve, invoke, builtin, Sem.run_bind, Sem.run_pure, Result.andThen_ok, List.map_toArray, List.map_cons, List.map_nil, hs, hx, hrun]
  exact hK _ _ (h A' c' w' h2 h3 h4)
end

/-- the row of the table for bytes, for ints -/
theorem Try.infoU8 : (Try.prog.info? 5).map (fun i => (i.zero, i.size, i.bytes)) = some (some (.int .u8 0), 1, 1) := by kernel_rfl
theorem Try.infoInt : (Try.prog.info? 3).map (fun i => (i.zero, i.size, i.bytes)) = some (some (.int .i64 0), 1, 8) := by kernel_rfl

/-- what a call that makes a list answers: a slice of its own that reads as xs; nothing that was there has changed -/
def RetL {α : Type} (f : α → Value) (e : TypeId) (w : World) (xs : List α) (r : Ending) (w' : World) : Prop :=
  ∃ A n c, r = .returned (.slice A n c) ∧ Own f w' w.heap.size e A n c xs ∧ Below w.heap.size w w'

end Go.Proofs.Ythldppdkheclkaa
