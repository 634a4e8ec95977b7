/- A slice of structs that came in, by a shape. No law is claimed here. -/
import Derived.Test.YtdbfdhfdfjdnoaaFrame
import Derived.Test.YtdbfdhfdfjdnoaaK1
import Derived.Deep.Slices
import Derived.Deep.Fields
import Derived.Lib.SmallJoins
namespace Go.Proofs.Ytdbfdhfdfjdnoaa
open Go.ChangeShapes Go.WideShapes Go.ChangeAt Go.RowKit Go.Deep Go.Joins

theorem list_choose {α : Type} (P : Nat → α → Prop) (n : Nat) (h : ∀ i, i < n → ∃ x, P i x) : ∃ xs : List α, xs.length = n ∧ ∀ i, (hi : i < xs.length) → P i xs[i] := by
  induction n with
  | zero => exact ⟨[], rfl, fun i hi => absurd hi (by simp)⟩
  | succ n ih =>
    obtain ⟨xs, hl, hx⟩ := ih (fun i hi => h i (by omega))
    obtain ⟨x, hp⟩ := h n (by omega)
    refine ⟨xs ++ [x], by simp [hl], fun i hi => ?_⟩
    rcases Nat.lt_or_ge i n with h1 | h1
    · rw [List.getElem_append_left (by omega)]; exact hx i (by omega)
    · have : i = n := by simp at hi; omega
      subst this
      rw [List.getElem_append_right (by omega)]
      simpa [hl] using hp

/-- a slice that came in, its elements by a shape -/
theorem openX {H : Type} {enc : TypeId × Value → H} {P : Program} {W : World} {ρ α : Type} (T : Shape ρ α) (Q : α → Prop) {t e : TypeId} (ht : P.underlying t = some (.slice e)) (hC : P.cellsOf e = T.k)
    (hel : ∀ n cs x, DataW.trod enc P W 0 (fun _ => true) true n e cs = some x → ∃ (r : ρ) (y : α), cs = T.raw r ∧ T.Ok W (· < W.heap.size) r y ∧ Q y)
    {fuel : Nat} {cs : List Value} {x : DataW H × List MemPlace} (h : DataW.trod enc P W 0 (fun _ => true) true fuel t cs = some x) :
    ∃ a n c xs, cs = [.slice a n c] ∧ RdX T W (· < W.heap.size) a n c xs ∧ c ≤ maxLen ∧ ∀ y ∈ xs, Q y := by
  rcases open_slice ht h with ⟨rfl, _⟩ | ⟨a, len, cap, m, n, D, Pl, rfl, _, hl, hm, hmm, _, hi⟩
  · exact ⟨none, 0, 0, [], rfl, RdX.nil, by simp [maxLen], by simp⟩
  · simp only [if_true] at hmm
    subst hmm
    obtain ⟨rs, hrl, hr⟩ := list_choose (fun i (ry : ρ × α) => W.cells? 0 (a.add (i * P.cellsOf e)) (P.cellsOf e) = some (T.raw ry.1) ∧ T.Ok W (· < W.heap.size) ry.1 ry.2 ∧ Q ry.2) len (fun i him => by
      obtain ⟨cs', hc, ht'⟩ := hi i (by omega)
      obtain ⟨r, y, rfl, hok, hq⟩ := hel _ _ _ ht'
      exact ⟨(r, y), hc, hok, hq⟩)
    refine ⟨some a, len, m, rs.map (·.2), rfl, ⟨by simp [hrl], hl, fun j hj => ?_⟩, hm, fun y hy => ?_⟩
    · have hj' : j < rs.length := by simpa using hj
      obtain ⟨hc, hok, _⟩ := hr j hj'
      obtain ⟨_, _, hat⟩ := World.cells?_some hc
      rw [hC] at hat
      have hpos := T.pos
      have hz0 : 0 < rs.length := by omega
      obtain ⟨hcz, _, _⟩ := hr 0 hz0
      obtain ⟨_, _, hatz⟩ := World.cells?_some hcz
      have hz := hatz 0 (by rw [hC]; exact hpos)
      rw [List.getElem?_eq_getElem (by rw [T.len]; exact hpos), Nat.zero_mul, Go.Deep.add_add] at hz
      obtain ⟨b, off, rfl⟩ := addr_none hz
      rw [addr_add] at hz
      refine ⟨b, off, rfl, World.block_lt_of_cell? W _ hz, rs[j].1, fun i u hu => ?_, by simpa using hok⟩
      have hik : i < T.k := by
        rcases Nat.lt_or_ge i T.k with hh | hh
        · exact hh
        · rw [List.getElem?_eq_none (by rw [T.len]; exact hh)] at hu; cases hu
      have := hat i hik
      rw [hu, Go.Deep.add_add, addr_add] at this
      rw [Nat.add_assoc]
      exact this
    · simp at hy
      obtain ⟨r, hry⟩ := hy
      obtain ⟨i, hi', he⟩ := List.getElem_of_mem hry
      have := (hr i hi').2.2
      rw [he] at this
      exact this

end Go.Proofs.Ytdbfdhfdfjdnoaa
