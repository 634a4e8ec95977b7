/- From an argument as the row reads it to the words of the walks: writes, slices of writes. No law is claimed here. -/
import Derived.Test.YtkgccoghdalniaaFrame
import Derived.Test.YtkgccoghdalniaaPair
import Derived.Deep.Slices
import Derived.Deep.Fields
import Derived.Lib.SmallJoins
namespace Go.Proofs.Ytkgccoghdalniaa
open Go.ChangeShapes Go.WideShapes Go.ChangeAt Go.RowKit Go.Deep Go.Joins

theorem list_choose {α : Type} (P : Nat → α → Prop) (n : Nat) (h : ∀ i, i < n → ∃ x, P i x) : ∃ xs : List α, xs.length = n ∧ ∀ i, (hi : i < xs.length) → P i xs[i] := by
  induction n with
  | zero => exact ⟨[], rfl, fun i hi => absurd hi (by simp)⟩
  | succ n ih =>
    obtain ⟨xs, hl, hx⟩ := ih (fun i hi => h i (by omega))
    obtain ⟨x, hp⟩ := h n (by omega)
    refine ⟨xs ++ [x], by simp [hl], fun i hi => ?_⟩
    rcases Nat.lt_or_ge i n with h1 | h1
    · rw [List.getElem_append_left (by omega)]; exact hx i (by omega)
    · have : i = n := by simp at hi; omega
      subst this
      rw [List.getElem_append_right (by omega)]
      simpa [hl] using hp

/-- a slice that came in, its elements by a shape -/
theorem openX {H : Type} {enc : TypeId × Value → H} {P : Program} {W : World} {ρ α : Type} (T : Shape ρ α) (Q : α → Prop) {t e : TypeId} (ht : P.underlying t = some (.slice e)) (hC : P.cellsOf e = T.k)
    (hel : ∀ n cs x, DataW.trod enc P W 0 (fun _ => true) true n e cs = some x → ∃ (r : ρ) (y : α), cs = T.raw r ∧ T.Ok W (· < W.heap.size) r y ∧ Q y)
    {fuel : Nat} {cs : List Value} {x : DataW H × List MemPlace} (h : DataW.trod enc P W 0 (fun _ => true) true fuel t cs = some x) :
    ∃ a n c xs, cs = [.slice a n c] ∧ RdX T W (· < W.heap.size) a n c xs ∧ c ≤ maxLen ∧ ∀ y ∈ xs, Q y := by
  rcases open_slice ht h with ⟨rfl, _⟩ | ⟨a, len, cap, m, n, D, Pl, rfl, _, hl, hm, hmm, _, hi⟩
  · exact ⟨none, 0, 0, [], rfl, RdX.nil, by simp [maxLen], by simp⟩
  · simp only [if_true] at hmm
    subst hmm
    obtain ⟨rs, hrl, hr⟩ := list_choose (fun i (ry : ρ × α) => W.cells? 0 (a.add (i * P.cellsOf e)) (P.cellsOf e) = some (T.raw ry.1) ∧ T.Ok W (· < W.heap.size) ry.1 ry.2 ∧ Q ry.2) len (fun i him => by
      obtain ⟨cs', hc, ht'⟩ := hi i (by omega)
      obtain ⟨r, y, rfl, hok, hq⟩ := hel _ _ _ ht'
      exact ⟨(r, y), hc, hok, hq⟩)
    refine ⟨some a, len, m, rs.map (·.2), rfl, ⟨by simp [hrl], hl, fun j hj => ?_⟩, hm, fun y hy => ?_⟩
    · have hj' : j < rs.length := by simpa using hj
      obtain ⟨hc, hok, _⟩ := hr j hj'
      obtain ⟨_, _, hat⟩ := World.cells?_some hc
      rw [hC] at hat
      have hpos := T.pos
      have hz0 : 0 < rs.length := by omega
      obtain ⟨hcz, _, _⟩ := hr 0 hz0
      obtain ⟨_, _, hatz⟩ := World.cells?_some hcz
      have hz := hatz 0 (by rw [hC]; exact hpos)
      rw [List.getElem?_eq_getElem (by rw [T.len]; exact hpos), Nat.zero_mul, Go.Deep.add_add] at hz
      obtain ⟨b, off, rfl⟩ := addr_none hz
      rw [addr_add] at hz
      refine ⟨b, off, rfl, World.block_lt_of_cell? W _ hz, rs[j].1, fun i u hu => ?_, by simpa using hok⟩
      have hik : i < T.k := by
        rcases Nat.lt_or_ge i T.k with hh | hh
        · exact hh
        · rw [List.getElem?_eq_none (by rw [T.len]; exact hh)] at hu; cases hu
      have := hat i hik
      rw [hu, Go.Deep.add_add, addr_add] at this
      rw [Nat.add_assoc]
      exact this
    · simp at hy
      obtain ⟨r, hry⟩ := hy
      obtain ⟨i, hi', he⟩ := List.getElem_of_mem hry
      have := (hr i hi').2.2
      rw [he] at this
      exact this

set_option maxRecDepth 100000 in
set_option maxHeartbeats 400000 in
theorem cells_bytes {H : Type} {enc : TypeId × Value → H} {W : World} {fuel : Nat} {cs : List Value} {x : DataW H × List MemPlace} (h : DataW.trod enc Try.prog W 0 (fun _ => true) true fuel 23 cs = some x) :
    ∃ a n c xs, cs = [.slice a n c] ∧ Rd bv W W.heap.size a n c xs ∧ c ≤ maxLen := by
  rcases open_ints Try.underlying23 Try.underlying5 (by kernel_rfl) h with ⟨rfl, _⟩ | ⟨a, l, c, zs, rfl, _⟩
  · exact ⟨none, 0, 0, [], rfl, Rd.nil, by simp [maxLen]⟩
  · obtain ⟨d, p⟩ := x
    obtain ⟨xs, hr, hm⟩ := rd_bytes (a := some a) (n := l) (c := c) Try.underlying23 Try.underlying5 (by kernel_rfl) ⟨fuel, h⟩
    exact ⟨some a, l, c, xs, rfl, hr, hm⟩

def plB (y : Wm) : Prop := 0 ≤ y.pl ∧ y.pl < 4294967296 ∧ y.data.length ≤ 9223372036854775807

set_option maxRecDepth 100000 in
set_option maxHeartbeats 400000 in
theorem open_write {H : Type} {enc : TypeId × Value → H} {W : World} (fuel : Nat) (cs : List Value) (x : DataW H × List MemPlace) (h : DataW.trod enc Try.prog W 0 (fun _ => true) true fuel 44 cs = some x) :
    ∃ (r : RawW) (y : Wm), cs = (shW .u8 .u32).raw r ∧ (shW .u8 .u32).Ok W (· < W.heap.size) r y ∧ plB y := by
  obtain ⟨ys, n, _, _, hlen, hyl, hf⟩ := DataW.trod_struct Try.underlying44 h
  have c1 : Try.prog.cellsOf 5 = 1 := by kernel_rfl
  have c2 : Try.prog.cellsOf 42 = 1 := by kernel_rfl
  have c3 : Try.prog.cellsOf 23 = 1 := by kernel_rfl
  have c4 : Try.prog.cellsOf 44 = 3 := by kernel_rfl
  rw [c4] at hlen
  have h0 := hf 0 _ rfl
  have h1 := hf 1 _ rfl
  have h2 := hf 2 _ rfl
  have hyl' : ys.length = 3 := hyl
  match cs, hlen, ys, hyl' with
  | [v0, v1, v2], _, [y0, y1, y2], _ =>
    have e0 : DataW.trod enc Try.prog W 0 (fun _ => true) true n 5 [v0] = some y0 := by simpa [c1] using h0
    have e1 : DataW.trod enc Try.prog W 0 (fun _ => true) true n 42 [v1] = some y1 := by simpa [c2] using h1
    have e2 : DataW.trod enc Try.prog W 0 (fun _ => true) true n 23 [v2] = some y2 := by simpa [c3] using h2
    obtain ⟨z0, q0, _, w0⟩ := DataW.trod_int Try.underlying5 e0
    obtain ⟨z1, q1, _, w1⟩ := DataW.trod_int Try.underlying42 e1
    obtain ⟨a, m, c, xs, q2, hr, hm⟩ := cells_bytes e2
    simp at q0 q1 q2
    subst q0; subst q1; subst q2
    have b0 := bounds_u8 w0
    have b1 := bounds_u32 w1
    have ez : ((UInt8.ofNat z0.toNat).toNat : Int) = z0 := by rw [UInt8.toNat_ofNat']; omega
    refine ⟨⟨UInt8.ofNat z0.toNat, z1, a, m, c⟩, ⟨UInt8.ofNat z0.toNat, z1, xs⟩, ?_, ⟨rfl, rfl, hr.rdp⟩, by show 0 ≤ z1; omega, by show z1 < _; omega, by show xs.length ≤ _; have h1 := hr.len; have h2 := hr.cap; unfold maxLen at hm; omega⟩
    show _ = [Value.int .u8 _, Value.int .u32 _, Value.slice a m c]
    rw [ez]

set_option maxRecDepth 100000 in
set_option maxHeartbeats 400000 in
/-- a write that came in by value -/
theorem arg_write {H : Type} {enc : TypeId × Value → H} {W : World} {v : Value} {d : DataW H} {p : List MemPlace} {r : Reach} {b0 : Nat} (hv : Value.okWide Try.prog W r b0 44 v)
    (h : DataW.Trod enc Try.prog W 0 (fun _ => true) true 44 v d p) :
    ∃ (s : UInt8) (a : Int) (A : Option Addr) (n c : Nat), v = .agg #[.int .u8 (s.toNat : Int), .int .u32 a, .slice A n c] ∧ 0 ≤ a ∧ a < 4294967296 := by
  obtain ⟨cs, rfl, hsz⟩ := okWide_struct Try.underlying44 hv
  obtain ⟨fuel, hf⟩ := h
  obtain ⟨r, y, hc, ⟨_, h2, _⟩, h3⟩ := open_write fuel _ _ hf
  obtain ⟨l⟩ := cs
  simp [Value.cells] at hc
  subst hc
  exact ⟨r.side, r.pl, r.A, r.n, r.c, rfl, by rw [h2]; exact h3.1, by rw [h2]; exact h3.2.1⟩

set_option maxRecDepth 100000 in
set_option maxHeartbeats 400000 in
/-- a slice of writes that came in -/
theorem rd_writes {H : Type} {enc : TypeId × Value → H} {W : World} {a : Option Addr} {n c : Nat} {d : DataW H} {p : List MemPlace} (h : DataW.Trod enc Try.prog W 0 (fun _ => true) true 37 (.slice a n c) d p) :
    ∃ ws : List Wm, RdX (shW .u8 .u32) W (· < W.heap.size) a n c ws ∧ c ≤ maxLen ∧ ∀ y ∈ ws, plB y := by
  obtain ⟨fuel, hf⟩ := h
  obtain ⟨a', n', c', xs, e, hr, hm, hq⟩ := openX (shW .u8 .u32) plB Try.underlying37 (by kernel_rfl) open_write hf
  simp [Value.cells] at e
  obtain ⟨rfl, rfl, rfl⟩ := e
  exact ⟨xs, hr, hm, hq⟩

/-- a slice of slices of writes that came in -/
def plL (ws : List Wm) : Prop := (∀ y ∈ ws, plB y) ∧ ws.length ≤ 9223372036854775807
end Go.Proofs.Ytkgccoghdalniaa
