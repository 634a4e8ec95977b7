/- From an argument as the row reads it to the words of the walks: files of layer 5, slices of files. No law is claimed here. -/
import Derived.Test.YtdefkajjpilicaaFrame
import Derived.Test.YtdefkajjpilicaaBlk11
import Derived.Test.YtdefkajjpilicaaK4
import Derived.Deep.Slices
import Derived.Deep.Fields
import Derived.Lib.SmallJoins
namespace Go.Proofs.Ytdefkajjpilicaa
open Go.ChangeShapes Go.WideShapes Go.ChangeAt Go.RowKit Go.Deep Go.Joins

/-- a slice that came in, its elements by a shape -/
theorem openX {H : Type} {enc : TypeId × Value → H} {P : Program} {W : World} {ρ α : Type} (T : Shape ρ α) (Q : α → Prop) {t e : TypeId} (ht : P.underlying t = some (.slice e)) (hC : P.cellsOf e = T.k)
    (hel : ∀ n cs x, DataW.trod enc P W 0 (fun _ => true) true n e cs = some x → ∃ (r : ρ) (y : α), cs = T.raw r ∧ T.Ok W (· < W.heap.size) r y ∧ Q y)
    {fuel : Nat} {cs : List Value} {x : DataW H × List MemPlace} (h : DataW.trod enc P W 0 (fun _ => true) true fuel t cs = some x) :
    ∃ a n c xs, cs = [.slice a n c] ∧ RdX T W (· < W.heap.size) a n c xs ∧ c ≤ maxLen ∧ ∀ y ∈ xs, Q y := by
  rcases open_slice ht h with ⟨rfl, _⟩ | ⟨a, len, cap, m, n, D, Pl, rfl, _, hl, hm, hmm, _, hi⟩
  · exact ⟨none, 0, 0, [], rfl, RdX.nil, by simp [maxLen], by simp⟩
  · simp only [if_true] at hmm
    subst hmm
    obtain ⟨rs, hrl, hr⟩ := list_pick (fun i (ry : ρ × α) => W.cells? 0 (a.add (i * P.cellsOf e)) (P.cellsOf e) = some (T.raw ry.1) ∧ T.Ok W (· < W.heap.size) ry.1 ry.2 ∧ Q ry.2) len (fun i him => by
      obtain ⟨cs', hc, ht'⟩ := hi i (by omega)
      obtain ⟨r, y, rfl, hok, hq⟩ := hel _ _ _ ht'
      exact ⟨(r, y), hc, hok, hq⟩)
    refine ⟨some a, len, m, rs.map (·.2), rfl, ⟨by simp [hrl], hl, fun j hj => ?_⟩, hm, fun y hy => ?_⟩
    · have hj' : j < rs.length := by simpa using hj
      obtain ⟨hc, hok, _⟩ := hr j hj'
      obtain ⟨_, _, hat⟩ := World.cells?_some hc
      rw [hC] at hat
      have hpos := T.pos
      have hz0 : 0 < rs.length := by omega
      obtain ⟨hcz, _, _⟩ := hr 0 hz0
      obtain ⟨_, _, hatz⟩ := World.cells?_some hcz
      have hz := hatz 0 (by rw [hC]; exact hpos)
      rw [List.getElem?_eq_getElem (by rw [T.len]; exact hpos), Nat.zero_mul, Go.Deep.add_add] at hz
      obtain ⟨b, off, rfl⟩ := addr_none hz
      rw [addr_add] at hz
      refine ⟨b, off, rfl, World.block_lt_of_cell? W _ hz, rs[j].1, fun i u hu => ?_, by simpa using hok⟩
      have hik : i < T.k := by
        rcases Nat.lt_or_ge i T.k with hh | hh
        · exact hh
        · rw [List.getElem?_eq_none (by rw [T.len]; exact hh)] at hu; cases hu
      have := hat i hik
      rw [hu, Go.Deep.add_add, addr_add] at this
      rw [Nat.add_assoc]
      exact this
    · simp at hy
      obtain ⟨r, hry⟩ := hy
      obtain ⟨i, hi', he⟩ := List.getElem_of_mem hry
      have := (hr i hi').2.2
      rw [he] at this
      exact this

set_option maxRecDepth 100000 in
set_option maxHeartbeats 400000 in
theorem cells_bytes {H : Type} {enc : TypeId × Value → H} {W : World} {fuel : Nat} {cs : List Value} {x : DataW H × List MemPlace} (h : DataW.trod enc Try.prog W 0 (fun _ => true) true fuel 24 cs = some x) :
    ∃ a n c xs, cs = [.slice a n c] ∧ Rd bv W W.heap.size a n c xs ∧ c ≤ maxLen := by
  rcases open_ints Try.underlying24 Try.underlying5 (by kernel_rfl) h with ⟨rfl, _⟩ | ⟨a, l, c, zs, rfl, _⟩
  · exact ⟨none, 0, 0, [], rfl, Rd.nil, by simp [maxLen]⟩
  · obtain ⟨d, p⟩ := x
    obtain ⟨xs, hr, hm⟩ := rd_bytes (a := some a) (n := l) (c := c) Try.underlying24 Try.underlying5 (by kernel_rfl) ⟨fuel, h⟩
    exact ⟨some a, l, c, xs, rfl, hr, hm⟩

set_option maxRecDepth 100000 in
set_option maxHeartbeats 400000 in
theorem open_file {H : Type} {enc : TypeId × Value → H} {W : World} (fuel : Nat) (cs : List Value) (x : DataW H × List MemPlace) (h : DataW.trod enc Try.prog W 0 (fun _ => true) true fuel 54 cs = some x) :
    ∃ (r : RawF) (y : Fm), cs = shF.raw r ∧ shF.Ok W (· < W.heap.size) r y ∧ okF y := by
  obtain ⟨ys, n, _, _, hlen, hyl, hf⟩ := DataW.trod_struct Try.underlying54 h
  have c1 : Try.prog.cellsOf 5 = 1 := by kernel_rfl
  have c2 : Try.prog.cellsOf 9 = 1 := by kernel_rfl
  have c3 : Try.prog.cellsOf 52 = 1 := by kernel_rfl
  have c4 : Try.prog.cellsOf 24 = 1 := by kernel_rfl
  have c5 : Try.prog.cellsOf 54 = 6 := by kernel_rfl
  rw [c5] at hlen
  have h0 := hf 0 _ rfl
  have h1 := hf 1 _ rfl
  have h2 := hf 2 _ rfl
  have h3 := hf 3 _ rfl
  have h4 := hf 4 _ rfl
  have h5 := hf 5 _ rfl
  have hyl' : ys.length = 6 := hyl
  match cs, hlen, ys, hyl' with
  | [v0, v1, v2, v3, v4, v5], _, [y0, y1, y2, y3, y4, y5], _ =>
    have e0 : DataW.trod enc Try.prog W 0 (fun _ => true) true n 5 [v0] = some y0 := by simpa [c1] using h0
    have e1 : DataW.trod enc Try.prog W 0 (fun _ => true) true n 5 [v1] = some y1 := by simpa [c1] using h1
    have e2 : DataW.trod enc Try.prog W 0 (fun _ => true) true n 5 [v2] = some y2 := by simpa [c1] using h2
    have e3 : DataW.trod enc Try.prog W 0 (fun _ => true) true n 9 [v3] = some y3 := by simpa [c2] using h3
    have e4 : DataW.trod enc Try.prog W 0 (fun _ => true) true n 52 [v4] = some y4 := by simpa [c3] using h4
    have e5 : DataW.trod enc Try.prog W 0 (fun _ => true) true n 24 [v5] = some y5 := by simpa [c4] using h5
    obtain ⟨z0, q0, _, w0⟩ := DataW.trod_int Try.underlying5 e0
    obtain ⟨z1, q1, _, w1⟩ := DataW.trod_int Try.underlying5 e1
    obtain ⟨z2, q2, _, w2⟩ := DataW.trod_int Try.underlying5 e2
    obtain ⟨z3, q3, _, w3⟩ := DataW.trod_string Try.underlying9 e3
    obtain ⟨z4, q4, _, w4⟩ := DataW.trod_int Try.underlying52 e4
    obtain ⟨a, m, c, xs, q5, hr, hm⟩ := cells_bytes e5
    simp at q0 q1 q2 q3 q4 q5
    subst q0; subst q1; subst q2; subst q3; subst q4; subst q5
    have b0 := bounds_u8 w0
    have b1 := bounds_u8 w1
    have b2 := bounds_u8 w2
    have b4 := bounds_u16 w4
    have ez : ∀ z : Int, 0 ≤ z → z < 256 → ((UInt8.ofNat z.toNat).toNat : Int) = z := fun z h0 h1 => by rw [UInt8.toNat_ofNat']; omega
    refine ⟨⟨UInt8.ofNat z0.toNat, UInt8.ofNat z1.toNat, UInt8.ofNat z2.toNat, z3, z4, a, m, c⟩, ⟨UInt8.ofNat z0.toNat, UInt8.ofNat z1.toNat, UInt8.ofNat z2.toNat, z3, z4, xs⟩, ?_, ⟨rfl, rfl, rfl, rfl, rfl, hr.rdp⟩, ?_, by show 0 ≤ z4; omega, by show z4 < _; omega, by show xs.length ≤ _; have h1 := hr.len; have h2 := hr.cap; unfold maxLen at hm; omega⟩
    · show _ = [Value.int .u8 _, Value.int .u8 _, Value.int .u8 _, Value.string z3, Value.int .u16 _, Value.slice a m c]
      rw [ez _ (by omega) (by omega), ez _ (by omega) (by omega), ez _ (by omega) (by omega)]
    · exact w3

set_option maxRecDepth 100000 in
set_option maxHeartbeats 400000 in
/-- a slice of files that came in -/
theorem rd_files {H : Type} {enc : TypeId × Value → H} {W : World} {a : Option Addr} {n c : Nat} {d : DataW H} {p : List MemPlace} (h : DataW.Trod enc Try.prog W 0 (fun _ => true) true 22 (.slice a n c) d p) :
    ∃ fs : List Fm, RdX shF W (· < W.heap.size) a n c fs ∧ c ≤ maxLen ∧ ∀ y ∈ fs, okF y := by
  obtain ⟨fuel, hf⟩ := h
  obtain ⟨a', n', c', xs, e, hr, hm, hq⟩ := openX shF okF Try.underlying22 (by kernel_rfl) open_file hf
  simp [Value.cells] at e
  obtain ⟨rfl, rfl, rfl⟩ := e
  exact ⟨xs, hr, hm, hq⟩

end Go.Proofs.Ytdefkajjpilicaa
