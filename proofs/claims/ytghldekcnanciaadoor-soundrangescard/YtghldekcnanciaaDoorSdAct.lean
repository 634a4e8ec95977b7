/- Acts of layer 12: their shape. No law is claimed here. -/
import Derived.Test.YtghldekcnanciaaDoorFrameX
import Derived.Test.YtghldekcnanciaaDoorSd9
namespace Go.Proofs.YtghldekcnanciaaDoor
open Go.ChangeShapes Go.WideShapes Go.ChangeAt Go.RowKit Go.Deep Go.Joins

/-- an act: what to do, a register, a byte, how often -/
structure A4 where
  d : Int
  r : Int
  b : Int
  n : Int
def okA4 (y : A4) : Prop := (0 ≤ y.d ∧ y.d < 256) ∧ (0 ≤ y.r ∧ y.r < 65536) ∧ (0 ≤ y.b ∧ y.b < 256) ∧ (0 ≤ y.n ∧ y.n < 65536)
def shA4 : Shape A4 A4 where
  k := 4
  raw y := [.int .u8 y.d, .int .u16 y.r, .int .u8 y.b, .int .u16 y.n]
  Ok _ _ r y := r = y
  pos := by omega
  len _ := rfl
  one r u h := by simp at h; rcases h with rfl | rfl | rfl | rfl <;> rfl
  keep h _ _ := h
theorem rdA4_at {w : World} {S : Nat → Prop} {A : Option Addr} {n c : Nat} {l : List A4} (h : RdX shA4 w S A n c l) (j : Nat) (hj : j < l.length) :
    ∃ b off, A = some ⟨b, off, none⟩ ∧ S b ∧ w.cell? ⟨b, off + j * 4, none⟩ = some (.int .u8 l[j].d) ∧ w.cell? ⟨b, off + j * 4 + 1, none⟩ = some (.int .u16 l[j].r) ∧
      w.cell? ⟨b, off + j * 4 + 2, none⟩ = some (.int .u8 l[j].b) ∧ w.cell? ⟨b, off + j * 4 + 3, none⟩ = some (.int .u16 l[j].n) := by
  obtain ⟨b, off, e, hb, r, hc, ho⟩ := h.at_ j hj
  have ho' : r = l[j] := ho
  subst ho'
  exact ⟨b, off, e, hb, hc 0 _ rfl, hc 1 _ rfl, hc 2 _ rfl, hc 3 _ rfl⟩

set_option maxRecDepth 100000 in
set_option maxHeartbeats 400000 in
theorem open_a4 {H : Type} {enc : TypeId × Value → H} {W : World} (fuel : Nat) (cs : List Value) (x : DataW H × List MemPlace) (h : DataW.trod enc Tryd.prog W 0 (fun _ => true) true fuel 30 cs = some x) :
    ∃ (r : A4) (y : A4), cs = shA4.raw r ∧ shA4.Ok W (· < W.heap.size) r y ∧ okA4 y := by
  obtain ⟨ys, n, _, _, hlen, hyl, hf⟩ := DataW.trod_struct Tryd.underlying30 h
  have c1 : Tryd.prog.cellsOf 5 = 1 := by kernel_rfl
  have c2 : Tryd.prog.cellsOf 28 = 1 := by kernel_rfl
  have c4 : Tryd.prog.cellsOf 30 = 4 := by kernel_rfl
  rw [c4] at hlen
  have h0 := hf 0 _ rfl
  have h1 := hf 1 _ rfl
  have h2 := hf 2 _ rfl
  have h3 := hf 3 _ rfl
  have hyl' : ys.length = 4 := hyl
  match cs, hlen, ys, hyl' with
  | [v0, v1, v2, v3], _, [y0, y1, y2, y3], _ =>
    have e0 : DataW.trod enc Tryd.prog W 0 (fun _ => true) true n 5 [v0] = some y0 := by simpa [c1] using h0
    have e1 : DataW.trod enc Tryd.prog W 0 (fun _ => true) true n 28 [v1] = some y1 := by simpa [c2] using h1
    have e2 : DataW.trod enc Tryd.prog W 0 (fun _ => true) true n 5 [v2] = some y2 := by simpa [c1] using h2
    have e3 : DataW.trod enc Tryd.prog W 0 (fun _ => true) true n 28 [v3] = some y3 := by simpa [c2] using h3
    obtain ⟨z0, q0, _, w0⟩ := DataW.trod_int Tryd.underlying5 e0
    obtain ⟨z1, q1, _, w1⟩ := DataW.trod_int Tryd.underlying28 e1
    obtain ⟨z2, q2, _, w2⟩ := DataW.trod_int Tryd.underlying5 e2
    obtain ⟨z3, q3, _, w3⟩ := DataW.trod_int Tryd.underlying28 e3
    simp at q0 q1 q2 q3
    subst q0; subst q1; subst q2; subst q3
    have b0 := bounds_u8 w0
    have b1 := bounds_u16 w1
    have b2 := bounds_u8 w2
    have b3 := bounds_u16 w3
    exact ⟨⟨z0, z1, z2, z3⟩, ⟨z0, z1, z2, z3⟩, rfl, rfl, ⟨by simp only; omega, by simp only; omega⟩, ⟨by simp only; omega, by simp only; omega⟩, ⟨by simp only; omega, by simp only; omega⟩, ⟨by simp only; omega, by simp only; omega⟩⟩

set_option maxRecDepth 100000 in
set_option maxHeartbeats 400000 in
theorem rd_acts {H : Type} {enc : TypeId × Value → H} {W : World} {a : Option Addr} {n c : Nat} {d : DataW H} {p : List MemPlace} (h : DataW.Trod enc Tryd.prog W 0 (fun _ => true) true 22 (.slice a n c) d p) :
    ∃ l : List A4, RdX shA4 W (· < W.heap.size) a n c l ∧ c ≤ maxLen ∧ ∀ y ∈ l, okA4 y := by
  obtain ⟨fuel, hf⟩ := h
  obtain ⟨a', n', c', xs, e, hr, hm, hq⟩ := openX shA4 okA4 Tryd.underlying22 (by kernel_rfl) open_a4 hf
  simp [Value.cells] at e
  obtain ⟨rfl, rfl, rfl⟩ := e
  exact ⟨xs, hr, hm, hq⟩

end Go.Proofs.YtghldekcnanciaaDoor
