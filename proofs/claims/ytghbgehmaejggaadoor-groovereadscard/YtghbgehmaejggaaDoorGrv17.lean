/- kotatsu/kotatsulaw07.GrooveLays: for every input the call returns true, and each argument reads afterwards as it read before, where unicode/utf8.acceptRanges and unicode/utf8.first hold what the row lists (the card ties that to the program's text and to Go's library; the call reads neither). No other condition. -/
import Derived.Test.YtghbgehmaejggaaDoorFrameX
import Derived.Test.YtghbgehmaejggaaDoorGrv16
import Derived.Test.YtghbgehmaejggaaDoorTie
import Derived.Test.YtghbgehmaejggaaDoorCards
import Derived.LaidMore
import Derived.Lay
import Derived.Stop.Joined
import Derived.SevenTiedAt
namespace Go.Proofs.YtghbgehmaejggaaDoor
open Go.ChangeShapes Go.WideShapes Go.ChangeAt Go.RowKit Go.Deep Go.Joins

set_option maxRecDepth 100000 in
set_option maxHeartbeats 400000 in
theorem cells_bytes {H : Type} {enc : TypeId × Value → H} {W : World} {fuel : Nat} {cs : List Value} {x : DataW H × List MemPlace} (h : DataW.trod enc Tryd.prog W 0 (fun _ => true) true fuel 22 cs = some x) :
    ∃ a n c xs, cs = [.slice a n c] ∧ Rd bv W W.heap.size a n c xs ∧ c ≤ maxLen := by
  rcases open_ints Tryd.underlying22 Tryd.underlying5 (by kernel_rfl) h with ⟨rfl, _⟩ | ⟨a, l, c, zs, rfl, _⟩
  · exact ⟨none, 0, 0, [], rfl, Rd.nil, by simp [maxLen]⟩
  · obtain ⟨d, p⟩ := x
    obtain ⟨xs, hr, hm⟩ := rd_bytes (a := some a) (n := l) (c := c) Tryd.underlying22 Tryd.underlying5 (by kernel_rfl) ⟨fuel, h⟩
    exact ⟨some a, l, c, xs, rfl, hr, hm⟩

/-- rows of bytes that came in -/
def lenOk (y : List UInt8) : Prop := y.length ≤ 9223372036854775807
set_option maxRecDepth 100000 in
set_option maxHeartbeats 400000 in
theorem rd_rows {H : Type} {enc : TypeId × Value → H} {W : World} {a : Option Addr} {n c : Nat} {d : DataW H} {p : List MemPlace} (h : DataW.Trod enc Tryd.prog W 0 (fun _ => true) true 23 (.slice a n c) d p) :
    ∃ l : List (List UInt8), RdX shS W (· < W.heap.size) a n c l ∧ c ≤ maxLen ∧ ∀ y ∈ l, lenOk y := by
  obtain ⟨fuel, hf⟩ := h
  obtain ⟨a', n', c', xs, e, hr, hm, hq⟩ := openX shS lenOk Tryd.underlying23 (by kernel_rfl) (fun n cs x hx => by
    obtain ⟨a1, n1, c1, ys, e1, hr1, hm1⟩ := cells_bytes hx
    exact ⟨(a1, n1, c1), ys, e1, hr1.rdp, by show ys.length ≤ _; have h1 := hr1.len; have h2 := hr1.cap; unfold maxLen at hm1; omega⟩) hf
  simp [Value.cells] at e
  obtain ⟨rfl, rfl, rfl⟩ := e
  exact ⟨xs, hr, hm, hq⟩

end Go.Proofs.YtghbgehmaejggaaDoor
