/- A file as an argument by value. No law is claimed here. -/
import Derived.Test.YtdefkajjpilicaaFrameF
namespace Go.Proofs.Ytdefkajjpilicaa
open Go.ChangeShapes Go.WideShapes Go.ChangeAt Go.RowKit

set_option maxRecDepth 100000 in
set_option maxHeartbeats 400000 in
/-- a file that came in by value -/
theorem arg_file {H : Type} {enc : TypeId × Value → H} {W : World} {v : Value} {d : DataW H} {p : List MemPlace} {r : Reach} {b0 : Nat} (hv : Value.okWide Try.prog W r b0 54 v)
    (h : DataW.Trod enc Try.prog W 0 (fun _ => true) true 54 v d p) :
    ∃ (number id kind : UInt8) (name : ByteArray) (ad : Int) (A : Option Addr) (n c : Nat) (xs : List UInt8), v = .agg #[.int .u8 (number.toNat : Int), .int .u8 (id.toNat : Int), .int .u8 (kind.toNat : Int), .string name, .int .u16 ad, .slice A n c] ∧
      Rd bv W W.heap.size A n c xs ∧ n ≤ 9223372036854775807 ∧ name.size ≤ 9223372036854775807 ∧ 0 ≤ ad ∧ ad < 65536 := by
  obtain ⟨cs, rfl, _⟩ := okWide_struct Try.underlying54 hv
  obtain ⟨fuel, hf⟩ := h
  obtain ⟨r, y, hc, ⟨_, _, _, h4, h5, h6⟩, h7⟩ := open_file fuel _ _ hf
  obtain ⟨l⟩ := cs
  simp [Value.cells] at hc
  subst hc
  exact ⟨r.number, r.id, r.kind, r.name, r.address, r.A, r.n, r.c, y.data, rfl, h6.rd (fun b h => h), by rw [← h6.len]; exact h7.2.2.2, by rw [h4]; exact h7.1, by rw [h5]; exact h7.2.1, by rw [h5]; exact h7.2.2.1⟩

end Go.Proofs.Ytdefkajjpilicaa
