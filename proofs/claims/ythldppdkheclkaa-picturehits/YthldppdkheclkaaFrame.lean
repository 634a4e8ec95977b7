/- From an argument as the row reads it to the words of the walks. No law is claimed here. -/
import Derived.Test.YthldppdkheclkaaBase
import Derived.ProofKit
import Derived.OpenShut
import Derived.ShutString
import Derived.ChangeOld
import Derived.Below
namespace Go.Proofs.Ythldppdkheclkaa
open Go.ChangeShapes Go.WideShapes Go.ChangeAt Go.RowKit

theorem Try.own : ownKnob Try.prog.godebug = none := by kernel_rfl
theorem Try.laidOut : laidOutB Try.prog = true := by kernel_rfl

theorem addr_none {w : World} {x : Addr} {v : Value} (h : w.cell? (x.add 0) = some v) : ∃ b off, x = ⟨b, off, none⟩ := by
  have := World.cell?_spot h
  obtain ⟨b, o, s⟩ := x
  have : s = none := by simpa [Addr.add] using this
  subst this
  exact ⟨b, o, rfl⟩
theorem addr_add (b off j : Nat) : (⟨b, off, none⟩ : Addr).add j = ⟨b, off + j, none⟩ := by
  unfold Addr.add; split <;> simp_all

/-- a slice of integers of kind k that came in reads as a list -/
theorem rd_ints {H : Type} {enc : TypeId × Value → H} {P : Program} {W : World} {t e : TypeId} {k : IntKind} {a : Option Addr} {n c : Nat} {d : DataW H} {p : List MemPlace}
    (ht : P.underlying t = some (.slice e)) (he : P.underlying e = some (.int k)) (hc : P.cellsOf e = 1)
    (h : DataW.Trod enc P W 0 (fun _ => true) true t (.slice a n c) d p) :
    ∃ zs : List Int, Rd (fun z => Value.int k z) W W.heap.size a n c zs ∧ c ≤ maxLen ∧ ∀ z ∈ zs, (Lit.int k z).wf = true := by
  obtain ⟨fuel, hf⟩ := h
  rcases open_ints ht he hc hf with ⟨hcs, _⟩ | ⟨x, l, c', zs, hcs, _, hl, hm, hz, _, hcell, hwz⟩
  · simp [Value.cells] at hcs
    obtain ⟨rfl, rfl, rfl⟩ := hcs
    exact ⟨[], Rd.nil, by simp [maxLen], by simp⟩
  · simp [Value.cells] at hcs
    obtain ⟨rfl, rfl, rfl⟩ := hcs
    simp only [if_true] at hz
    refine ⟨zs.take n, ⟨by simp; omega, hl, fun j hj => ?_⟩, hm, fun z hz' => hwz z (List.mem_of_mem_take hz')⟩
    have hj' : j < n := by simp at hj; omega
    have hcj := hcell j (by omega)
    obtain ⟨b, off, rfl⟩ := addr_none (hcell 0 (by omega))
    rw [addr_add] at hcj
    refine ⟨b, off, rfl, World.block_lt_of_cell? W _ hcj, ?_⟩
    rw [hcj]
    simp [List.getD, show j < zs.length from by omega]

theorem wf_u8 {z : Int} (h : (Lit.int .u8 z).wf = true) : 0 ≤ z ∧ z < 256 := by
  have := bounds_u8 h; omega

/-- a slice of bytes that came in -/
theorem rd_bytes {H : Type} {enc : TypeId × Value → H} {P : Program} {W : World} {t e : TypeId} {a : Option Addr} {n c : Nat} {d : DataW H} {p : List MemPlace}
    (ht : P.underlying t = some (.slice e)) (he : P.underlying e = some (.int .u8)) (hc : P.cellsOf e = 1)
    (h : DataW.Trod enc P W 0 (fun _ => true) true t (.slice a n c) d p) :
    ∃ xs : List UInt8, Rd bv W W.heap.size a n c xs ∧ c ≤ maxLen := by
  obtain ⟨zs, hr, hm, hw⟩ := rd_ints ht he hc h
  refine ⟨zs.map fun z => UInt8.ofNat z.toNat, ⟨by simpa using hr.len, hr.cap, fun j hj => ?_⟩, hm⟩
  have hj' : j < zs.length := by simpa using hj
  obtain ⟨b, off, e1, hb, hcell⟩ := hr.at_ j hj'
  refine ⟨b, off, e1, hb, ?_⟩
  have := wf_u8 (hw zs[j] (List.getElem_mem hj'))
  rw [hcell]
  simp only [bv, List.getElem_map]
  congr 2
  have : (UInt8.ofNat zs[j].toNat).toNat = zs[j].toNat := by rw [UInt8.toNat_ofNat']; omega
  rw [this]; omega

end Go.Proofs.Ythldppdkheclkaa
