/- The picture unit: its copy, its dot; a nil unit. No law is claimed here. -/
import Derived.Test.YthldppdkheclkaaPc18
import Derived.Deep.WholeRow
set_option linter.unusedSimpArgs false
set_option linter.unusedVariables false
namespace Go.Proofs.Ythldppdkheclkaa
open Go.RowKit Go.Great

variable {w0 v0 v v' : World} {m : Nat} {A : Nat → Value} {c : PC}

theorem IsB.one {y : Value} (h : IsB y) : y.oneCell' = true := by obtain ⟨x, rfl, _⟩ := h; rfl
theorem Ty.one (h : Ty c A) (i : Nat) (hi : i < 72025) : (A i).oneCell' = true := by
  rcases (by omega : i < 10272 ∨ (10282 ≤ i ∧ i < 10538) ∨ (10538 ≤ i ∧ i < 10578) ∨ 10585 ≤ i ∨ i = 10272 ∨ i = 10273 ∨ i = 10274 ∨ i = 10275 ∨ i = 10276 ∨ i = 10277 ∨ i = 10278 ∨ i = 10279 ∨ i = 10280 ∨ i = 10281 ∨ i = 10578 ∨ i = 10579 ∨ i = 10580 ∨ i = 10581 ∨ i = 10582 ∨ i = 10583 ∨ i = 10584) with e | ⟨e, e'⟩ | ⟨e, e'⟩ | e | rfl | rfl | rfl | rfl | rfl | rfl | rfl | rfl | rfl | rfl | rfl | rfl | rfl | rfl | rfl | rfl | rfl
  · exact (h.mem i e).one
  · have := (h.sp (i - 10282) (by omega)).one
    rwa [show 10282 + (i - 10282) = i by omega] at this
  · obtain ⟨f, a, z, l, u, h0, h1, h2, h3, h4, h5⟩ := h.sel ((i - 10538) / 5) (by omega)
    rcases (by omega : i = 10538 + 5 * ((i - 10538) / 5) ∨ i = 10538 + 5 * ((i - 10538) / 5) + 1 ∨ i = 10538 + 5 * ((i - 10538) / 5) + 2 ∨ i = 10538 + 5 * ((i - 10538) / 5) + 3 ∨ i = 10538 + 5 * ((i - 10538) / 5) + 4) with k | k | k | k | k
    · rw [k, h0]; rfl
    · rw [k, h1]; rfl
    · rw [k, h2]; rfl
    · rw [k, h3]; rfl
    · rw [k, h4]; rfl
  · have := (h.rows (i - 10585) (by omega)).one
    rwa [show 10585 + (i - 10585) = i by omega] at this
  · rw [h.up]; rfl
  · rw [h.V]; rfl
  · rw [h.T]; rfl
  · rw [h.X]; rfl
  · rw [h.W]; rfl
  · rw [h.con]; rfl
  · rw [h.msk]; rfl
  · rw [h.bus]; rfl
  · rw [h.buf]; rfl
  · rw [h.ad]; rfl
  · rw [h.cnt]; rfl
  · rw [h.blank]; rfl
  · rw [h.hit]; rfl
  · rw [h.over]; rfl
  · rw [h.line]; rfl
  · rw [h.dot]; rfl
  · rw [h.fr]; rfl

set_option maxRecDepth 100000 in
set_option maxHeartbeats 2000000 in
theorem ST.copy (h : ST w0 v0 m A c v) :
    Calls Try.prog 35 #[.pointer (some ⟨m, 0, none⟩)] v fun e v' => e = .returned (.pointer (some ⟨v.heap.size, 0, none⟩)) ∧ ST w0 v0 m A c v' ∧ ST v v' v.heap.size A c v' := by
  obtain ⟨⟨A', hA, hT, he⟩, hk⟩ := h
  have hA0 := hA
  obtain ⟨a, ha, hs, hc⟩ := hA.ex
  have h1 : a.all (·.oneCell') = true := by
    rw [Array.all_eq_true]
    intro i hi
    have := hc i (by omega)
    rw [Array.getElem?_eq_getElem hi] at this
    rw [Option.some.inj this]
    exact hT.one i (by omega)
  have hZ : ZP.size = 72025 := by
    have := zL_len; rw [← zp_eq] at this; rw [← Array.length_toList]; exact this
  go_enter Try.func35, Try.ntmps35
  go_upto_region 3 with (fail)
  first | refine wp_region_lit ?_ | (refine wp_seq ?_; refine wp_region_lit ?_)
  refine wpList_readTo rfl (some 6) rfl (.pointer (some ⟨m, 0, none⟩)) rfl ?_
  refine wpList_readTo rfl (some 7) rfl (.pointer (some ⟨m, 0, none⟩)) rfl ?_
  refine wpList_load_row rfl 85 (.tmp 7) rfl m rfl 85 a (0, 0) _ ha Try.underlying85 rfl (by rw [hs]; kernel_rfl) ?_
  refine wpList_allocTo rfl (some 3) rfl (.pointer (some ⟨v.heap.size, 0, none⟩)) (.cells ZP 85 (0, 0)) (by kernel_rfl) ?_
  refine wpList_store_rowTo rfl 85 (.tmp 3) (.tmp 8) rfl rfl v.heap.size a rfl rfl 85 ZP (heap_alloc_new v _) (by rw [hs]; kernel_rfl) (hZ.trans hs.symm) h1 ?_
  rw [World.setRow_alloc_new]
  have hb : Below v.heap.size v (v.alloc (.cells a 85 (0, 0))) := ((Ext.refl v).alloc _).below
  have hN : PA v v.heap.size A' (v.alloc (.cells a 85 (0, 0))) := ⟨⟨a, heap_alloc_new v _, hs, hc⟩, hb⟩
  have hP1 : ST w0 v0 m A c (v.alloc (.cells a 85 (0, 0))) := ST.past ⟨⟨A', hA0, hT, he⟩, hk⟩ hb
  have hP2 : ST v (v.alloc (.cells a 85 (0, 0))) v.heap.size A c (v.alloc (.cells a 85 (0, 0))) := ⟨⟨A', hN, hT, he⟩, Kb.refl _ _⟩
  clear hb hN h1 hc hs ha hA hA0
  generalize v.alloc (.cells a 85 (0, 0)) = v1 at *
  go_wp2
  go_ret
  exact ⟨rfl, hP1, hP2⟩

end Go.Proofs.Ythldppdkheclkaa
