/- LoopyAddresses, LoopyScrolls (walks). No law is claimed here. -/
import Derived.Test.YthldppdkheclkaaLy3
namespace Go.Proofs.Ythldppdkheclkaa
open Go.RowKit

/-- a scroll in a box -/
structure B4 (v : World) (n : Nat) (s : LS) : Prop where
  lt : n < v.heap.size
  c0 : v.cell? ⟨n, 0, none⟩ = some (.int .u16 s.v)
  c1 : v.cell? ⟨n, 1, none⟩ = some (.int .u16 s.t)
  c2 : v.cell? ⟨n, 2, none⟩ = some (.int .u8 s.x)
  c3 : v.cell? ⟨n, 3, none⟩ = some (.bool s.w)
  fz : ∀ i, v.frozen? ⟨n, i, none⟩ = false
theorem B4.ext {v v' : World} {n : Nat} {s : LS} (h : B4 v n s) (hE : Ext v v') : B4 v' n s := by
  have hb := hE.below
  have hl := h.lt
  exact ⟨Nat.lt_of_lt_of_le hl hb.size, (hb.cell hl).trans h.c0, (hb.cell hl).trans h.c1, (hb.cell hl).trans h.c2, (hb.cell hl).trans h.c3, fun i => (hb.frozen hl).trans (h.fz i)⟩
def put4 (v : World) (n : Nat) (s : LS) : World :=
  (((v.setCell ⟨n, 0, none⟩ (.int .u16 s.v)).setCell ⟨n, 1, none⟩ (.int .u16 s.t)).setCell ⟨n, 2, none⟩ (.int .u8 s.x)).setCell ⟨n, 3, none⟩ (.bool s.w)
theorem B4.put {v : World} {n : Nat} {s : LS} (h : B4 v n s) (s' : LS) : B4 (put4 v n s') n s' := by
  have h0 := h.lt
  have h1 := h.c0
  have h2 := h.c1
  have h3 := h.c2
  have h4 := h.c3
  have h5 := h.fz
  unfold put4
  constructor
  · simpa using h0
  · simp [go_sem, *]
  · simp [go_sem, *]
  · simp [go_sem, *]
  · simp [go_sem, *]
  · intro i; simp [go_sem, *]
theorem B4.made (w : World) (s : LS) (t : TypeId) : B4 (w.alloc (.cells #[.int .u16 s.v, .int .u16 s.t, .int .u8 s.x, .bool s.w] t)) w.heap.size s := by
  refine ⟨by simp, ?_, ?_, ?_, ?_, fun i => by simp [go_sem]⟩ <;> exact cell_of_row _ _ _ _ _ _ (heap_alloc_new w _)
theorem B4.drewN {v : World} {n : Nat} {s : LS} (h : B4 v n s) (q : Nat) : B4 (v.drewN q) n s := ⟨h.lt, h.c0, h.c1, h.c2, h.c3, h.fz⟩
theorem below_put4 {B : Nat} {w v : World} {n : Nat} (h : Below B w v) (hn : B ≤ n) (s : LS) : Below B w (put4 v n s) := by
  unfold put4
  exact (((h.setCell hn _).setCell hn _).setCell hn _).setCell hn _

theorem look_in {s : LS} (h : LOk s) : LIn (lookL s) := by
  rw [lookL_is h]; exact ⟨by simp only; omega, by simp only; omega, by simp only; omega⟩
theorem adr2 {s : LS} (h : LOk s) (hi lo : Int) (h1 : 0 ≤ hi ∧ hi < 256) (h2 : 0 ≤ lo ∧ lo < 256) :
    adrL (adrL (lookL s) hi) lo = ⟨hi % 64 * 256 + lo, hi % 64 * 256 + lo, s.x % 8, false⟩ := by
  have a := look_in h
  rw [lookL_is h] at *
  rw [adrL_f a _ h1 rfl]
  have b : LIn { (⟨s.v % 32768, s.t % 32768, s.x % 8, false⟩ : LS) with t := s.t % 32768 % 256 + hi % 64 * 256, w := true } := ⟨a.v, by simp only; omega, a.x⟩
  rw [adrL_t b _ h2 rfl]
  apply ls_ext <;> first | rfl | (simp only; omega)

end Go.Proofs.Ythldppdkheclkaa
