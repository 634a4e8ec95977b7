/- The contract of (scroll.Write).copied. No law is claimed here. -/
import Derived.Test.YtkgccoghdalniaaMrgW
import Derived.IntWalk
namespace Go.Proofs.Ytkgccoghdalniaa
open Go.RowKit

set_option maxRecDepth 100000 in
set_option maxHeartbeats 2000000 in
theorem wcopied_any (s : UInt8) (a : Int) (A : Option Addr) (n c : Nat) (xs : List UInt8) (w : World) (hr : Rd bv w w.heap.size A n c xs) (hn : n ≤ 1099511627776) :
    Calls Try.prog 25 #[.agg #[.int .u8 (s.toNat : Int), .int .u32 a, .slice A n c]] w fun e w' =>
      ∃ A' c', e = .returned (.agg #[.int .u8 (s.toNat : Int), .int .u32 a, .slice A' n c']) ∧ Own bv w' w.heap.size 5 A' n c' xs ∧ Below w.heap.size w w' := by
  have FC := fun (v : World) (h : Rd bv v w.heap.size A n c xs) (hv : w.heap.size ≤ v.heap.size) => clone_any A n c w.heap.size xs v h hv hn
  go_enter Try.func25, Try.ntmps25
  go_wp2_with fail
  refine (FC _ ((hr.alloc (Nat.le_refl _) _).alloc (by simp) _) (by simp; omega)).mono ?_
  rintro e w1 ⟨A3, n3, c3, rfl, o3, x3⟩
  obtain rfl : n3 = n := by rw [← o3.len, hr.len]
  have f0 : ∀ i, w1.frozen? ⟨w.heap.size, i, none⟩ = false := fun i => (x3.frozen (p := ⟨w.heap.size, i, none⟩) (by simp; omega)).trans (((Below.alloc (Below.refl (w.heap.size + 1) (w.alloc (.cells #[.int .u8 (s.toNat : Int), .int .u32 a, .slice A n3 c] 44))) (by simp) _).frozen (p := ⟨w.heap.size, i, none⟩) (by simp)).trans (frozen_new w _ _ i))
  have f1 : ∀ i, w1.frozen? ⟨w.heap.size + 1, i, none⟩ = false := fun i => (x3.frozen (p := ⟨w.heap.size + 1, i, none⟩) (by simp)).trans (by
    have := frozen_new (w.alloc (.cells #[.int .u8 (s.toNat : Int), .int .u32 a, .slice A n3 c] 44)) #[.int .u8 0, .int .u32 0, .slice none 0 0] 44 i
    rw [World.size_alloc] at this; exact this)
  have hbx : Below (w.heap.size + 1) (w.alloc (.cells #[.int .u8 (s.toNat : Int), .int .u32 a, .slice A n3 c] 44)) w1 := ((Below.refl _ _).alloc (by simp) _).trans (x3.mono (by simp))
  have b0 : w1.cell? ⟨w.heap.size, 0, none⟩ = some (.int .u8 (s.toNat : Int)) := box_cell hbx 0
  have b1 : w1.cell? ⟨w.heap.size, 1, none⟩ = some (.int .u32 a) := box_cell hbx 1
  have b2 : w1.cell? ⟨w.heap.size, 2, none⟩ = some (.slice A n3 c) := box_cell hbx 2
  have hby : Below ((w.alloc (.cells #[.int .u8 (s.toNat : Int), .int .u32 a, .slice A n3 c] 44)).heap.size + 1) ((w.alloc (.cells #[.int .u8 (s.toNat : Int), .int .u32 a, .slice A n3 c] 44)).alloc (.cells #[.int .u8 0, .int .u32 0, .slice none 0 0] 44)) w1 := x3.mono (by simp)
  have y0 : w1.cell? ⟨w.heap.size + 1, 0, none⟩ = some (.int .u8 0) := by have := box_cell hby 0; rw [World.size_alloc] at this; exact this
  have y1 : w1.cell? ⟨w.heap.size + 1, 1, none⟩ = some (.int .u32 0) := by have := box_cell hby 1; rw [World.size_alloc] at this; exact this
  have y2 : w1.cell? ⟨w.heap.size + 1, 2, none⟩ = some (.slice none 0 0) := by have := box_cell hby 2; rw [World.size_alloc] at this; exact this
  have x4 : Below w.heap.size w w1 := (((Below.refl _ _).alloc (Nat.le_refl _) _).alloc (by simp) _).trans (x3.mono (by simp; omega))
  rw [World.size_alloc, World.size_alloc] at o3
  have hlo := o3.ltA
  clear x3 hbx hby FC hr
  have h0 : ∀ (v : World) (b i : Nat) (u : Value), v.grownBy (v.setCell ⟨b, i, none⟩ u) (some b) := fun v b i u =>
    ⟨rfl, rfl, rfl, by simp, fun k _ hk => Below.heap_setCell v ⟨b, i, none⟩ u k (fun e => hk (by rw [e]))⟩
  have ne : ∀ (v : World) (b i : Nat) (u : Value), b < w.heap.size + 2 → Own bv v (w.heap.size + 1 + 1) 5 A3 n3 c3 xs → Own bv (v.setCell ⟨b, i, none⟩ u) (w.heap.size + 1 + 1) 5 A3 n3 c3 xs := fun v b i u hb h =>
    h.kept ((h0 v b i u)) (fun k hk e => by have := (h.ltA k hk).1; injection e with e; omega)
  go_wp2
  refine bodyPost_ret (by simp [results, Try.results25, go_sem, *] <;> (repeat' (first | exact rfl | refine And.intro ?_ ?_))) rfl ⟨A3, c3, rfl, Own.lower (base := w.heap.size + 1 + 1) ?_ (by omega), ?_⟩
  · (repeat (first | exact o3 | refine ne _ _ _ _ (by omega) ?_))
  · (repeat (first | exact x4 | refine Below.setCell ?_ (by simp) _))

end Go.Proofs.Ytkgccoghdalniaa
