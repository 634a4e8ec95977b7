/- Package pad: an object of three cells. No law is claimed here. -/
import Derived.Test.YtahoebnlihgobaaAlu1
namespace Go.Proofs.Ytahoebnlihgobaa
open Go.RowKit

/-- a pad in memory: what is held, the register, the strobe -/
structure Pd (w : World) (n : Nat) (h s : Int) (t : Bool) : Prop where
  lt : n < w.heap.size
  c0 : w.cell? ⟨n, 0, none⟩ = some (.int .u8 h)
  c1 : w.cell? ⟨n, 1, none⟩ = some (.int .u8 s)
  c2 : w.cell? ⟨n, 2, none⟩ = some (.bool t)
  fz : ∀ i, w.frozen? ⟨n, i, none⟩ = false

/-- w' differs from w in the block n alone -/
structure Ch (n : Nat) (w w' : World) : Prop where
  size : w'.heap.size = w.heap.size
  cell : ∀ p : Addr, p.block ≠ n → w'.cell? p = w.cell? p
  frozen : ∀ p : Addr, w'.frozen? p = w.frozen? p
  below : ∀ B, B ≤ n → ∀ a, Below B a w → Below B a w'
theorem Ch.refl (n : Nat) (w : World) : Ch n w w := ⟨rfl, fun _ _ => rfl, fun _ => rfl, fun _ _ _ h => h⟩
theorem Ch.set {n : Nat} {a b : World} (h : Ch n a b) (i : Nat) (v : Value) : Ch n a (b.setCell ⟨n, i, none⟩ v) :=
  ⟨by rw [World.size_setCell]; exact h.size, fun p hp => (World.cell?_setCell_far b ⟨n, i, none⟩ p v (fun e => hp e.symm)).trans (h.cell p hp),
   fun p => (World.frozen?_setCell ..).trans (h.frozen p), fun B hB a k => (h.below B hB a k).setCell hB v⟩
theorem Ch.trans {n : Nat} {a b c : World} (h : Ch n a b) (k : Ch n b c) : Ch n a c :=
  ⟨k.size.trans h.size, fun p hp => (k.cell p hp).trans (h.cell p hp), fun p => (k.frozen p).trans (h.frozen p), fun B hB x e => k.below B hB x (h.below B hB x e)⟩
theorem Pd.other {w w' : World} {n m : Nat} {h s : Int} {t : Bool} (p : Pd w n h s t) (c : Ch m w w') (hne : n ≠ m) : Pd w' n h s t :=
  ⟨by rw [c.size]; exact p.lt, (c.cell _ hne).trans p.c0, (c.cell _ hne).trans p.c1, (c.cell _ hne).trans p.c2, fun i => (c.frozen _).trans (p.fz i)⟩
theorem Pd.below {w w' : World} {n : Nat} {h s : Int} {t : Bool} (p : Pd w n h s t) (b : Below w.heap.size w w') : Pd w' n h s t :=
  ⟨Nat.lt_of_lt_of_le p.lt b.size, (b.cell p.lt).trans p.c0, (b.cell p.lt).trans p.c1, (b.cell p.lt).trans p.c2, fun i => (b.frozen p.lt).trans (p.fz i)⟩
theorem Pd.drew {w : World} {n : Nat} {h s : Int} {t : Bool} (p : Pd w n h s t) : Pd w.drew n h s t := ⟨p.lt, p.c0, p.c1, p.c2, p.fz⟩
theorem Pd.alloc {w : World} {n : Nat} {h s : Int} {t : Bool} (p : Pd w n h s t) (o : Obj) : Pd (w.alloc o) n h s t := p.below (((Ext.refl w).alloc o).below)

/-- the one, or the other -/
def sel (t : Bool) (h s : Int) : Int := if t then h else s
def lowOn (v : Int) : Bool := bits .and .u8 v 1 == 1
/-- what the pad's register is behind a bit -/
def nxt (s : Int) (t : Bool) : Int := if t then s else bits .or .u8 (s / 2) 128

set_option maxRecDepth 100000 in
set_option maxHeartbeats 1000000 in
theorem pnew_any (w : World) : Calls Try.prog 8 #[] w fun e w' => e = .returned (.pointer (some ⟨w.heap.size, 0, none⟩)) ∧ Pd w' w.heap.size 0 0 false ∧ Ext w w' := by
  go_enter Try.func8, Try.ntmps8
  go_wp2
  go_ret
  refine ⟨rfl, ⟨by simp, ?_, ?_, ?_, ?_⟩, (Ext.refl _).alloc _⟩
  · exact cell_of_row _ _ _ _ _ _ (heap_alloc_new w _)
  · exact cell_of_row _ _ _ _ _ _ (heap_alloc_new w _)
  · exact cell_of_row _ _ _ _ _ _ (heap_alloc_new w _)
  · intro i; simp [go_sem]

set_option maxRecDepth 100000 in
set_option maxHeartbeats 1000000 in
theorem pload_any (n : Nat) (h s : Int) (t : Bool) (w : World) (hp : Pd w n h s t) :
    Calls Try.prog 22 #[.pointer (some ⟨n, 0, none⟩)] w fun e w' => e = .returned (.tuple #[]) ∧ Pd w' n h (sel t h s) t ∧ Ch n w w' := by
  obtain ⟨h0, h1, h2, h3, h4⟩ := hp
  have g0 := h4 0
  have g1 := h4 1
  have g2 := h4 2
  cases t
  · go_enter Try.func22, Try.ntmps22
    go_wp2
    (first | refine bodyPost_end (results_none rfl _ _ _) rfl ?_ | refine bodyPost_ret (results_none rfl _ _ _) rfl ?_)
    exact ⟨rfl, ⟨h0, h1, h2, h3, h4⟩, Ch.refl _ _⟩
  · go_enter Try.func22, Try.ntmps22
    go_wp2
    (first | refine bodyPost_end (results_none rfl _ _ _) rfl ?_ | refine bodyPost_ret (results_none rfl _ _ _) rfl ?_)
    refine ⟨rfl, ⟨?_, ?_, ?_, ?_, ?_⟩, (Ch.refl _ _).set _ _⟩
    · simpa using h0
    · rw [World.cell?_setCell_other _ _ _ _ (by simp)]; exact h1
    · exact World.cell?_setCell_same _ _ _ h2
    · rw [World.cell?_setCell_other _ _ _ _ (by simp)]; exact h3
    · intro i; simpa using h4 i

theorem Pd.set0 {w : World} {n : Nat} {h s : Int} {t : Bool} (p : Pd w n h s t) (v : Int) : Pd (w.setCell ⟨n, 0, none⟩ (.int .u8 v)) n v s t :=
  ⟨by simpa using p.lt, World.cell?_setCell_same _ _ _ p.c0, by rw [World.cell?_setCell_other _ _ _ _ (by simp)]; exact p.c1, by rw [World.cell?_setCell_other _ _ _ _ (by simp)]; exact p.c2, fun i => by simpa using p.fz i⟩
theorem Pd.set1 {w : World} {n : Nat} {h s : Int} {t : Bool} (p : Pd w n h s t) (v : Int) : Pd (w.setCell ⟨n, 1, none⟩ (.int .u8 v)) n h v t :=
  ⟨by simpa using p.lt, by rw [World.cell?_setCell_other _ _ _ _ (by simp)]; exact p.c0, World.cell?_setCell_same _ _ _ p.c1, by rw [World.cell?_setCell_other _ _ _ _ (by simp)]; exact p.c2, fun i => by simpa using p.fz i⟩
theorem Pd.set2 {w : World} {n : Nat} {h s : Int} {t : Bool} (p : Pd w n h s t) (v : Bool) : Pd (w.setCell ⟨n, 2, none⟩ (.bool v)) n h s v :=
  ⟨by simpa using p.lt, by rw [World.cell?_setCell_other _ _ _ _ (by simp)]; exact p.c0, by rw [World.cell?_setCell_other _ _ _ _ (by simp)]; exact p.c1, World.cell?_setCell_same _ _ _ p.c2, fun i => by simpa using p.fz i⟩

set_option maxRecDepth 100000 in
set_option maxHeartbeats 1000000 in
theorem phold_any (n : Nat) (h s : Int) (t : Bool) (v : Int) (w : World) (hp : Pd w n h s t) :
    Calls Try.prog 12 #[.pointer (some ⟨n, 0, none⟩), .int .u8 v] w fun e w' => e = .returned (.tuple #[]) ∧ Pd w' n v (sel t v s) t ∧ Ch n w w' := by
  have F0 := pload_any n v s t (w.setCell ⟨n, 0, none⟩ (.int .u8 v)) (hp.set0 v)
  have g0 := hp.fz 0
  have h1 := hp.c0
  go_enter Try.func12, Try.ntmps12
  go_wp2_with (go_at_call 22; refine F0.mono ?_; rintro e w' ⟨rfl, hq, hc⟩)
  (first | refine bodyPost_end (results_none rfl _ _ _) rfl ?_ | refine bodyPost_ret (results_none rfl _ _ _) rfl ?_)
  exact ⟨rfl, hq, ((Ch.refl n w).set _ _).trans hc⟩

set_option maxRecDepth 100000 in
set_option maxHeartbeats 1000000 in
theorem pput_any (n : Nat) (h s : Int) (t : Bool) (v : Int) (w : World) (hp : Pd w n h s t) :
    Calls Try.prog 10 #[.pointer (some ⟨n, 0, none⟩), .int .u8 v] w fun e w' => e = .returned (.tuple #[]) ∧ Pd w' n h (sel (lowOn v) h s) (lowOn v) ∧ Ch n w w' := by
  have F0 := pload_any n h s (lowOn v) (w.setCell ⟨n, 2, none⟩ (.bool (bits .and .u8 v 1 == 1))) (hp.set2 _)
  have HL : Hid (lowOn v = (bits .and .u8 v 1 == 1)) := rfl
  have g0 := hp.fz 2
  have h1 := hp.c2
  go_enter Try.func10, Try.ntmps10
  go_wp2_with (go_at_call 22; refine F0.mono ?_; rintro e w' ⟨rfl, hq, hc⟩)
  (first | refine bodyPost_end (results_none rfl _ _ _) rfl ?_ | refine bodyPost_ret (results_none rfl _ _ _) rfl ?_)
  exact ⟨rfl, hq, ((Ch.refl n w).set _ _).trans hc⟩

set_option maxRecDepth 100000 in
set_option maxHeartbeats 1000000 in
theorem pget_any (n : Nat) (h s : Int) (t : Bool) (w : World) (hp : Pd w n h s t) :
    Calls Try.prog 15 #[.pointer (some ⟨n, 0, none⟩)] w fun e w' => e = .returned (.int .u8 (bits .and .u8 s 1)) ∧ Pd w' n h (nxt s t) t ∧ Ch n w w' := by
  obtain ⟨h0, h1, h2, h3, h4⟩ := hp
  have g0 := h4 0
  have g1 := h4 1
  have g2 := h4 2
  cases t
  · go_enter Try.func15, Try.ntmps15
    go_wp2
    go_ret
    exact ⟨rfl, Pd.set1 ⟨h0, h1, h2, h3, h4⟩ _, (Ch.refl _ _).set _ _⟩
  · go_enter Try.func15, Try.ntmps15
    go_wp2
    go_ret
    exact ⟨rfl, ⟨h0, h1, h2, h3, h4⟩, Ch.refl _ _⟩

set_option maxRecDepth 100000 in
set_option maxHeartbeats 1000000 in
theorem pheld_any (n : Nat) (h s : Int) (t : Bool) (w : World) (hp : Pd w n h s t) :
    Calls Try.prog 16 #[.pointer (some ⟨n, 0, none⟩)] w fun e w' => e = .returned (.int .u8 h) ∧ w' = w := by
  obtain ⟨h0, h1, h2, h3, h4⟩ := hp
  go_enter Try.func16, Try.ntmps16
  go_wp2
  go_ret
  exact ⟨rfl, rfl⟩

set_option maxRecDepth 100000 in
set_option maxHeartbeats 1000000 in
theorem pcopy_any (n : Nat) (h s : Int) (t : Bool) (w : World) (hp : Pd w n h s t) :
    Calls Try.prog 20 #[.pointer (some ⟨n, 0, none⟩)] w fun e w' => e = .returned (.pointer (some ⟨w.heap.size, 0, none⟩)) ∧ Pd w' w.heap.size h s t ∧ Ext w w' := by
  obtain ⟨h0, h1, h2, h3, h4⟩ := hp
  go_enter Try.func20, Try.ntmps20
  go_wp2
  go_ret
  refine ⟨rfl, ⟨by simp, ?_, ?_, ?_, ?_⟩, (Ext.refl _).alloc _⟩
  · exact cell_of_row _ _ _ _ _ _ (heap_alloc_new w _)
  · exact cell_of_row _ _ _ _ _ _ (heap_alloc_new w _)
  · exact cell_of_row _ _ _ _ _ _ (heap_alloc_new w _)
  · intro i; simp [go_sem]

set_option maxRecDepth 100000 in
set_option maxHeartbeats 1000000 in
theorem phold_nil (v : Int) (w : World) : Calls Try.prog 12 #[.pointer none, .int .u8 v] w fun e w' => e = .returned (.tuple #[]) ∧ w' = w := by
  go_enter Try.func12, Try.ntmps12
  go_wp2
  (first | refine bodyPost_end (results_none rfl _ _ _) rfl ?_ | refine bodyPost_ret (results_none rfl _ _ _) rfl ?_)
  exact ⟨rfl, rfl⟩
set_option maxRecDepth 100000 in
set_option maxHeartbeats 1000000 in
theorem pput_nil (v : Int) (w : World) : Calls Try.prog 10 #[.pointer none, .int .u8 v] w fun e w' => e = .returned (.tuple #[]) ∧ w' = w := by
  go_enter Try.func10, Try.ntmps10
  go_wp2
  (first | refine bodyPost_end (results_none rfl _ _ _) rfl ?_ | refine bodyPost_ret (results_none rfl _ _ _) rfl ?_)
  exact ⟨rfl, rfl⟩
set_option maxRecDepth 100000 in
set_option maxHeartbeats 1000000 in
theorem pget_nil (w : World) : Calls Try.prog 15 #[.pointer none] w fun e w' => e = .returned (.int .u8 0) ∧ w' = w := by
  go_enter Try.func15, Try.ntmps15
  go_wp2
  go_ret
  exact ⟨rfl, rfl⟩
set_option maxRecDepth 100000 in
set_option maxHeartbeats 1000000 in
theorem pheld_nil (w : World) : Calls Try.prog 16 #[.pointer none] w fun e w' => e = .returned (.int .u8 0) ∧ w' = w := by
  go_enter Try.func16, Try.ntmps16
  go_wp2
  go_ret
  exact ⟨rfl, rfl⟩
set_option maxRecDepth 100000 in
set_option maxHeartbeats 1000000 in
theorem pcopy_nil (w : World) : Calls Try.prog 20 #[.pointer none] w fun e w' => e = .returned (.pointer none) ∧ w' = w := by
  go_enter Try.func20, Try.ntmps20
  go_wp2
  go_ret
  exact ⟨rfl, rfl⟩

end Go.Proofs.Ytahoebnlihgobaa
