/- A wave as a thing that laws step: 'WW': in the world v the block m is the wave s, all below m as in w0. No law is claimed here. -/
import Derived.Test.YtmhplbgoahknbaaDoorWv9
namespace Go.Proofs.YtmhplbgoahknbaaDoor
open Go.RowKit

theorem rowT_more (w : World) (n : Nat) (t : TypeId) (l : List Value) (os : List Obj) (d : Nat) (h : n < w.heap.size) : more (rowT w n t l) os d = rowT (more w os d) n t l := by
  unfold more
  rw [rowT_fold os n t l w h]
  rfl
structure WW (b : Bool) (w0 : World) (m : Nat) (s : WS) (v : World) : Prop where
  ex : ∃ w2, AtW w2 m s v ∧ m < w2.heap.size ∧ gw w2 ∧ (b = true → gc w2) ∧ Below m w0 w2
  ok : WOk s
  lo : 0 < m ∧ (b = true → 1 < m)
theorem WW.below {b : Bool} {w0 v : World} {m : Nat} {s : WS} (h : WW b w0 m s v) : Below m w0 v := by
  obtain ⟨⟨w2, ⟨q, rfl⟩, _, _, _, hb⟩, _, _⟩ := h
  exact rowT_below (hb.trans (still_below _ _ _)) m (Nat.le_refl _) _ _
theorem WW.gw {b : Bool} {w0 v : World} {m : Nat} {s : WS} (h : WW b w0 m s v) : gw v := by
  obtain ⟨⟨w2, ⟨q, rfl⟩, _, h2, _, _⟩, _, h4⟩ := h
  exact (h2.below (still_below _ _ _)).row m h4.1 _ _
theorem WW.gc {w0 v : World} {m : Nat} {s : WS} (h : WW true w0 m s v) : gc v := by
  obtain ⟨⟨w2, ⟨q, rfl⟩, _, _, h2, _⟩, _, h4⟩ := h
  exact ((h2 rfl).below (still_below _ _ _)).row m (h4.2 rfl) _ _
theorem WW.drewN {b : Bool} {w0 v : World} {m : Nat} {s : WS} (h : WW b w0 m s v) (q : Nat) : WW b w0 m s (v.drewN q) := by
  obtain ⟨⟨w2, hx, h1⟩, h3, h4⟩ := h
  exact ⟨⟨w2, hx.drewN q, h1⟩, h3, h4⟩
theorem WW.drew {b : Bool} {w0 v : World} {m : Nat} {s : WS} (h : WW b w0 m s v) : WW b w0 m s v.drew := h.drewN 1
/-- behind what keeps all that there is -/
theorem WW.past {b : Bool} {w0 v v' : World} {m : Nat} {s : WS} (h : WW b w0 m s v) (hb : Below v.heap.size v v') : WW b w0 m s v' := by
  obtain ⟨⟨w2, ⟨q, rfl⟩, h1, h2, h5, hb2⟩, h3, h4⟩ := h
  obtain ⟨os, d, rfl⟩ := more_of hb
  have h1' := lt_dr h1 q
  refine ⟨⟨more (w2.drewN q) os d, ⟨0, rowT_more _ _ _ _ _ _ h1'⟩, more_lt _ _ _ _ h1', (h2.below (still_below _ _ _)).below (more_self _ _ _), fun e => ((h5 e).below (still_below _ _ _)).below (more_self _ _ _), ?_⟩, h3, h4⟩
  exact (hb2.trans (still_below _ _ _)).trans ((more_self (w2.drewN q) os d).mono (Nat.le_of_lt h1'))
theorem WW.put {B : Bool} {w0 v : World} {m : Nat} {s : WS} (h : WW B w0 m s v) (a b : Int) (ha : 0 ≤ a ∧ a < 65536) (hb : 0 ≤ b ∧ b < 256) :
    Calls Tryd.prog 18 #[.pointer (some ⟨m, 0, none⟩), .int .u16 a, .int .u8 b] v fun e v' => e = .returned (.tuple #[]) ∧ WW B w0 m (putW s a b) v' := by
  obtain ⟨⟨w2, hx, h1, h2, h5⟩, h3, h4⟩ := h
  exact (hx.put h1 h3 h2 h4.1 a b ha hb).mono fun _ _ ⟨e, hx⟩ => ⟨e, ⟨w2, hx, h1, h2, h5⟩, ok_put h3 a b hb, h4⟩
theorem WW.get {B : Bool} {w0 v : World} {m : Nat} {s : WS} (h : WW B w0 m s v) (a : Int) (ha : 0 ≤ a ∧ a < 65536) :
    Calls Tryd.prog 16 #[.pointer (some ⟨m, 0, none⟩), .int .u16 a] v fun e v' => e = .returned (getV (getW s a)) ∧ v' = v := by
  obtain ⟨⟨w2, hx, h1, h2, h5⟩, h3, h4⟩ := h
  exact hx.get h1 h3 a ha
theorem WW.out {B : Bool} {w0 v : World} {m : Nat} {s : WS} (h : WW B w0 m s v) :
    Calls Tryd.prog 14 #[.pointer (some ⟨m, 0, none⟩)] v fun e v' => e = .returned (.int .i64 (outW s)) ∧ ∃ q, v' = v.drewN q := by
  obtain ⟨⟨w2, hx, h1, h2, h5⟩, h3, h4⟩ := h
  exact hx.out h1 h3 h2 h4.1
theorem WW.clock {w0 v : World} {m : Nat} {s : WS} (h : WW true w0 m s v) :
    Calls Tryd.prog 12 #[.pointer (some ⟨m, 0, none⟩)] v fun e v' => e = .returned (.tuple #[]) ∧ WW true w0 m (clockW s) v' := by
  obtain ⟨⟨w2, hx, h1, h2, h5, h6⟩, h3, h4⟩ := h
  exact (hx.clock h1 h3 (h5 rfl) (h4.2 rfl)).mono fun _ _ ⟨e, hx⟩ => ⟨e, ⟨w2, hx, h1, h2, h5, h6⟩, ok_clock h3, h4⟩
theorem WW.new (B : Bool) (w0 w : World) (hg : Go.Proofs.YtmhplbgoahknbaaDoor.gw w) (hc : B = true → Go.Proofs.YtmhplbgoahknbaaDoor.gc w) (hb : Below w.heap.size w0 w) :
    Calls Tryd.prog 11 #[] w fun e w' => e = .returned (.pointer (some ⟨w.heap.size, 0, none⟩)) ∧ WW B w0 w.heap.size newW w' := by
  refine (wnew_any w).mono ?_
  rintro e w' ⟨rfl, rfl⟩
  have hE : Ext w (w.alloc (.cells newW.cells.toArray 62 (0, 0))) := (Ext.refl w).alloc _
  exact ⟨rfl, ⟨w.alloc (.cells newW.cells.toArray 62 (0, 0)), ⟨0, stW_new w newW⟩, by simp, hg.below hE.below, fun e => (hc e).below hE.below, hb.trans hE.below⟩, newW_ok, hg.lt, fun e => (hc e).lt⟩
theorem WW.copy {B : Bool} {w0 v : World} {m : Nat} {s : WS} (h : WW B w0 m s v) :
    Calls Tryd.prog 22 #[.pointer (some ⟨m, 0, none⟩)] v fun e v' => e = .returned (.pointer (some ⟨v.heap.size, 0, none⟩)) ∧ WW B v v.heap.size s v' := by
  have hgw := h.gw
  have hgc : B = true → Go.Proofs.YtmhplbgoahknbaaDoor.gc v := fun e => by subst e; exact h.gc
  obtain ⟨⟨w2, ⟨q, rfl⟩, h1, h2, h5, h6⟩, h3, h4⟩ := h
  have hs : (stW (w2.drewN q) m s).heap.size = (w2.drewN q).heap.size := rowT_size _ _ _ _
  refine (wcopy_any (w2.drewN q) m s (lt_dr h1 q)).mono ?_
  rintro e v' ⟨rfl, rfl⟩
  have hE : Ext (stW (w2.drewN q) m s) ((stW (w2.drewN q) m s).alloc (.cells newW.cells.toArray 62 (0, 0))) := (Ext.refl _).alloc _
  rw [hs]
  exact ⟨rfl, ⟨_, ⟨0, rfl⟩, by simp; rw [hs]; simp, hgw.below hE.below, fun e => (hgc e).below hE.below, by rw [← hs]; exact hE.below⟩, h3, by have := hgw.lt; rw [hs] at this; exact this, fun e => by have := (hgc e).lt; rw [hs] at this; exact this⟩

set_option maxRecDepth 100000 in
set_option maxHeartbeats 1000000 in
theorem wput_nil (a b : Int) (w : World) : Calls Tryd.prog 18 #[.pointer none, .int .u16 a, .int .u8 b] w fun e w' => e = .returned (.tuple #[]) ∧ w' = w := by
  go_enter Tryd.func18, Tryd.ntmps18
  go_wp2
  (first | refine bodyPost_end (results_none rfl _ _ _) rfl ?_ | refine bodyPost_ret (results_none rfl _ _ _) rfl ?_)
  exact ⟨rfl, rfl⟩
set_option maxRecDepth 100000 in
set_option maxHeartbeats 1000000 in
theorem wclock_nil (w : World) : Calls Tryd.prog 12 #[.pointer none] w fun e w' => e = .returned (.tuple #[]) ∧ w' = w := by
  go_enter Tryd.func12, Tryd.ntmps12
  go_wp2
  (first | refine bodyPost_end (results_none rfl _ _ _) rfl ?_ | refine bodyPost_ret (results_none rfl _ _ _) rfl ?_)
  exact ⟨rfl, rfl⟩
set_option maxRecDepth 100000 in
set_option maxHeartbeats 1000000 in
theorem wget_nil (a : Int) (w : World) : Calls Tryd.prog 16 #[.pointer none, .int .u16 a] w fun e w' => e = .returned (.tuple #[.int .u8 0, .bool false]) ∧ w' = w := by
  go_enter Tryd.func16, Tryd.ntmps16
  go_wp2
  go_ret2
  exact ⟨rfl, rfl⟩
set_option maxRecDepth 100000 in
set_option maxHeartbeats 1000000 in
theorem wout_nil (w : World) : Calls Tryd.prog 14 #[.pointer none] w fun e w' => e = .returned (.int .i64 0) ∧ w' = w := by
  go_enter Tryd.func14, Tryd.ntmps14
  go_wp2
  go_ret
  exact ⟨rfl, rfl⟩
set_option maxRecDepth 100000 in
set_option maxHeartbeats 1000000 in
theorem wcopy_nil (w : World) : Calls Tryd.prog 22 #[.pointer none] w fun e w' => e = .returned (.pointer none) ∧ w' = w := by
  go_enter Tryd.func22, Tryd.ntmps22
  go_wp2
  go_ret
  exact ⟨rfl, rfl⟩

def awS : WS := putW (putW (putW (putW newW 16521 128) 16448 63) 16521 0) 16512 160
theorem awS_out : outW awS = 60480 := by decide +kernel
set_option maxRecDepth 100000 in
set_option maxHeartbeats 1000000 in
theorem awake13_any (w : World) (hg : gw w) : Calls Tryd.prog 10 #[] w fun e w' => e = .returned (.bool true) ∧ Below w.heap.size w w' := by
  have FN := WW.new false w w hg (fun e => by cases e) (Below.refl _ _)
  have E1 := awS_out
  unfold awS at E1
  generalize newW = s0 at *
  go_enter Tryd.func10, Tryd.ntmps10
  go_wp2_with (first
    | (go_at_call 11; refine FN.mono ?_; rintro e w1 ⟨rfl, hT⟩)
    | (go_at_call_of 18 (Value.int IntKind.u8 128); refine (hT.put 16521 128 (by decide) (by decide)).mono ?_; clear hT; rintro e w2 ⟨rfl, hT⟩)
    | (go_at_call_of 18 (Value.int IntKind.u8 63); refine (hT.put 16448 63 (by decide) (by decide)).mono ?_; clear hT; rintro e w3 ⟨rfl, hT⟩)
    | (go_at_call_of 18 (Value.int IntKind.u8 0); refine (hT.put 16521 0 (by decide) (by decide)).mono ?_; clear hT; rintro e w4 ⟨rfl, hT⟩)
    | (go_at_call_of 18 (Value.int IntKind.u8 160); refine (hT.put 16512 160 (by decide) (by decide)).mono ?_; clear hT; rintro e w5 ⟨rfl, hT⟩)
    | (go_at_call 14; refine hT.out.mono ?_; rintro e w6 ⟨rfl, q1, rfl⟩))
  go_ret
  exact ⟨rfl, (hT.drewN q1).below⟩

end Go.Proofs.YtmhplbgoahknbaaDoor
