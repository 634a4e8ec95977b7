/- A tone's methods. No law is claimed here. -/
import Derived.Test.YtgnafnjhbdefaaaDoorTn10
import Derived.StillTailTactics
namespace Go.Proofs.YtgnafnjhbdefaaaDoor
open Go.RowKit

theorem tput_any (w : World) (n : Nat) (s : TS) (r b : Int) (h : n < w.heap.size) (ok : TOk s) (hg : gl w) (h3n : 2 < n) (hr : 0 ≤ r) (hb : 0 ≤ b ∧ b < 256) :
    Calls Tryd.prog 18 #[.pointer (some ⟨n, 0, none⟩), .int .u8 r, .int .u8 b] (stT w n s) fun e w' => e = .returned (.tuple #[]) ∧ w' = stT w n (putT s r b) := by
  rcases (by omega : r = 0 ∨ r = 1 ∨ r = 2 ∨ r = 3 ∨ 4 ≤ r) with rfl | rfl | rfl | rfl | h4
  · exact tput_0 w n s b h
  · exact tput_1 w n s b h
  · exact tput_2 w n s b h ok hg h3n hb
  · exact tput_3 w n s b h ok hg h3n hb
  · exact tput_x w n s r b h h4

/-- a new tone -/
def newT (k : Int) : TS := { kind := k, en := false, ctl := 0, len := 0, tim := 0, per := if k = 3 then 3 else 0, stp := 0, lev := 0, div := 0, rst := false, sreg := 0, sdiv := 0, swr := false, lin := 0, pend := false, bits := if k = 3 then 1 else 0, short := false }
theorem newT_ok (k : Int) (h : 0 ≤ k ∧ k < 4) : TOk (newT k) := by
  constructor <;> (unfold newT; try simp only) <;> (try split) <;> (try omega)
theorem stT_new (w : World) (s : TS) : w.alloc (.cells s.cells.toArray 67 (0, 0)) = stT (w.alloc (.cells s.cells.toArray 67 (0, 0))) w.heap.size s := rowT_new w _ _
def newB (k : Int) : TS := { newT 0 with kind := k }
def newB3 : TS := { newB 3 with bits := 1 }

set_option maxRecDepth 100000 in
set_option maxHeartbeats 1000000 in
theorem tnew_low (k : Int) (w : World) (hk : 0 ≤ k ∧ k < 3) :
    Calls Tryd.prog 12 #[.int .u8 k] w fun e w' => e = .returned (.pointer (some ⟨w.heap.size, 0, none⟩)) ∧ ∃ w2, w' = stT w2 w.heap.size (newT k) ∧ Ext w w2 ∧ w.heap.size < w2.heap.size := by
  have t3 : (k == 3) = false := by rw [beq_eq_false_iff_ne]; omega
  go_enter Tryd.func12, Tryd.ntmps12
  go_wp2
  go_ret
  refine ⟨rfl, w.alloc (.cells (newB k).cells.toArray 67 (0, 0)), ?_, (Ext.refl w).alloc _, by simp⟩
  have e : newT k = newB k := by unfold newB newT; rw [if_neg (by omega), if_neg (by omega)]; rfl
  rw [e, ← stT_new]
  have e2 : (newB k).cells.toArray = #[.int .u8 k, .bool false, .int .u8 0, .int .u8 0, .int .u16 0, .int .u16 0, .int .u8 0, .int .u8 0, .int .u8 0, .bool false, .int .u8 0, .int .u8 0, .bool false, .int .u8 0, .bool false, .int .u16 0, .bool false] := rfl
  rw [e2]
set_option maxRecDepth 100000 in
set_option maxHeartbeats 1000000 in
theorem tnew_3 (w : World) (hg : gl w) :
    Calls Tryd.prog 12 #[.int .u8 3] w fun e w' => e = .returned (.pointer (some ⟨w.heap.size, 0, none⟩)) ∧ ∃ w2, w' = stT w2 w.heap.size (newT 3) ∧ Ext w w2 ∧ w.heap.size < w2.heap.size := by
  have hlt := hg.lt
  have F0 := tput2_3 (w.alloc (.cells (newB3).cells.toArray 67 (0, 0))) w.heap.size newB3 0 (by simp) (hg.ext ((Ext.refl w).alloc _)) hlt (by decide)
  rw [← stT_new] at F0
  go_enter Tryd.func12, Tryd.ntmps12
  go_wp2_with (go_at_call 31; refine F0.mono ?_; rintro e w' ⟨rfl, rfl⟩)
  go_ret
  refine ⟨rfl, w.alloc (.cells (newB3).cells.toArray 67 (0, 0)), ?_, (Ext.refl w).alloc _, by simp⟩
  exact congrArg (stT _ w.heap.size) (by unfold putN newB3 newB newT at0 noiL; simp)
set_option maxRecDepth 100000 in
set_option maxHeartbeats 1000000 in
theorem tnew_nil (k : Int) (w : World) (hk : 3 < k) : Calls Tryd.prog 12 #[.int .u8 k] w fun e w' => e = .returned (.pointer none) ∧ w' = w := by
  go_enter Tryd.func12, Tryd.ntmps12
  go_wp2
  go_ret
  exact ⟨rfl, rfl⟩
theorem tnew_any (k : Int) (w : World) (hk : 0 ≤ k ∧ k < 4) (hg : gl w) :
    Calls Tryd.prog 12 #[.int .u8 k] w fun e w' => e = .returned (.pointer (some ⟨w.heap.size, 0, none⟩)) ∧ ∃ w2, w' = stT w2 w.heap.size (newT k) ∧ Ext w w2 ∧ w.heap.size < w2.heap.size := by
  by_cases h : k = 3
  · subst h; exact tnew_3 w hg
  · exact tnew_low k w (by omega)
set_option maxRecDepth 100000 in
set_option maxHeartbeats 1000000 in
theorem tcopy_any (w : World) (n : Nat) (s : TS) (h : n < w.heap.size) :
    Calls Tryd.prog 30 #[.pointer (some ⟨n, 0, none⟩)] (stT w n s) fun e w' => e = .returned (.pointer (some ⟨w.heap.size, 0, none⟩)) ∧ ∃ w2, w' = stT (stT w2 n s) w.heap.size s ∧ Ext w w2 ∧ w.heap.size < w2.heap.size := by
  obtain ⟨c0, c1, c2, c3, c4, c5, c6, c7, c8, c9, c10, c11, c12, c13, c14, c15, c16, fz⟩ := stT_cf w n s h
  have hs : (stT w n s).heap.size = w.heap.size := rowT_size _ _ _ _
  have ha : (stT w n s).alloc (.cells s.cells.toArray 67 (0, 0)) = stT (stT (w.alloc (.cells s.cells.toArray 67 (0, 0))) n s) w.heap.size s := by
    rw [stT_new (stT w n s) s, hs]
    unfold stT
    rw [rowT_alloc _ _ _ _ _ h]
  generalize hv : stT w n s = v at *
  go_enter Tryd.func30, Tryd.ntmps30
  go_wp2
  go_ret
  exact ⟨rfl, w.alloc (.cells s.cells.toArray 67 (0, 0)), ha, (Ext.refl w).alloc _, by simp⟩

set_option maxRecDepth 100000 in
set_option maxHeartbeats 1000000 in
theorem tput_nil (r b : Int) (w : World) : Calls Tryd.prog 18 #[.pointer none, .int .u8 r, .int .u8 b] w fun e w' => e = .returned (.tuple #[]) ∧ w' = w := by
  go_enter Tryd.func18, Tryd.ntmps18
  go_wp2
  (first | refine bodyPost_end (results_none rfl _ _ _) rfl ?_ | refine bodyPost_ret (results_none rfl _ _ _) rfl ?_)
  exact ⟨rfl, rfl⟩
set_option maxRecDepth 100000 in
set_option maxHeartbeats 1000000 in
theorem ten_nil (on : Bool) (w : World) : Calls Tryd.prog 16 #[.pointer none, .bool on] w fun e w' => e = .returned (.tuple #[]) ∧ w' = w := by
  go_enter Tryd.func16, Tryd.ntmps16
  go_wp2
  (first | refine bodyPost_end (results_none rfl _ _ _) rfl ?_ | refine bodyPost_ret (results_none rfl _ _ _) rfl ?_)
  exact ⟨rfl, rfl⟩
set_option maxRecDepth 100000 in
set_option maxHeartbeats 1000000 in
theorem tclock_nil (w : World) : Calls Tryd.prog 22 #[.pointer none] w fun e w' => e = .returned (.tuple #[]) ∧ w' = w := by
  go_enter Tryd.func22, Tryd.ntmps22
  go_wp2
  (first | refine bodyPost_end (results_none rfl _ _ _) rfl ?_ | refine bodyPost_ret (results_none rfl _ _ _) rfl ?_)
  exact ⟨rfl, rfl⟩
set_option maxRecDepth 100000 in
set_option maxHeartbeats 1000000 in
theorem tqua_nil (w : World) : Calls Tryd.prog 20 #[.pointer none] w fun e w' => e = .returned (.tuple #[]) ∧ w' = w := by
  go_enter Tryd.func20, Tryd.ntmps20
  go_wp2
  (first | refine bodyPost_end (results_none rfl _ _ _) rfl ?_ | refine bodyPost_ret (results_none rfl _ _ _) rfl ?_)
  exact ⟨rfl, rfl⟩
set_option maxRecDepth 100000 in
set_option maxHeartbeats 1000000 in
theorem thalf_nil (w : World) : Calls Tryd.prog 26 #[.pointer none] w fun e w' => e = .returned (.tuple #[]) ∧ w' = w := by
  go_enter Tryd.func26, Tryd.ntmps26
  go_wp2
  (first | refine bodyPost_end (results_none rfl _ _ _) rfl ?_ | refine bodyPost_ret (results_none rfl _ _ _) rfl ?_)
  exact ⟨rfl, rfl⟩
set_option maxRecDepth 100000 in
set_option maxHeartbeats 1000000 in
theorem tout_nil (w : World) : Calls Tryd.prog 29 #[.pointer none] w fun e w' => e = .returned (.int .u8 0) ∧ w' = w := by
  go_enter Tryd.func29, Tryd.ntmps29
  go_wp2
  go_ret
  exact ⟨rfl, rfl⟩
set_option maxRecDepth 100000 in
set_option maxHeartbeats 1000000 in
theorem tlive_nil (w : World) : Calls Tryd.prog 25 #[.pointer none] w fun e w' => e = .returned (.bool false) ∧ w' = w := by
  go_enter Tryd.func25, Tryd.ntmps25
  go_wp2
  go_ret
  exact ⟨rfl, rfl⟩
set_option maxRecDepth 100000 in
set_option maxHeartbeats 1000000 in
theorem tcopy_nil (w : World) : Calls Tryd.prog 30 #[.pointer none] w fun e w' => e = .returned (.pointer none) ∧ w' = w := by
  go_enter Tryd.func30, Tryd.ntmps30
  go_wp2
  go_ret
  exact ⟨rfl, rfl⟩

end Go.Proofs.YtgnafnjhbdefaaaDoor
