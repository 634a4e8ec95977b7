/- A tone's methods. No law is claimed here. -/
import Derived.Test.YtgnafnjhbdefaaaDoorTn4
import Derived.StillTailTactics
namespace Go.Proofs.YtgnafnjhbdefaaaDoor
open Go.RowKit

set_option maxRecDepth 100000 in
set_option maxHeartbeats 1000000 in
theorem tmuted_any (w : World) (n : Nat) (s : TS)  (h : n < w.heap.size) (ok : TOk s) (hp : s.kind ≠ 3) :
    Calls Tryd.prog 52 #[.pointer (some ⟨n, 0, none⟩)] (stT w n s) fun e w' => e = .returned (.bool (mutT s)) ∧ ∃ q, w' = (stT w n s).drewN q := by
  obtain ⟨c0, c1, c2, c3, c4, c5, c6, c7, c8, c9, c10, c11, c12, c13, c14, c15, c16, fz⟩ := stT_cf w n s h
  have F0 := ttarget_any w n s h ok hp
  generalize hv : stT w n s = v at *
  rcases (by omega : s.per < 8 ∨ ¬ s.per < 8) with h1 | h1
  all_goals
    go_enter Tryd.func52, Tryd.ntmps52
    go_wp2_with (go_at_call 53; refine F0.mono ?_; rintro e w' ⟨rfl, q, rfl⟩)
    all_goals
      go_ret
      refine ⟨?_, ?_⟩
      · simp [mutT, h1]; try omega
      · (repeat (first | refine dr_n ?_ _ | refine dr_1 ?_)); exact dr_0 _

set_option maxRecDepth 100000 in
set_option maxHeartbeats 1000000 in
theorem toutPulse_any (w : World) (n : Nat) (s : TS)  (h : n < w.heap.size) (ok : TOk s) (hk : s.kind ≠ 2) (hp : s.kind ≠ 3) (hg : gl w) (h3n : 2 < n) :
    Calls Tryd.prog 45 #[.pointer (some ⟨n, 0, none⟩)] (stT w n s) fun e w' => e = .returned (.int .u8 (outT s)) ∧ ∃ q, w' = (stT w n s).drewN q := by
  obtain ⟨c0, c1, c2, c3, c4, c5, c6, c7, c8, c9, c10, c11, c12, c13, c14, c15, c16, fz⟩ := stT_cf w n s h
  have FL := fun q => tlive_any (w.drewN q) n s h
  have FM := fun q => tmuted_any (w.drewN q) n s h ok hp
  have FV := fun q => tvolume_any (w.drewN q) n s h ok
  simp only [← stT_drewN] at FL FM FV
  have o1 := ok.stp
  have o2 := ok.st8 hk
  have o3 := ok.len
  have o4 := ok.ctl
  obtain ⟨i, hi⟩ := nat_of (s.ctl / 64) (by omega)
  obtain ⟨j, hj⟩ := nat_of s.stp (by omega)
  have i1 : i < 4 := by omega
  have i2 : j < 8 := by omega
  have i3 : (i : Int) < 4 := by omega
  have i4 : (j : Int) < 8 := by omega
  have hd : (stT w n s).cell? ⟨2, i * 8 + j, none⟩ = some (.int .u8 (at0 dutL (s.ctl / 64 * 8 + s.stp))) := by
    have := hg.dut (i * 8 + j) (by omega)
    unfold stT; rw [rowT_cellFar _ _ _ _ _ (by show 2 ≠ n; omega), this, hi, hj]
    congr 3
  generalize hD : at0 dutL (s.ctl / 64 * 8 + s.stp) = D at *
  generalize hv : stT w n s = v at *
  rcases (by by_cases e : D = 0; exact .inl e; exact .inr (by simpa using e) : D = 0 ∨ (D == 0) = false) with h1 | h1 <;> rcases (by omega : s.len = 0 ∨ 0 < s.len) with h2 | h2 <;> rcases Bool.eq_false_or_eq_true (mutT s) with h3 | h3
  all_goals
    go_enter Tryd.func45, Tryd.ntmps45
    go_upto_region 1 with (fail)
    go_quiet (first | (go_at_call 25; exact Calls.quiet_of_same (FL _)) | (go_at_call 52; exact Calls.quiet_of (FM _)))
    go_wp2_with (go_at_call 55; refine (FV _).mono ?_; rintro e w' ⟨rfl, rfl⟩)
    all_goals
      go_ret
      refine ⟨?_, ?_⟩
      · first | (simp [outT, hk, hp, hD, h1, h2, h3]; done) | (have h1x : D ≠ 0 := (by simpa using h1); have h2x : ¬ s.len ≤ 0 := (by omega); simp [outT, hk, hp, hD, h1x, h2x, h3])
      · (repeat (first | refine dr_n ?_ _ | refine dr_1 ?_)); exact dr_0 _

end Go.Proofs.YtgnafnjhbdefaaaDoor
