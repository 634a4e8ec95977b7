/- A tone's methods. No law is claimed here. -/
import Derived.Test.YtgnafnjhbdefaaaDoorTn3
import Derived.StillTailTactics
namespace Go.Proofs.YtgnafnjhbdefaaaDoor
open Go.RowKit

set_option maxRecDepth 100000 in
set_option maxHeartbeats 1000000 in
theorem ttarget_any (w : World) (n : Nat) (s : TS)  (h : n < w.heap.size) (ok : TOk s) (hp : s.kind ≠ 3) :
    Calls Tryd.prog 53 #[.pointer (some ⟨n, 0, none⟩)] (stT w n s) fun e w' => e = .returned (.int .u16 (targT s)) ∧ ∃ q, w' = (stT w n s).drewN q := by
  obtain ⟨c0, c1, c2, c3, c4, c5, c6, c7, c8, c9, c10, c11, c12, c13, c14, c15, c16, fz⟩ := stT_cf w n s h
  have o1 := ok.per
  have o2 := ok.pulse hp
  have z1 := l7 s.sreg ok.sreg
  obtain ⟨c, hc⟩ : ∃ c, s.per / 2 ^ (s.sreg % 8).toNat = c := ⟨_, rfl⟩
  have b1 : 0 ≤ c ∧ c ≤ s.per := by rw [← hc]; exact ⟨Int.ediv_nonneg o1.1 (Int.pow_nonneg (by decide)), Int.ediv_le_self _ o1.1⟩
  have z2 : IntKind.u16.wrap (s.per + c) = s.per + c := by rw [wrap_u16_mod]; omega
  have z3 : IntKind.u16.wrap (c + 1) = c + 1 := by rw [wrap_u16_mod]; omega
  generalize hv : stT w n s = v at *
  rcases b8 s.sreg ok.sreg with ⟨h1, h2⟩ | ⟨h1, h2⟩ <;> rcases (by omega : s.kind = 0 ∨ s.kind ≠ 0) with h3 | h3
  all_goals
    go_enter Tryd.func53, Tryd.ntmps53
    go_upto_region 1 with (fail)
    go_quiet (fail)
    go_upto_region 6 with (fail)
    (first | (go_quiet (fail); go_wp2) | skip)
    all_goals
      go_ret
      refine ⟨?_, ?_⟩
      · refine congrArg (fun z => Ending.returned (.int .u16 z)) ?_; unfold targT; rw [hc]; (repeat' split) <;> omega
      · (repeat (first | refine dr_n ?_ _ | refine dr_1 ?_)); exact dr_0 _

end Go.Proofs.YtgnafnjhbdefaaaDoor
