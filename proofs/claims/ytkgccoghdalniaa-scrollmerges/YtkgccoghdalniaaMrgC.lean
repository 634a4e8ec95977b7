/- The contracts of (scroll.Write).joins, (scroll.Write).copied and scroll.Merge. No law is claimed here. -/
import Derived.Test.YtkgccoghdalniaaMrgW
import Derived.Test.YtkgccoghdalniaaMoreQ
import Derived.IntWalk
namespace Go.Proofs.Ytkgccoghdalniaa
open Go.RowKit

set_option maxRecDepth 100000 in
set_option maxHeartbeats 2000000 in
theorem wjoins_any (s s2 : UInt8) (a a2 : Int) (A : Option Addr) (n c : Nat) (A2 : Option Addr) (n2 c2 : Nat) (w : World)
    (ha : 0 ≤ a) (ha2 : a < 4294967296) (hn : n ≤ 1099511627776) (hb : 0 ≤ a2) (hb2 : a2 < 4294967296) (hn2 : n2 ≤ 1099511627776) :
    Calls Try.prog 24 #[.agg #[.int .u8 (s.toNat : Int), .int .u32 a, .slice A n c], .agg #[.int .u8 (s2.toNat : Int), .int .u32 a2, .slice A2 n2 c2]] w fun e w' =>
      e = .returned (.bool (decide (s = s2) && decide (a + n = a2) && decide (n + n2 ≤ 4096))) ∧ Below w.heap.size w w' := by
  obtain ⟨R, hR⟩ : ∃ R, R = (decide (s = s2) && decide (a + n = a2) && decide (n + n2 ≤ 4096)) := ⟨_, rfl⟩
  rw [← hR]
  have HR := Lib.hid hR
  have hls := s.toNat_lt
  have hls2 := s2.toNat_lt
  clear hR
  go_enter Try.func24, Try.ntmps24
  go_wp2
  have k0 : ((w.alloc (.cells #[.int .u8 (s.toNat : Int), .int .u32 a, .slice A n c] 44)).alloc (.cells #[.int .u8 (s2.toNat : Int), .int .u32 a2, .slice A2 n2 c2] 44)).cell? ⟨w.heap.size, 0, none⟩ = some (.int .u8 (s.toNat : Int)) := box_cell ((Below.refl _ _).alloc (by simp) _) 0
  have k1 : ((w.alloc (.cells #[.int .u8 (s.toNat : Int), .int .u32 a, .slice A n c] 44)).alloc (.cells #[.int .u8 (s2.toNat : Int), .int .u32 a2, .slice A2 n2 c2] 44)).cell? ⟨w.heap.size, 1, none⟩ = some (.int .u32 a) := box_cell ((Below.refl _ _).alloc (by simp) _) 1
  have k2 : ((w.alloc (.cells #[.int .u8 (s.toNat : Int), .int .u32 a, .slice A n c] 44)).alloc (.cells #[.int .u8 (s2.toNat : Int), .int .u32 a2, .slice A2 n2 c2] 44)).cell? ⟨w.heap.size, 2, none⟩ = some (.slice A n c) := box_cell ((Below.refl _ _).alloc (by simp) _) 2
  have k3 : ((w.alloc (.cells #[.int .u8 (s.toNat : Int), .int .u32 a, .slice A n c] 44)).alloc (.cells #[.int .u8 (s2.toNat : Int), .int .u32 a2, .slice A2 n2 c2] 44)).cell? ⟨w.heap.size + 1, 0, none⟩ = some (.int .u8 (s2.toNat : Int)) := by
    have := box_cell (w := w.alloc (.cells #[.int .u8 (s.toNat : Int), .int .u32 a, .slice A n c] 44)) (cs := #[.int .u8 (s2.toNat : Int), .int .u32 a2, .slice A2 n2 c2]) (e := 44) (Below.refl _ _) 0
    rw [World.size_alloc] at this; exact this
  have k4 : ((w.alloc (.cells #[.int .u8 (s.toNat : Int), .int .u32 a, .slice A n c] 44)).alloc (.cells #[.int .u8 (s2.toNat : Int), .int .u32 a2, .slice A2 n2 c2] 44)).cell? ⟨w.heap.size + 1, 1, none⟩ = some (.int .u32 a2) := by
    have := box_cell (w := w.alloc (.cells #[.int .u8 (s.toNat : Int), .int .u32 a, .slice A n c] 44)) (cs := #[.int .u8 (s2.toNat : Int), .int .u32 a2, .slice A2 n2 c2]) (e := 44) (Below.refl _ _) 1
    rw [World.size_alloc] at this; exact this
  have k5 : ((w.alloc (.cells #[.int .u8 (s.toNat : Int), .int .u32 a, .slice A n c] 44)).alloc (.cells #[.int .u8 (s2.toNat : Int), .int .u32 a2, .slice A2 n2 c2] 44)).cell? ⟨w.heap.size + 1, 2, none⟩ = some (.slice A2 n2 c2) := by
    have := box_cell (w := w.alloc (.cells #[.int .u8 (s.toNat : Int), .int .u32 a, .slice A n c] 44)) (cs := #[.int .u8 (s2.toNat : Int), .int .u32 a2, .slice A2 n2 c2]) (e := 44) (Below.refl _ _) 2
    rw [World.size_alloc] at this; exact this
  have hsz : ((w.alloc (.cells #[.int .u8 (s.toNat : Int), .int .u32 a, .slice A n c] 44)).alloc (.cells #[.int .u8 (s2.toNat : Int), .int .u32 a2, .slice A2 n2 c2] 44)).heap.size = w.heap.size + 2 := by simp
  have hbW : Below w.heap.size w ((w.alloc (.cells #[.int .u8 (s.toNat : Int), .int .u32 a, .slice A n c] 44)).alloc (.cells #[.int .u8 (s2.toNat : Int), .int .u32 a2, .slice A2 n2 c2] 44)) := ((Below.refl _ _).alloc (Nat.le_refl _) _).alloc (by simp) _
  generalize (w.alloc (.cells #[.int .u8 (s.toNat : Int), .int .u32 a, .slice A n c] 44)).alloc (.cells #[.int .u8 (s2.toNat : Int), .int .u32 a2, .slice A2 n2 c2] 44) = W at *
  have hs1 : w.heap.size < W.heap.size := by omega
  have hs2 : w.heap.size + 1 < W.heap.size := by omega
  have e2 : IntKind.u64.wrap a2 = a2 := IntWalk.u64_in _ (by omega)
  have e3 : IntKind.i64.wrap ((n : Int) + (n2 : Int)) = (n : Int) + (n2 : Int) := IntWalk.i64_in _ (by omega)
  have q0 : ∀ n, (mP W n).cell? ⟨w.heap.size, 0, none⟩ = some (.int .u8 (s.toNat : Int)) := fun n => mP_cell hs1 k0 n
  have q1 : ∀ n, (mP W n).cell? ⟨w.heap.size, 1, none⟩ = some (.int .u32 a) := fun n => mP_cell hs1 k1 n
  have q2 : ∀ n', (mP W n').cell? ⟨w.heap.size, 2, none⟩ = some (.slice A n c) := fun n' => mP_cell hs1 k2 n'
  have q3 : ∀ n, (mP W n).cell? ⟨w.heap.size + 1, 0, none⟩ = some (.int .u8 (s2.toNat : Int)) := fun n => mP_cell hs2 k3 n
  have q4 : ∀ n, (mP W n).cell? ⟨w.heap.size + 1, 1, none⟩ = some (.int .u32 a2) := fun n => mP_cell hs2 k4 n
  have q5 : ∀ n, (mP W n).cell? ⟨w.heap.size + 1, 2, none⟩ = some (.slice A2 n2 c2) := fun n => mP_cell hs2 k5 n
  have Q : ∀ n', Calls Try.prog 28 #[.agg #[.int .u8 (s.toNat : Int), .int .u32 a, .slice A n c]] (mP W n') (fun e w' => e = .returned (.int .u64 (a + n)) ∧ ∃ m, w' = mP W m) := fun n' =>
    Calls.more_q ((wend_any (s.toNat : Int) a A n c _ ha ha2 hn).mono fun e w' h => ⟨h.1, h.2⟩)
  by_cases h1 : s = s2
  · subst h1
    by_cases h2 : a + n = a2
    · subst h2
      have HT : Hid (R = decide ((n : Int) + (n2 : Int) ≤ 4096)) := by
        show _ = _
        rw [HR.out]
        simp only [decide_true, Bool.true_and]
        exact decide_eq_decide.2 (by omega)
      refine wp_region_more (by kernel_rfl) (by kernel_rfl) ?_
      repeat (go_big_quiet_step (first | (go_at_call 28; exact Q _)))
      refine wpQuiet_nil ?_
      intro _ hw'
      obtain ⟨nq, hw''⟩ := hw'
      subst hw''
      go_wp2
      go_ret
      rw [HT.out]
      exact ⟨rfl, hbW.trans ((mP_below W nq).mono (by omega))⟩
    · have HT : Hid (R = false) := by show _ = _; rw [HR.out]; simp [h2]
      have t2 : (a + (n : Int) == a2) = false := by simpa using h2
      have t3 : decide (a + (n : Int) = a2) = false := by simpa using h2
      clear h2
      refine wp_region_more (by kernel_rfl) (by kernel_rfl) ?_
      repeat (go_big_quiet_step (first | (go_at_call 28; exact Q _)))
      refine wpQuiet_nil ?_
      intro _ hw'
      obtain ⟨nq, hw''⟩ := hw'
      subst hw''
      go_wp2
      go_ret
      rw [HT.out]
      exact ⟨rfl, hbW.trans ((mP_below W nq).mono (by omega))⟩
  · have HT : Hid (R = false) := by show _ = _; rw [HR.out]; simp [h1]
    have h1' : ¬ s.toNat = s2.toNat := fun e => h1 (UInt8.toNat_inj.1 e)
    have t1 : ((s.toNat : Int) == (s2.toNat : Int)) = false := by simp; omega
    have t4 : decide ((s.toNat : Int) = (s2.toNat : Int)) = false := by simp; omega
    have t5 : decide (s.toNat = s2.toNat) = false := by simp; omega
    clear h1' h1
    refine wp_region_more (by kernel_rfl) (by kernel_rfl) ?_
    repeat (go_big_quiet_step (first | (go_at_call 28; exact Q _)))
    refine wpQuiet_nil ?_
    intro _ hw'
    obtain ⟨nq, hw''⟩ := hw'
    subst hw''
    go_wp2
    go_ret
    rw [HT.out]
    exact ⟨rfl, hbW.trans ((mP_below W nq).mono (by omega))⟩

end Go.Proofs.Ytkgccoghdalniaa
