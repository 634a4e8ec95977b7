/- LoopyReads (walk). No law is claimed here. -/
import Derived.Test.YtdbfdhfdfjdnoaaLy7
namespace Go.Proofs.Ytdbfdhfdfjdnoaa
open Go.RowKit

set_option maxRecDepth 100000 in
set_option maxHeartbeats 2000000 in
theorem loopyReads_walk (v t x : Int) (wr : Bool) (w : World) (h : LOk ⟨v, t, x, wr⟩) :
    Calls Try.prog 4 #[lv v t x wr] w fun e w' => e = .returned (.bool true) ∧ Below w.heap.size w w' := by
  have FA := awake14_any
  have hv := h.v
  simp only at hv
  have F1 := fun w => own14_any v t x wr w h
  obtain ⟨p, hp⟩ : ∃ p, ofP (v % 32768) = p := ⟨_, rfl⟩
  have f : p.F := hp ▸ ofP_F _
  have F2 := fun w => lyShade_any v t x wr p w hv hp
  have F3 := fun w => rShade_any p w f
  have F4 := fun w => lyName_any v t x wr p w hv hp
  have F5 := fun w => rName_any p w f
  have F6 := fun w => lyRow_any v t x wr p w hv hp
  rw [hp] at F1
  generalize ofP (t % 32768) = qq at *
  obtain ⟨f1, f2, f3, f4, f5⟩ := f
  have bA : 0 ≤ shAt p ∧ shAt p < 65536 := by unfold shAt; omega
  have bB : 0 ≤ shBy p ∧ shBy p < 256 := by unfold shBy; omega
  obtain ⟨N, hN⟩ : ∃ N, 8192 + (p.c + 32 * p.l + 1024 * p.a + 2048 * p.d) = N := ⟨_, rfl⟩
  have bN : 0 ≤ N ∧ N < 65536 := by omega
  rw [hN] at F4 F5
  generalize shAt p = A at *
  generalize shBy p = B at *
  have e1 : IntKind.i64.wrap A = A := IntWalk.i64_in _ ⟨by omega, by omega⟩
  have e2 : IntKind.i64.wrap B = B := IntWalk.i64_in _ ⟨by omega, by omega⟩
  have e3 : IntKind.i64.wrap N = N := IntWalk.i64_in _ ⟨by omega, by omega⟩
  have e4 : IntKind.i64.wrap p.r = p.r := IntWalk.i64_in _ ⟨by omega, by omega⟩
  have r1 := ext_cell
  have r2 := ext_frozen
  have r3 := ext_setCell
  have r4 := ext_lt
  have r5 := ext_drew
  have r6 := ext_ext
  clear hN hp h bA bB bN
  unfold xv lv at F1
  unfold lv at F2 F4 F6
  unfold pv at F3 F5
  unfold lv
  go_enter Try.func4, Try.ntmps4
  go_upto_region 6 with (first
      | (go_at_call 10; refine (FA _).mono ?_; rintro e w1 ⟨rfl, os, q, rfl⟩)
      | (go_at_call 11; refine (F1 _).mono ?_; rintro e w1 ⟨rfl, os2, q2, rfl⟩)
      | (go_at_call 30; refine (F2 _).mono ?_; rintro e w1 ⟨rfl, os3, q3, rfl⟩)
      | (go_at_call 31; refine (F3 _).mono ?_; rintro e w1 ⟨rfl, os4, q4, rfl⟩))
  have hb : B4 _ _ ⟨v, t, x, wr⟩ := (B4.made w ⟨v, t, x, wr⟩ 24).ext ⟨os ++ os2, q + q2, rfl⟩
  have hB : Below w.heap.size w _ := ext_below ((Below.refl _ w).alloc (Nat.le_refl _) (.cells #[.int .u16 v, .int .u16 t, .int .u8 x, .bool wr] 24)) (by simp) (os ++ os2) (q + q2)
  simp only at hb
  generalize ext (w.alloc (.cells #[.int .u16 v, .int .u16 t, .int .u8 x, .bool wr] 24)) (os ++ os2) (q + q2) = W1 at *
  have hx := (B12.made W1 p qq (x % 8) wr 30).ext ⟨os3 ++ os4, q3 + q4, rfl⟩
  have hb2 := hb.ext (((Ext.refl W1).alloc (.cells #[.int .i64 p.c, .int .i64 p.l, .int .i64 p.a, .int .i64 p.d, .int .i64 p.r, .int .i64 qq.c, .int .i64 qq.l, .int .i64 qq.a, .int .i64 qq.d, .int .i64 qq.r, .int .i64 (x % 8), .bool wr] 30)).ext (os3 ++ os4) (q3 + q4))
  have hB2 := ext_below (hB.alloc hB.size (.cells #[.int .i64 p.c, .int .i64 p.l, .int .i64 p.a, .int .i64 p.d, .int .i64 p.r, .int .i64 qq.c, .int .i64 qq.l, .int .i64 qq.a, .int .i64 qq.d, .int .i64 qq.r, .int .i64 (x % 8), .bool wr] 30)) (Nat.le_trans hB.size (by simp)) (os3 ++ os4) (q3 + q4)
  generalize ext (W1.alloc (.cells #[.int .i64 p.c, .int .i64 p.l, .int .i64 p.a, .int .i64 p.d, .int .i64 p.r, .int .i64 qq.c, .int .i64 qq.l, .int .i64 qq.a, .int .i64 qq.d, .int .i64 qq.r, .int .i64 (x % 8), .bool wr] 30)) (os3 ++ os4) (q3 + q4) = W at *
  generalize W1.heap.size = X at *
  generalize hB0 : w.heap.size = B0 at *
  clear hb hB r1 r2 r3 r4 r5 r6 F1 F2 F3 FA
  have q0 : ∀ n, (mP W n).cell? ⟨B0, 0, none⟩ = some (.int .u16 v) := fun n => mP_cell hb2.lt hb2.c0 n
  have q1 : ∀ n, (mP W n).cell? ⟨B0, 1, none⟩ = some (.int .u16 t) := fun n => mP_cell hb2.lt hb2.c1 n
  have q2 : ∀ n, (mP W n).cell? ⟨B0, 2, none⟩ = some (.int .u8 x) := fun n => mP_cell hb2.lt hb2.c2 n
  have q3 : ∀ n, (mP W n).cell? ⟨B0, 3, none⟩ = some (.bool wr) := fun n => mP_cell hb2.lt hb2.c3 n
  have x0 : ∀ n, (mP W n).cell? ⟨X, 0, none⟩ = some (.int .i64 p.c) := fun n => mP_cell hx.lt hx.c0 n
  have x1 : ∀ n, (mP W n).cell? ⟨X, 1, none⟩ = some (.int .i64 p.l) := fun n => mP_cell hx.lt hx.c1 n
  have x2 : ∀ n, (mP W n).cell? ⟨X, 2, none⟩ = some (.int .i64 p.a) := fun n => mP_cell hx.lt hx.c2 n
  have x3 : ∀ n, (mP W n).cell? ⟨X, 3, none⟩ = some (.int .i64 p.d) := fun n => mP_cell hx.lt hx.c3 n
  have x4 : ∀ n, (mP W n).cell? ⟨X, 4, none⟩ = some (.int .i64 p.r) := fun n => mP_cell hx.lt hx.c4 n
  have Q4 : ∀ n, Calls Try.prog 32 #[.agg #[.int .u16 v, .int .u16 t, .int .u8 x, .bool wr]] (mP W n) (fun e w' => e = .returned (.int .u16 N) ∧ ∃ m, w' = mP W m) := fun n => Calls.more_q ((F4 _).mono fun _ _ h => ⟨h.1, h.2.below⟩)
  have Q5 : ∀ n, Calls Try.prog 33 #[.agg #[.int .i64 p.c, .int .i64 p.l, .int .i64 p.a, .int .i64 p.d, .int .i64 p.r]] (mP W n) (fun e w' => e = .returned (.int .i64 N) ∧ ∃ m, w' = mP W m) := fun n => Calls.more_q ((F5 _).mono fun _ _ h => ⟨h.1, h.2.below⟩)
  have Q6 : ∀ n, Calls Try.prog 34 #[.agg #[.int .u16 v, .int .u16 t, .int .u8 x, .bool wr]] (mP W n) (fun e w' => e = .returned (.int .u8 p.r) ∧ ∃ m, w' = mP W m) := fun n => Calls.more_q ((F6 _).mono fun _ _ h => ⟨h.1, h.2.below⟩)
  clear F4 F5 F6
  refine wp_region_more (by kernel_rfl) (by kernel_rfl) ?_
  repeat (go_big_quiet_step (first | (go_at_call 32; exact Q4 _) | (go_at_call 33; exact Q5 _) | (go_at_call 34; exact Q6 _)))
  refine wpQuiet_nil ?_
  intro w9 hw
  obtain ⟨nq, rfl⟩ := hw
  have hB3 := (mP_below W nq)
  have := hB2.size
  go_wp2
  go_ret
  subst hB0
  exact ⟨rfl, hB2.trans (hB3.mono (by omega))⟩

end Go.Proofs.Ytdbfdhfdfjdnoaa
