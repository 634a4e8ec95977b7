/- The document's numbers of layer 8: signs, sums, differences (kotatsuref08). No law is claimed here. -/
import Derived.Test.YtigpmmjbdpnkjaaRU1
namespace Go.Proofs.Ytigpmmjbdpnkjaa
open Go.RowKit

theorem flU_u8 (u : Un) (f : Int) (b : Bool) : 0 ≤ (flU u f b).p ∧ (flU u f b).p < 256 := fl_u8 _ _ _
theorem sgU_u8 (u : Un) (m : Int) : 0 ≤ (sgU u m).p ∧ (sgU u m).p < 256 := flU_u8 _ _ _
/-- the flags that there are -/
def isF (f : Int) : Bool := f == 1 || f == 2 || f == 4 || f == 8 || f == 64 || f == 128
theorem num1 : ∀ (p : Fin 256) (b : Bool), (p.val : Int) + ((if b then 1 else 0) - (p.val : Int) / 1 % 2) * 1 = fl p.val 1 b := by decide +kernel
theorem num2 : ∀ (p : Fin 256) (b : Bool), (p.val : Int) + ((if b then 1 else 0) - (p.val : Int) / 2 % 2) * 2 = fl p.val 2 b := by decide +kernel
theorem num4 : ∀ (p : Fin 256) (b : Bool), (p.val : Int) + ((if b then 1 else 0) - (p.val : Int) / 4 % 2) * 4 = fl p.val 4 b := by decide +kernel
theorem num8 : ∀ (p : Fin 256) (b : Bool), (p.val : Int) + ((if b then 1 else 0) - (p.val : Int) / 8 % 2) * 8 = fl p.val 8 b := by decide +kernel
theorem num64 : ∀ (p : Fin 256) (b : Bool), (p.val : Int) + ((if b then 1 else 0) - (p.val : Int) / 64 % 2) * 64 = fl p.val 64 b := by decide +kernel
theorem num128 : ∀ (p : Fin 256) (b : Bool), (p.val : Int) + ((if b then 1 else 0) - (p.val : Int) / 128 % 2) * 128 = fl p.val 128 b := by decide +kernel
theorem fl_num (p f on : Int) (hp : 0 ≤ p) (hp2 : p < 256) (hf : isF f = true) (ho : 0 ≤ on) (ho2 : on ≤ 1) : p + (on - p / f % 2) * f = fl p f (on == 1) := by
  obtain ⟨k, rfl⟩ : ∃ k : Nat, p = (k : Int) := ⟨p.toNat, by omega⟩
  obtain ⟨b, rfl⟩ : ∃ b : Bool, on = if b then 1 else 0 := by
    by_cases h : on = 1
    · exact ⟨true, by rw [if_pos rfl]; exact h⟩
    · exact ⟨false, by rw [if_neg (by decide)]; omega⟩
  have hb : (((if b then 1 else 0 : Int)) == 1) = b := by cases b <;> rfl
  rw [hb]
  unfold isF at hf
  simp only [Bool.or_eq_true, beq_iff_eq] at hf
  rcases hf with ((((rfl | rfl) | rfl) | rfl) | rfl) | rfl
  · exact num1 ⟨k, by omega⟩ b
  · exact num2 ⟨k, by omega⟩ b
  · exact num4 ⟨k, by omega⟩ b
  · exact num8 ⟨k, by omega⟩ b
  · exact num64 ⟨k, by omega⟩ b
  · exact num128 ⟨k, by omega⟩ b
theorem yes0 (b : Bool) : 0 ≤ yesN b := by cases b <;> decide
theorem yes1 (b : Bool) : yesN b ≤ 1 := by cases b <;> decide
theorem yesB (b : Bool) : (yesN b == 1) = b := by cases b <;> rfl

theorem rset_any (a x y s p f on : Int) (hp : 0 ≤ p) (hp2 : p < 256) (hf : isF f = true) (ho : 0 ≤ on) (ho2 : on ≤ 1) (w : World) :
    Calls Try.prog 32 #[rv a x y s p, .int .i64 f, .int .i64 on] w fun e w' => e = .returned (rr (flU ⟨a, x, y, s, p⟩ f (on == 1))) ∧ Ext w w' := by
  have hb : 1 ≤ f ∧ f < 256 := by
    unfold isF at hf
    simp only [Bool.or_eq_true, beq_iff_eq] at hf
    omega
  have := rset_raw a x y s p f on hp hp2 hb.1 hb.2 ho ho2 w
  rw [fl_num p f on hp hp2 hf ho ho2] at this
  exact this

theorem div128 (m : Int) (h : 0 ≤ m) (h2 : m < 256) : (m / 128 == 1) = decide (128 ≤ m) := by
  by_cases k : 128 ≤ m
  · rw [decide_eq_true k, beq_iff_eq]; omega
  · rw [decide_eq_false k, beq_eq_false_iff_ne]; omega

set_option maxRecDepth 100000 in
set_option maxHeartbeats 1000000 in
theorem rsign_any (a x y s p m : Int) (hp : 0 ≤ p) (hp2 : p < 256) (hm : 0 ≤ m) (hm2 : m < 256) (w : World) :
    Calls Try.prog 31 #[rv a x y s p, .int .i64 m] w fun e w' => e = .returned (rr (sgU ⟨a, x, y, s, p⟩ m)) ∧ Ext w w' := by
  have FS := rset_any
  unfold rr rv at FS
  have FY := ryes_any
  have t1 : m.tdiv 128 = m / 128 := Int.tdiv_eq_ediv_of_nonneg hm
  have t2 : (m / 128 == 1) = decide (128 ≤ m) := div128 m hm hm2
  have t3 := yesB
  have t4 : 0 ≤ m / 128 := by omega
  have t5 : m / 128 ≤ 1 := by omega
  have r1 := ext_cell
  have r2 := ext_frozen
  have r3 := ext_setCell
  have r4 := ext_lt
  have r5 := ext_drew
  have r6 := ext_ext
  unfold rr rv
  go_enter Try.func31, Try.ntmps31
  go_wp2_with (first | (go_at_call 32; refine (FS _ _ _ _ _ _ _ (by first | assumption | exact (flU_u8 _ _ _).1 | exact (sgU_u8 _ _).1) (by first | assumption | exact (flU_u8 _ _ _).2 | exact (sgU_u8 _ _).2) rfl (by first | assumption | exact yes0 _ | omega) (by first | assumption | exact yes1 _ | omega) _).mono ?_; rintro e w' ⟨rfl, os, q, rfl⟩) | (go_at_call 34; refine (FY _ _).mono ?_; rintro e w' ⟨rfl, rfl⟩))
  refine bodyPost_ret (by simp [results, Try.results31, go_sem, *] <;> (repeat' (first | exact rfl | refine And.intro ?_ ?_))) rfl ⟨rfl, ?_⟩
  repeat (first | exact Ext.refl _ | refine Ext.alloc ?_ _ | refine Ext.ext ?_ _ _ | refine Ext.drew ?_ | refine Ext.drewN ?_ _)

set_option maxRecDepth 100000 in
set_option maxHeartbeats 1000000 in
theorem rless_any (a x y s p r m : Int) (hp : 0 ≤ p) (hp2 : p < 256) (hr : 0 ≤ r) (hr2 : r < 256) (hm : 0 ≤ m) (hm2 : m < 256) (w : World) :
    Calls Try.prog 30 #[rv a x y s p, .int .i64 r, .int .i64 m] w fun e w' => e = .returned (rr (cmpU ⟨a, x, y, s, p⟩ r m)) ∧ Ext w w' := by
  have FS := rset_any
  unfold rr rv at FS
  have FY := ryes_any
  have FG := rsign_any
  unfold rr rv at FG
  have t1 : (r + 256 - m).tmod 256 = (r + 256 - m) % 256 := Int.tmod_eq_emod_of_nonneg (by omega)
  have t2 : (r + 256 - m) % 256 = IntKind.u8.wrap (r - m) := by rw [wrap_u8_mod]; omega
  rw [t2] at t1
  have t3 := yesB
  have t6 : 0 ≤ IntKind.u8.wrap (r - m) := by rw [wrap_u8_mod]; omega
  have t7 : IntKind.u8.wrap (r - m) < 256 := by rw [wrap_u8_mod]; omega
  have e1 : IntKind.i64.wrap (r + 256) = r + 256 := IntWalk.i64_in _ ⟨by omega, by omega⟩
  have e2 : IntKind.i64.wrap (r + 256 - m) = r + 256 - m := IntWalk.i64_in _ ⟨by omega, by omega⟩
  clear t2 hr hr2 hm hm2
  have r1 := ext_cell
  have r2 := ext_frozen
  have r3 := ext_setCell
  have r4 := ext_lt
  have r5 := ext_drew
  have r6 := ext_ext
  unfold rr rv
  go_enter Try.func30, Try.ntmps30
  go_upto_region 1 with (fail)
  go_region_held3 (fun v => w.heap.size < v.heap.size ∧ v.cell? ⟨w.heap.size, 0, none⟩ = some (.int .i64 a) ∧ v.cell? ⟨w.heap.size, 1, none⟩ = some (.int .i64 x) ∧ v.cell? ⟨w.heap.size, 2, none⟩ = some (.int .i64 y) ∧ v.cell? ⟨w.heap.size, 3, none⟩ = some (.int .i64 s) ∧ v.cell? ⟨w.heap.size, 4, none⟩ = some (.int .i64 p)) (first | assumption | exact bx_ext (by assumption) _ _ | (simp [go_sem]; done) | (refine bx_ext ?_ _ _; simp [go_sem]; done)) (first | (go_at_call 32; refine (FS _ _ _ _ _ _ _ (by first | assumption | exact (flU_u8 _ _ _).1 | exact (sgU_u8 _ _).1) (by first | assumption | exact (flU_u8 _ _ _).2 | exact (sgU_u8 _ _).2) rfl (by first | assumption | exact yes0 _ | omega) (by first | assumption | exact yes1 _ | omega) _).mono ?_; rintro e w' ⟨rfl, os, q, rfl⟩) | (go_at_call 34; refine (FY _ _).mono ?_; rintro e w' ⟨rfl, rfl⟩) | (go_at_call 31; refine (FG _ _ _ _ _ _ (by first | assumption | exact (flU_u8 _ _ _).1 | exact (sgU_u8 _ _).1) (by first | assumption | exact (flU_u8 _ _ _).2 | exact (sgU_u8 _ _).2) (by first | assumption | omega) (by first | assumption | omega) _).mono ?_; rintro e w' ⟨rfl, os, q, rfl⟩))
  all_goals
    go_wp2
    refine bodyPost_ret (by simp [results, Try.results30, go_sem, *] <;> (repeat' (first | exact rfl | refine And.intro ?_ ?_))) rfl ⟨rfl, ?_⟩
    repeat (first | exact Ext.refl _ | refine Ext.alloc ?_ _ | refine Ext.ext ?_ _ _ | refine Ext.drew ?_ | refine Ext.drewN ?_ _)

end Go.Proofs.Ytigpmmjbdpnkjaa
