/- The document's sum of layer 8 (kotatsuref08). No law is claimed here. -/
import Derived.Test.YtigpmmjbdpnkjaaRU2
namespace Go.Proofs.Ytigpmmjbdpnkjaa
open Go.RowKit

/-- the sum with signs -/
def realN (a m c : Int) : Int := sgnN a + sgnN m + c
theorem sgnN_in (m : Int) (h : 0 ≤ m) (h2 : m < 256) : -128 ≤ sgnN m ∧ sgnN m < 128 := by unfold sgnN; split <;> omega
def addV (u : Un) (m : Int) (ov : Bool) : Un := ldaU (flU (flU u 1 ((u.a + m + u.p % 2) / 256 == 1)) 64 ov) ((u.a + m + u.p % 2) % 256)
set_option maxRecDepth 100000 in
set_option maxHeartbeats 2000000 in
theorem radd_raw (a x y s p m : Int) (ov : Bool) (ha : 0 ≤ a) (ha2 : a < 256) (hp : 0 ≤ p) (hp2 : p < 256) (hm : 0 ≤ m) (hm2 : m < 256)
    (hov : ov = (decide (realN a m (p % 2) < -128) || decide (127 < realN a m (p % 2)))) (w : World) :
    Calls Try.prog 29 #[rv a x y s p, .int .i64 m] w fun e w' => e = .returned (rr (addV ⟨a, x, y, s, p⟩ m ov)) ∧ Ext w w' := by
  have FS := rset_any
  unfold rr rv at FS
  have FY := ryes_any
  have FG := rsign_any
  unfold rr rv at FG
  have FH : ∀ w, Calls Try.prog 33 #[.int .i64 p, .int .i64 1] w fun e w' => e = .returned (.int .i64 (p % 2)) ∧ w' = w := fun w => by
    have := rhas_any p 1 hp hp2 (by decide) (by decide) w
    rwa [Int.ediv_one] at this
  have FD := rsigned_any
  have g1 := sgnN_in a ha ha2
  have g2 := sgnN_in m hm hm2
  have g3 : realN a m (p % 2) = sgnN a + sgnN m + p % 2 := rfl
  have hc : 0 ≤ p % 2 ∧ p % 2 < 2 := by omega
  have e1 : IntKind.i64.wrap (a + m) = a + m := IntWalk.i64_in _ ⟨by omega, by omega⟩
  have e2 : IntKind.i64.wrap (a + m + p % 2) = a + m + p % 2 := IntWalk.i64_in _ ⟨by omega, by omega⟩
  have e3 : IntKind.i64.wrap (sgnN a + sgnN m) = sgnN a + sgnN m := IntWalk.i64_in _ ⟨by omega, by omega⟩
  have e4 : IntKind.i64.wrap (sgnN a + sgnN m + p % 2) = realN a m (p % 2) := (IntWalk.i64_in _ ⟨by omega, by omega⟩).trans g3.symm
  have t1 : (a + m + p % 2).tdiv 256 = (a + m + p % 2) / 256 := Int.tdiv_eq_ediv_of_nonneg (by omega)
  have t2 : (a + m + p % 2).tmod 256 = (a + m + p % 2) % 256 := Int.tmod_eq_emod_of_nonneg (by omega)
  have t3 := yesB
  have t4 : 0 ≤ (a + m + p % 2) / 256 := by omega
  have t5 : (a + m + p % 2) / 256 ≤ 1 := by omega
  have t6 : 0 ≤ (a + m + p % 2) % 256 := by omega
  have t7 : (a + m + p % 2) % 256 < 256 := by omega
  clear g1 g2 g3 hc
  generalize realN a m (p % 2) = R at *
  have r1 := ext_cell
  have r2 := ext_frozen
  have r3 := ext_setCell
  have r4 := ext_lt
  have r5 := ext_drew
  have r6 := ext_ext
  by_cases hR : R < -128
  · have hov2 : ov = true := by rw [hov, decide_eq_true hR]; rfl
    clear hov
    subst hov2
    unfold rr rv
    go_enter Try.func29, Try.ntmps29
    go_upto_region 1 with (fail)
    go_region_held3 (fun v => w.heap.size < v.heap.size ∧ v.cell? ⟨w.heap.size, 0, none⟩ = some (.int .i64 a) ∧ v.cell? ⟨w.heap.size, 1, none⟩ = some (.int .i64 x) ∧ v.cell? ⟨w.heap.size, 2, none⟩ = some (.int .i64 y) ∧ v.cell? ⟨w.heap.size, 3, none⟩ = some (.int .i64 s) ∧ v.cell? ⟨w.heap.size, 4, none⟩ = some (.int .i64 p)) (first | assumption | exact bx_ext (by assumption) _ _ | (simp [go_sem]; done) | (refine bx_ext ?_ _ _; simp [go_sem]; done)) (first | (go_at_call 33; refine (FH _).mono ?_; rintro e w' ⟨rfl, rfl⟩))
    rename_i hH
    clear hH
    go_upto_region 2 with (fail)
    go_region_held3 (fun v => w.heap.size < v.heap.size ∧ v.cell? ⟨w.heap.size, 0, none⟩ = some (.int .i64 a) ∧ v.cell? ⟨w.heap.size, 1, none⟩ = some (.int .i64 x) ∧ v.cell? ⟨w.heap.size, 2, none⟩ = some (.int .i64 y) ∧ v.cell? ⟨w.heap.size, 3, none⟩ = some (.int .i64 s) ∧ v.cell? ⟨w.heap.size, 4, none⟩ = some (.int .i64 p)) (first | assumption | exact bx_ext (by assumption) _ _ | (simp [go_sem]; done) | (refine bx_ext ?_ _ _; simp [go_sem]; done)) (first | (go_at_call 33; refine (FH _).mono ?_; rintro e w' ⟨rfl, rfl⟩) | (go_at_call 42; refine (FD _ (by assumption) (by assumption) _).mono ?_; rintro e w' ⟨rfl, rfl⟩))
    rename_i hH
    clear hH
    go_wp2_with (first | (go_at_call 32; refine (FS _ _ _ _ _ _ _ (by first | assumption | exact (flU_u8 _ _ _).1 | exact (sgU_u8 _ _).1) (by first | assumption | exact (flU_u8 _ _ _).2 | exact (sgU_u8 _ _).2) rfl (by first | assumption | exact yes0 _ | omega) (by first | assumption | exact yes1 _ | omega) _).mono ?_; rintro e w' ⟨rfl, os, q, rfl⟩) | (go_at_call 34; refine (FY _ _).mono ?_; rintro e w' ⟨rfl, rfl⟩) | (go_at_call 31; refine (FG _ _ _ _ _ _ (by first | assumption | exact (flU_u8 _ _ _).1 | exact (sgU_u8 _ _).1) (by first | assumption | exact (flU_u8 _ _ _).2 | exact (sgU_u8 _ _).2) (by first | assumption | omega) (by first | assumption | omega) _).mono ?_; rintro e w' ⟨rfl, os, q, rfl⟩))
    all_goals
      refine bodyPost_ret (by simp [results, Try.results29, go_sem, *] <;> (repeat' (first | exact rfl | refine And.intro ?_ ?_))) rfl ⟨rfl, ?_⟩
      repeat (first | exact Ext.refl _ | refine Ext.alloc ?_ _ | refine Ext.ext ?_ _ _ | refine Ext.drew ?_ | refine Ext.drewN ?_ _)

  · subst hov
    unfold rr rv
    go_enter Try.func29, Try.ntmps29
    go_upto_region 1 with (fail)
    go_region_held3 (fun v => w.heap.size < v.heap.size ∧ v.cell? ⟨w.heap.size, 0, none⟩ = some (.int .i64 a) ∧ v.cell? ⟨w.heap.size, 1, none⟩ = some (.int .i64 x) ∧ v.cell? ⟨w.heap.size, 2, none⟩ = some (.int .i64 y) ∧ v.cell? ⟨w.heap.size, 3, none⟩ = some (.int .i64 s) ∧ v.cell? ⟨w.heap.size, 4, none⟩ = some (.int .i64 p)) (first | assumption | exact bx_ext (by assumption) _ _ | (simp [go_sem]; done) | (refine bx_ext ?_ _ _; simp [go_sem]; done)) (first | (go_at_call 33; refine (FH _).mono ?_; rintro e w' ⟨rfl, rfl⟩))
    rename_i hH
    clear hH
    go_upto_region 2 with (fail)
    go_region_held3 (fun v => w.heap.size < v.heap.size ∧ v.cell? ⟨w.heap.size, 0, none⟩ = some (.int .i64 a) ∧ v.cell? ⟨w.heap.size, 1, none⟩ = some (.int .i64 x) ∧ v.cell? ⟨w.heap.size, 2, none⟩ = some (.int .i64 y) ∧ v.cell? ⟨w.heap.size, 3, none⟩ = some (.int .i64 s) ∧ v.cell? ⟨w.heap.size, 4, none⟩ = some (.int .i64 p)) (first | assumption | exact bx_ext (by assumption) _ _ | (simp [go_sem]; done) | (refine bx_ext ?_ _ _; simp [go_sem]; done)) (first | (go_at_call 33; refine (FH _).mono ?_; rintro e w' ⟨rfl, rfl⟩) | (go_at_call 42; refine (FD _ (by assumption) (by assumption) _).mono ?_; rintro e w' ⟨rfl, rfl⟩))
    rename_i hH
    clear hH
    go_wp2_with (first | (go_at_call 32; refine (FS _ _ _ _ _ _ _ (by first | assumption | exact (flU_u8 _ _ _).1 | exact (sgU_u8 _ _).1) (by first | assumption | exact (flU_u8 _ _ _).2 | exact (sgU_u8 _ _).2) rfl (by first | assumption | exact yes0 _ | omega) (by first | assumption | exact yes1 _ | omega) _).mono ?_; rintro e w' ⟨rfl, os, q, rfl⟩) | (go_at_call 34; refine (FY _ _).mono ?_; rintro e w' ⟨rfl, rfl⟩) | (go_at_call 31; refine (FG _ _ _ _ _ _ (by first | assumption | exact (flU_u8 _ _ _).1 | exact (sgU_u8 _ _).1) (by first | assumption | exact (flU_u8 _ _ _).2 | exact (sgU_u8 _ _).2) (by first | assumption | omega) (by first | assumption | omega) _).mono ?_; rintro e w' ⟨rfl, os, q, rfl⟩))
    all_goals
      refine bodyPost_ret (by simp [results, Try.results29, go_sem, *] <;> (repeat' (first | exact rfl | refine And.intro ?_ ?_))) rfl ⟨rfl, ?_⟩
      repeat (first | exact Ext.refl _ | refine Ext.alloc ?_ _ | refine Ext.ext ?_ _ _ | refine Ext.drew ?_ | refine Ext.drewN ?_ _)

theorem over_eq (a m c : Int) (ha : 0 ≤ a ∧ a < 256) (hm : 0 ≤ m ∧ m < 256) (hc : 0 ≤ c ∧ c < 2) :
    ((bits .and .u8 a 128 == bits .and .u8 m 128) && (bits .and .u8 a 128 != bits .and .u8 ((a + m + c) % 256) 128)) = (decide (realN a m c < -128) || decide (127 < realN a m c)) := by
  unfold realN sgnN
  rw [top_bit a ha, top_bit m hm, top_bit ((a + m + c) % 256) (by omega)]
  by_cases h1 : 128 ≤ a <;> by_cases h2 : 128 ≤ m <;> by_cases h3 : 128 ≤ (a + m + c) % 256 <;> simp [h1, h2, h3, show (127 < a) = (128 ≤ a) from by simp; omega, show (127 < m) = (128 ≤ m) from by simp; omega] <;> omega

theorem radd_any (a x y s p m : Int) (ha : 0 ≤ a) (ha2 : a < 256) (hp : 0 ≤ p) (hp2 : p < 256) (hm : 0 ≤ m) (hm2 : m < 256) (w : World) :
    Calls Try.prog 29 #[rv a x y s p, .int .i64 m] w fun e w' => e = .returned (rr (adcU ⟨a, x, y, s, p⟩ m)) ∧ Ext w w' := by
  have hc : 0 ≤ p % 2 ∧ p % 2 < 2 := by omega
  have ho := over_eq a m (p % 2) ⟨ha, ha2⟩ ⟨hm, hm2⟩ hc
  have hu : adcU ⟨a, x, y, s, p⟩ m = addV ⟨a, x, y, s, p⟩ m (decide (realN a m (p % 2) < -128) || decide (127 < realN a m (p % 2))) := by
    rw [← ho]
    unfold adcU adcV addV
    simp only []
    rw [low_bit p ⟨hp, hp2⟩]
    have h1 : decide (255 < a + m + p % 2) = ((a + m + p % 2) / 256 == 1) := by
      by_cases h : 255 < a + m + p % 2
      · rw [decide_eq_true h, eq_comm, beq_iff_eq]; omega
      · rw [decide_eq_false h, eq_comm, beq_eq_false_iff_ne]; omega
    rw [h1]
  rw [hu]
  exact radd_raw a x y s p m _ ha ha2 hp hp2 hm hm2 rfl w

end Go.Proofs.Ytigpmmjbdpnkjaa
