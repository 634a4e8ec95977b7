/- The document's operations that read (kotatsuref08.Read): ARR. No law is claimed here. -/
import Derived.Test.YtigpmmjbdpnkjaaRU3
namespace Go.Proofs.Ytigpmmjbdpnkjaa
open Go.RowKit

/-- a load of the box: by another name, as it is not to be taken first -/
def ldBox : Op := Op.load 26 (Operand.tmp 3)
theorem bx4_ext {v : World} {b : Nat} {k : IntKind} {a x y s p q : Int} (h : b < v.heap.size ∧ v.cell? ⟨b, 0, none⟩ = some (.int k a) ∧ v.cell? ⟨b, 1, none⟩ = some (.int k x) ∧ v.cell? ⟨b, 2, none⟩ = some (.int k y) ∧ v.cell? ⟨b, 3, none⟩ = some (.int k s) ∧ (v.cell? ⟨b, 4, none⟩ = some (.int k p) ∨ v.cell? ⟨b, 4, none⟩ = some (.int k q))) (os : List Obj) (n : Nat) :
    b < (ext v os n).heap.size ∧ (ext v os n).cell? ⟨b, 0, none⟩ = some (.int k a) ∧ (ext v os n).cell? ⟨b, 1, none⟩ = some (.int k x) ∧ (ext v os n).cell? ⟨b, 2, none⟩ = some (.int k y) ∧ (ext v os n).cell? ⟨b, 3, none⟩ = some (.int k s) ∧ ((ext v os n).cell? ⟨b, 4, none⟩ = some (.int k p) ∨ (ext v os n).cell? ⟨b, 4, none⟩ = some (.int k q)) := by
  obtain ⟨h0, h1, h2, h3, h4, h5⟩ := h
  refine ⟨ext_lt _ _ _ _ h0, ?_, ?_, ?_, ?_, ?_⟩ <;> (rw [ext_cell _ _ _ _ h0]; assumption)

set_option maxRecDepth 100000 in
set_option maxHeartbeats 4000000 in
theorem rread_arr (a x y s p m b : Int) (hu : Ok ⟨a, x, y, s, p⟩) (hm : 0 ≤ m ∧ m < 256) (hb : 0 ≤ b) (hb2 : b < 256) (tb : bits .and .i64 a m = b) (d : Int) (hd : b / 2 + 128 * (p % 2) = d) (w : World) :
    Calls Try.prog 16 #[rv a x y s p, .string { data := #[65, 82, 82] }, .int .i64 m] w fun e w' => e = .returned (rr (sgU (flU (flU ⟨d, x, y, s, p⟩ 1 (d / 64 % 2 == 1)) 64 ((d / 64 + d / 32) % 2 == 1)) d)) ∧ Ext w w' := by
  obtain ⟨⟨ha, ha2⟩, ⟨hx, hx2⟩, ⟨hy, hy2⟩, ⟨hs, hs2⟩, ⟨hp, hp2⟩⟩ := hu
  obtain ⟨hm, hm2⟩ := hm
  simp only at ha ha2 hx hx2 hy hy2 hs hs2 hp hp2
  have FS := rset_any
  unfold rr rv at FS
  have FG := rsign_any
  unfold rr rv at FG
  have FH := rhas_any
  have t3 := yesB
  have FH1 : ∀ w, Calls Try.prog 33 #[.int .i64 p, .int .i64 1] w fun e w' => e = .returned (.int .i64 (p % 2)) ∧ w' = w := fun w => by
    have := rhas_any p 1 hp hp2 (by decide) (by decide) w
    rwa [Int.ediv_one] at this
  have t1 : b.tdiv 2 = b / 2 := Int.tdiv_eq_ediv_of_nonneg hb
  have e1 : IntKind.i64.wrap (b / 2) = b / 2 := IntWalk.i64_in _ ⟨by omega, by omega⟩
  have e2 : IntKind.i64.wrap (128 * (p % 2)) = 128 * (p % 2) := IntWalk.i64_in _ ⟨by omega, by omega⟩
  have e3 : IntKind.i64.wrap (b / 2 + 128 * (p % 2)) = d := (IntWalk.i64_in _ ⟨by omega, by omega⟩).trans hd
  have d0 : 0 ≤ d := by omega
  have d1 : d < 256 := by omega
  have c0 : 0 ≤ d / 64 % 2 := by omega
  have c1 : d / 64 % 2 ≤ 1 := by omega
  have c2 : 0 ≤ (d / 64 + d / 32) % 2 := by omega
  have c3 : (d / 64 + d / 32) % 2 ≤ 1 := by omega
  have t2 : (d / 64 % 2 + d / 32 % 2).tmod 2 = (d / 64 + d / 32) % 2 := by rw [Int.tmod_eq_emod_of_nonneg (by omega)]; omega
  have e4 : IntKind.i64.wrap (d / 64 % 2 + d / 32 % 2) = d / 64 % 2 + d / 32 % 2 := IntWalk.i64_in _ ⟨by omega, by omega⟩
  clear hd
  have q0 : ∀ u f on, (flU u f on).a = u.a := fun _ _ _ => rfl
  have q1 : ∀ u f on, (flU u f on).x = u.x := fun _ _ _ => rfl
  have q2 : ∀ u f on, (flU u f on).y = u.y := fun _ _ _ => rfl
  have q3 : ∀ u f on, (flU u f on).s = u.s := fun _ _ _ => rfl
  have r1 := ext_cell
  have r2 := ext_frozen
  have r3 := ext_setCell
  have r4 := ext_lt
  have r5 := ext_drew
  have r6 := ext_ext
  unfold rr rv
  go_enter Try.func16, Try.ntmps16
  go_upto_region 49 with (fail)
  go_region_law (first | (go_simp; go_at_call 33; refine (FH1 _).mono ?_; rintro e w' ⟨rfl, rfl⟩))
  all_goals
    go_upto_region 50 with (fail)
    rw [show Op.load 26 (Operand.tmp 3) = ldBox from rfl]
    have hml : ldBox = Op.load 26 (Operand.tmp 3) := rfl
    go_region_held3 (fun v => w.heap.size < v.heap.size ∧ v.cell? ⟨w.heap.size, 0, none⟩ = some (.int .i64 d) ∧ v.cell? ⟨w.heap.size, 1, none⟩ = some (.int .i64 x) ∧ v.cell? ⟨w.heap.size, 2, none⟩ = some (.int .i64 y) ∧ v.cell? ⟨w.heap.size, 3, none⟩ = some (.int .i64 s) ∧ (v.cell? ⟨w.heap.size, 4, none⟩ = some (.int .i64 p) ∨ v.cell? ⟨w.heap.size, 4, none⟩ = some (.int .i64 (flU ⟨d, x, y, s, (flU ⟨d, x, y, s, p⟩ 1 (d / 64 % 2 == 1)).p⟩ 64 ((d / 64 + d / 32) % 2 == 1)).p))) (first | assumption | exact bx4_ext (by assumption) _ _ | (simp [go_sem]; done) | (refine bx4_ext ?_ _ _; simp [go_sem]; done) | (refine bx4_ext ?_ _ _; simp [go_sem]; exact Or.inr rfl)) (first | (go_at_call 32; refine (FS _ _ _ _ _ _ _ (by first | assumption | exact (flU_u8 _ _ _).1 | exact (sgU_u8 _ _).1) (by first | assumption | exact (flU_u8 _ _ _).2 | exact (sgU_u8 _ _).2) rfl (by first | assumption | exact yes0 _ | omega) (by first | assumption | exact yes1 _ | omega) _).mono ?_; rintro e w' ⟨rfl, os, q, rfl⟩) | (go_at_call 33; refine (FH _ _ (by first | assumption | exact (flU_u8 _ _ _).1) (by first | assumption | exact (flU_u8 _ _ _).2) (by decide) (by decide) _).mono ?_; rintro e w' ⟨rfl, rfl⟩))
    all_goals go_wp2_with (first | (go_at_call 32; refine (FS _ _ _ _ _ _ _ (by first | assumption | exact (flU_u8 _ _ _).1 | exact (sgU_u8 _ _).1) (by first | assumption | exact (flU_u8 _ _ _).2 | exact (sgU_u8 _ _).2) rfl (by first | assumption | exact yes0 _ | omega) (by first | assumption | exact yes1 _ | omega) _).mono ?_; rintro e w' ⟨rfl, os, q, rfl⟩) | (go_at_call 31; refine (FG _ _ _ _ _ _ (by first | assumption | exact (flU_u8 _ _ _).1 | exact (sgU_u8 _ _).1) (by first | assumption | exact (flU_u8 _ _ _).2 | exact (sgU_u8 _ _).2) (by first | assumption | omega) (by first | assumption | omega) _).mono ?_; rintro e w' ⟨rfl, os, q, rfl⟩) | (go_at_call 33; refine (FH _ _ (by first | assumption | exact (flU_u8 _ _ _).1) (by first | assumption | exact (flU_u8 _ _ _).2) (by decide) (by decide) _).mono ?_; rintro e w' ⟨rfl, rfl⟩))
  all_goals
    refine bodyPost_ret (by simp [results, Try.results16, go_sem, *] <;> (repeat' (first | exact rfl | refine And.intro ?_ ?_))) rfl ⟨rfl, ?_⟩
    repeat (first | exact Ext.refl _ | refine Ext.alloc ?_ _ | refine Ext.ext ?_ _ _ | refine Ext.drew ?_ | refine Ext.drewN ?_ _)

end Go.Proofs.Ytigpmmjbdpnkjaa
