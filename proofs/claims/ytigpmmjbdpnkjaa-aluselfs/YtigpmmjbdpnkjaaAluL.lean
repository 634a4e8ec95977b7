/- Every operation of registers alone, number by number. No law is claimed here. -/
import Derived.Test.YtigpmmjbdpnkjaaAluK
import Derived.Test.YtigpmmjbdpnkjaaAluJ
import Derived.Test.YtigpmmjbdpnkjaaAlu9
import Derived.Test.YtigpmmjbdpnkjaaRU11
import Derived.Test.YtigpmmjbdpnkjaaRU12
import Derived.Test.YtigpmmjbdpnkjaaRU13
import Derived.Test.YtigpmmjbdpnkjaaRU14
import Derived.Test.YtigpmmjbdpnkjaaRU15
import Derived.Test.YtigpmmjbdpnkjaaRU16
namespace Go.Proofs.Ytigpmmjbdpnkjaa
open Go.RowKit

theorem wr_in (n : Int) : 0 ≤ IntKind.u8.wrap n ∧ IntKind.u8.wrap n < 256 := by rw [wrap_u8_mod]; omega
theorem ok_ldx (u : Un) (m : Int) (h : Ok u) (hm : 0 ≤ m ∧ m < 256) : Ok (ldxU u m) := ok_sg _ _ ⟨h.1, hm, h.2.2.1, h.2.2.2.1, h.2.2.2.2⟩
theorem ok_ldy (u : Un) (m : Int) (h : Ok u) (hm : 0 ≤ m ∧ m < 256) : Ok (ldyU u m) := ok_sg _ _ ⟨h.1, h.2.1, hm, h.2.2.2.1, h.2.2.2.2⟩
theorem wrap_up (n : Int) : (n + 1) % 256 = IntKind.u8.wrap (n + 1) := (wrap_u8_mod _).symm
theorem wrap_dn (n : Int) : (n + 255) % 256 = IntKind.u8.wrap (n - 1) := by rw [wrap_u8_mod]; omega
theorem ok_a (u : Un) (m : Int) (h : Ok u) (hm : 0 ≤ m ∧ m < 256) : Ok { u with a := m } := ⟨hm, h.2⟩

set_option maxRecDepth 100000 in
set_option maxHeartbeats 1000000 in
theorem selfs_nop (a x y s p : Int) (w : World) (hu : Ok ⟨a, x, y, s, p⟩) :
    Calls Try.prog 5 #[uv a x y s p, .int .u8 0] w fun e w' => e = .returned (.bool true) ∧ Ext w w' :=
  aluSelfs_g a x y s p 0 (⟨a, x, y, s, p⟩) { data := #[78, 79, 80] } w hu hu (by decide) (fun w => Self_other a x y s p 0 w (by decide) (by decide)) (fun w => rself_nop a x y s p w) (fun w => rname_any 0 _ (by decide) rfl w)

set_option maxRecDepth 100000 in
set_option maxHeartbeats 1000000 in
theorem selfs_ora (a x y s p : Int) (w : World) (hu : Ok ⟨a, x, y, s, p⟩) :
    Calls Try.prog 5 #[uv a x y s p, .int .u8 1] w fun e w' => e = .returned (.bool true) ∧ Ext w w' :=
  aluSelfs_g a x y s p 1 (⟨a, x, y, s, p⟩) { data := #[79, 82, 65] } w hu hu (by decide) (fun w => Self_other a x y s p 1 w (by decide) (by decide)) (fun w => rself_ora a x y s p w) (fun w => rname_any 1 _ (by decide) rfl w)

set_option maxRecDepth 100000 in
set_option maxHeartbeats 1000000 in
theorem selfs_and (a x y s p : Int) (w : World) (hu : Ok ⟨a, x, y, s, p⟩) :
    Calls Try.prog 5 #[uv a x y s p, .int .u8 2] w fun e w' => e = .returned (.bool true) ∧ Ext w w' :=
  aluSelfs_g a x y s p 2 (⟨a, x, y, s, p⟩) { data := #[65, 78, 68] } w hu hu (by decide) (fun w => Self_other a x y s p 2 w (by decide) (by decide)) (fun w => rself_and a x y s p w) (fun w => rname_any 2 _ (by decide) rfl w)

set_option maxRecDepth 100000 in
set_option maxHeartbeats 1000000 in
theorem selfs_eor (a x y s p : Int) (w : World) (hu : Ok ⟨a, x, y, s, p⟩) :
    Calls Try.prog 5 #[uv a x y s p, .int .u8 3] w fun e w' => e = .returned (.bool true) ∧ Ext w w' :=
  aluSelfs_g a x y s p 3 (⟨a, x, y, s, p⟩) { data := #[69, 79, 82] } w hu hu (by decide) (fun w => Self_other a x y s p 3 w (by decide) (by decide)) (fun w => rself_eor a x y s p w) (fun w => rname_any 3 _ (by decide) rfl w)

set_option maxRecDepth 100000 in
set_option maxHeartbeats 1000000 in
theorem selfs_adc (a x y s p : Int) (w : World) (hu : Ok ⟨a, x, y, s, p⟩) :
    Calls Try.prog 5 #[uv a x y s p, .int .u8 4] w fun e w' => e = .returned (.bool true) ∧ Ext w w' :=
  aluSelfs_g a x y s p 4 (⟨a, x, y, s, p⟩) { data := #[65, 68, 67] } w hu hu (by decide) (fun w => Self_other a x y s p 4 w (by decide) (by decide)) (fun w => rself_adc a x y s p w) (fun w => rname_any 4 _ (by decide) rfl w)

set_option maxRecDepth 100000 in
set_option maxHeartbeats 1000000 in
theorem selfs_sbc (a x y s p : Int) (w : World) (hu : Ok ⟨a, x, y, s, p⟩) :
    Calls Try.prog 5 #[uv a x y s p, .int .u8 5] w fun e w' => e = .returned (.bool true) ∧ Ext w w' :=
  aluSelfs_g a x y s p 5 (⟨a, x, y, s, p⟩) { data := #[83, 66, 67] } w hu hu (by decide) (fun w => Self_other a x y s p 5 w (by decide) (by decide)) (fun w => rself_sbc a x y s p w) (fun w => rname_any 5 _ (by decide) rfl w)

set_option maxRecDepth 100000 in
set_option maxHeartbeats 1000000 in
theorem selfs_cmp (a x y s p : Int) (w : World) (hu : Ok ⟨a, x, y, s, p⟩) :
    Calls Try.prog 5 #[uv a x y s p, .int .u8 6] w fun e w' => e = .returned (.bool true) ∧ Ext w w' :=
  aluSelfs_g a x y s p 6 (⟨a, x, y, s, p⟩) { data := #[67, 77, 80] } w hu hu (by decide) (fun w => Self_other a x y s p 6 w (by decide) (by decide)) (fun w => rself_cmp a x y s p w) (fun w => rname_any 6 _ (by decide) rfl w)

set_option maxRecDepth 100000 in
set_option maxHeartbeats 1000000 in
theorem selfs_cpx (a x y s p : Int) (w : World) (hu : Ok ⟨a, x, y, s, p⟩) :
    Calls Try.prog 5 #[uv a x y s p, .int .u8 7] w fun e w' => e = .returned (.bool true) ∧ Ext w w' :=
  aluSelfs_g a x y s p 7 (⟨a, x, y, s, p⟩) { data := #[67, 80, 88] } w hu hu (by decide) (fun w => Self_other a x y s p 7 w (by decide) (by decide)) (fun w => rself_cpx a x y s p w) (fun w => rname_any 7 _ (by decide) rfl w)

set_option maxRecDepth 100000 in
set_option maxHeartbeats 1000000 in
theorem selfs_cpy (a x y s p : Int) (w : World) (hu : Ok ⟨a, x, y, s, p⟩) :
    Calls Try.prog 5 #[uv a x y s p, .int .u8 8] w fun e w' => e = .returned (.bool true) ∧ Ext w w' :=
  aluSelfs_g a x y s p 8 (⟨a, x, y, s, p⟩) { data := #[67, 80, 89] } w hu hu (by decide) (fun w => Self_other a x y s p 8 w (by decide) (by decide)) (fun w => rself_cpy a x y s p w) (fun w => rname_any 8 _ (by decide) rfl w)

set_option maxRecDepth 100000 in
set_option maxHeartbeats 1000000 in
theorem selfs_lda (a x y s p : Int) (w : World) (hu : Ok ⟨a, x, y, s, p⟩) :
    Calls Try.prog 5 #[uv a x y s p, .int .u8 9] w fun e w' => e = .returned (.bool true) ∧ Ext w w' :=
  aluSelfs_g a x y s p 9 (⟨a, x, y, s, p⟩) { data := #[76, 68, 65] } w hu hu (by decide) (fun w => Self_other a x y s p 9 w (by decide) (by decide)) (fun w => rself_lda a x y s p w) (fun w => rname_any 9 _ (by decide) rfl w)

set_option maxRecDepth 100000 in
set_option maxHeartbeats 1000000 in
theorem selfs_ldx (a x y s p : Int) (w : World) (hu : Ok ⟨a, x, y, s, p⟩) :
    Calls Try.prog 5 #[uv a x y s p, .int .u8 10] w fun e w' => e = .returned (.bool true) ∧ Ext w w' :=
  aluSelfs_g a x y s p 10 (⟨a, x, y, s, p⟩) { data := #[76, 68, 88] } w hu hu (by decide) (fun w => Self_other a x y s p 10 w (by decide) (by decide)) (fun w => rself_ldx a x y s p w) (fun w => rname_any 10 _ (by decide) rfl w)

set_option maxRecDepth 100000 in
set_option maxHeartbeats 1000000 in
theorem selfs_ldy (a x y s p : Int) (w : World) (hu : Ok ⟨a, x, y, s, p⟩) :
    Calls Try.prog 5 #[uv a x y s p, .int .u8 11] w fun e w' => e = .returned (.bool true) ∧ Ext w w' :=
  aluSelfs_g a x y s p 11 (⟨a, x, y, s, p⟩) { data := #[76, 68, 89] } w hu hu (by decide) (fun w => Self_other a x y s p 11 w (by decide) (by decide)) (fun w => rself_ldy a x y s p w) (fun w => rname_any 11 _ (by decide) rfl w)

set_option maxRecDepth 100000 in
set_option maxHeartbeats 1000000 in
theorem selfs_bit (a x y s p : Int) (w : World) (hu : Ok ⟨a, x, y, s, p⟩) :
    Calls Try.prog 5 #[uv a x y s p, .int .u8 12] w fun e w' => e = .returned (.bool true) ∧ Ext w w' :=
  aluSelfs_g a x y s p 12 (⟨a, x, y, s, p⟩) { data := #[66, 73, 84] } w hu hu (by decide) (fun w => Self_other a x y s p 12 w (by decide) (by decide)) (fun w => rself_bit a x y s p w) (fun w => rname_any 12 _ (by decide) rfl w)

set_option maxRecDepth 100000 in
set_option maxHeartbeats 1000000 in
theorem selfs_lax (a x y s p : Int) (w : World) (hu : Ok ⟨a, x, y, s, p⟩) :
    Calls Try.prog 5 #[uv a x y s p, .int .u8 13] w fun e w' => e = .returned (.bool true) ∧ Ext w w' :=
  aluSelfs_g a x y s p 13 (⟨a, x, y, s, p⟩) { data := #[76, 65, 88] } w hu hu (by decide) (fun w => Self_other a x y s p 13 w (by decide) (by decide)) (fun w => rself_lax a x y s p w) (fun w => rname_any 13 _ (by decide) rfl w)

set_option maxRecDepth 100000 in
set_option maxHeartbeats 1000000 in
theorem selfs_anc (a x y s p : Int) (w : World) (hu : Ok ⟨a, x, y, s, p⟩) :
    Calls Try.prog 5 #[uv a x y s p, .int .u8 14] w fun e w' => e = .returned (.bool true) ∧ Ext w w' :=
  aluSelfs_g a x y s p 14 (⟨a, x, y, s, p⟩) { data := #[65, 78, 67] } w hu hu (by decide) (fun w => Self_other a x y s p 14 w (by decide) (by decide)) (fun w => rself_anc a x y s p w) (fun w => rname_any 14 _ (by decide) rfl w)

set_option maxRecDepth 100000 in
set_option maxHeartbeats 1000000 in
theorem selfs_alr (a x y s p : Int) (w : World) (hu : Ok ⟨a, x, y, s, p⟩) :
    Calls Try.prog 5 #[uv a x y s p, .int .u8 15] w fun e w' => e = .returned (.bool true) ∧ Ext w w' :=
  aluSelfs_g a x y s p 15 (⟨a, x, y, s, p⟩) { data := #[65, 76, 82] } w hu hu (by decide) (fun w => Self_other a x y s p 15 w (by decide) (by decide)) (fun w => rself_alr a x y s p w) (fun w => rname_any 15 _ (by decide) rfl w)

set_option maxRecDepth 100000 in
set_option maxHeartbeats 1000000 in
theorem selfs_arr (a x y s p : Int) (w : World) (hu : Ok ⟨a, x, y, s, p⟩) :
    Calls Try.prog 5 #[uv a x y s p, .int .u8 16] w fun e w' => e = .returned (.bool true) ∧ Ext w w' :=
  aluSelfs_g a x y s p 16 (⟨a, x, y, s, p⟩) { data := #[65, 82, 82] } w hu hu (by decide) (fun w => Self_other a x y s p 16 w (by decide) (by decide)) (fun w => rself_arr a x y s p w) (fun w => rname_any 16 _ (by decide) rfl w)

set_option maxRecDepth 100000 in
set_option maxHeartbeats 1000000 in
theorem selfs_axs (a x y s p : Int) (w : World) (hu : Ok ⟨a, x, y, s, p⟩) :
    Calls Try.prog 5 #[uv a x y s p, .int .u8 17] w fun e w' => e = .returned (.bool true) ∧ Ext w w' :=
  aluSelfs_g a x y s p 17 (⟨a, x, y, s, p⟩) { data := #[65, 88, 83] } w hu hu (by decide) (fun w => Self_other a x y s p 17 w (by decide) (by decide)) (fun w => rself_axs a x y s p w) (fun w => rname_any 17 _ (by decide) rfl w)

set_option maxRecDepth 100000 in
set_option maxHeartbeats 1000000 in
theorem selfs_las (a x y s p : Int) (w : World) (hu : Ok ⟨a, x, y, s, p⟩) :
    Calls Try.prog 5 #[uv a x y s p, .int .u8 18] w fun e w' => e = .returned (.bool true) ∧ Ext w w' :=
  aluSelfs_g a x y s p 18 (⟨a, x, y, s, p⟩) { data := #[76, 65, 83] } w hu hu (by decide) (fun w => Self_other a x y s p 18 w (by decide) (by decide)) (fun w => rself_las a x y s p w) (fun w => rname_any 18 _ (by decide) rfl w)

set_option maxRecDepth 100000 in
set_option maxHeartbeats 1000000 in
theorem selfs_asl (a x y s p : Int) (w : World) (hu : Ok ⟨a, x, y, s, p⟩) :
    Calls Try.prog 5 #[uv a x y s p, .int .u8 19] w fun e w' => e = .returned (.bool true) ∧ Ext w w' :=
  aluSelfs_g a x y s p 19 ({ sgU (flU ⟨a, x, y, s, p⟩ 1 (a / 128 == 1)) (2 * a % 256) with a := 2 * a % 256 }) { data := #[65, 83, 76] } w hu (ok_a _ _ (ok_sg _ _ (ok_fl _ _ _ hu)) (by have := hu.1; have := hu.2.2.2.2; simp only at *; omega)) (by decide) (fun w => by have := Self_asl a x y s p w; rw [chg_asl a x y s p a hu.1] at this; exact this) (fun w => rself_asl a x y s p hu w) (fun w => rname_any 19 _ (by decide) rfl w)

set_option maxRecDepth 100000 in
set_option maxHeartbeats 1000000 in
theorem selfs_lsr (a x y s p : Int) (w : World) (hu : Ok ⟨a, x, y, s, p⟩) :
    Calls Try.prog 5 #[uv a x y s p, .int .u8 20] w fun e w' => e = .returned (.bool true) ∧ Ext w w' :=
  aluSelfs_g a x y s p 20 ({ sgU (flU ⟨a, x, y, s, p⟩ 1 (a % 2 == 1)) (a / 2) with a := a / 2 }) { data := #[76, 83, 82] } w hu (ok_a _ _ (ok_sg _ _ (ok_fl _ _ _ hu)) (by have := hu.1; have := hu.2.2.2.2; simp only at *; omega)) (by decide) (fun w => by have := Self_lsr a x y s p w; rw [chg_lsr a x y s p a hu.1] at this; exact this) (fun w => rself_lsr a x y s p hu w) (fun w => rname_any 20 _ (by decide) rfl w)

set_option maxRecDepth 100000 in
set_option maxHeartbeats 1000000 in
theorem selfs_rol (a x y s p : Int) (w : World) (hu : Ok ⟨a, x, y, s, p⟩) :
    Calls Try.prog 5 #[uv a x y s p, .int .u8 21] w fun e w' => e = .returned (.bool true) ∧ Ext w w' :=
  aluSelfs_g a x y s p 21 ({ sgU (flU ⟨a, x, y, s, p⟩ 1 (a / 128 == 1)) (2 * a % 256 + p % 2) with a := 2 * a % 256 + p % 2 }) { data := #[82, 79, 76] } w hu (ok_a _ _ (ok_sg _ _ (ok_fl _ _ _ hu)) (by have := hu.1; have := hu.2.2.2.2; simp only at *; omega)) (by decide) (fun w => by have := Self_rol a x y s p w; rw [chg_rol a x y s p a hu.2.2.2.2 hu.1] at this; exact this) (fun w => rself_rol a x y s p hu w) (fun w => rname_any 21 _ (by decide) rfl w)

set_option maxRecDepth 100000 in
set_option maxHeartbeats 1000000 in
theorem selfs_ror (a x y s p : Int) (w : World) (hu : Ok ⟨a, x, y, s, p⟩) :
    Calls Try.prog 5 #[uv a x y s p, .int .u8 22] w fun e w' => e = .returned (.bool true) ∧ Ext w w' :=
  aluSelfs_g a x y s p 22 ({ sgU (flU ⟨a, x, y, s, p⟩ 1 (a % 2 == 1)) (a / 2 + 128 * (p % 2)) with a := a / 2 + 128 * (p % 2) }) { data := #[82, 79, 82] } w hu (ok_a _ _ (ok_sg _ _ (ok_fl _ _ _ hu)) (by have := hu.1; have := hu.2.2.2.2; simp only at *; omega)) (by decide) (fun w => by have := Self_ror a x y s p w; rw [chg_ror a x y s p a hu.2.2.2.2 hu.1] at this; exact this) (fun w => rself_ror a x y s p hu w) (fun w => rname_any 22 _ (by decide) rfl w)

set_option maxRecDepth 100000 in
set_option maxHeartbeats 1000000 in
theorem selfs_inc (a x y s p : Int) (w : World) (hu : Ok ⟨a, x, y, s, p⟩) :
    Calls Try.prog 5 #[uv a x y s p, .int .u8 23] w fun e w' => e = .returned (.bool true) ∧ Ext w w' :=
  aluSelfs_g a x y s p 23 (⟨a, x, y, s, p⟩) { data := #[73, 78, 67] } w hu hu (by decide) (fun w => Self_other a x y s p 23 w (by decide) (by decide)) (fun w => rself_inc a x y s p w) (fun w => rname_any 23 _ (by decide) rfl w)

set_option maxRecDepth 100000 in
set_option maxHeartbeats 1000000 in
theorem selfs_dec (a x y s p : Int) (w : World) (hu : Ok ⟨a, x, y, s, p⟩) :
    Calls Try.prog 5 #[uv a x y s p, .int .u8 24] w fun e w' => e = .returned (.bool true) ∧ Ext w w' :=
  aluSelfs_g a x y s p 24 (⟨a, x, y, s, p⟩) { data := #[68, 69, 67] } w hu hu (by decide) (fun w => Self_other a x y s p 24 w (by decide) (by decide)) (fun w => rself_dec a x y s p w) (fun w => rname_any 24 _ (by decide) rfl w)

set_option maxRecDepth 100000 in
set_option maxHeartbeats 1000000 in
theorem selfs_slo (a x y s p : Int) (w : World) (hu : Ok ⟨a, x, y, s, p⟩) :
    Calls Try.prog 5 #[uv a x y s p, .int .u8 25] w fun e w' => e = .returned (.bool true) ∧ Ext w w' :=
  aluSelfs_g a x y s p 25 (⟨a, x, y, s, p⟩) { data := #[83, 76, 79] } w hu hu (by decide) (fun w => Self_other a x y s p 25 w (by decide) (by decide)) (fun w => rself_slo a x y s p w) (fun w => rname_any 25 _ (by decide) rfl w)

set_option maxRecDepth 100000 in
set_option maxHeartbeats 1000000 in
theorem selfs_rla (a x y s p : Int) (w : World) (hu : Ok ⟨a, x, y, s, p⟩) :
    Calls Try.prog 5 #[uv a x y s p, .int .u8 26] w fun e w' => e = .returned (.bool true) ∧ Ext w w' :=
  aluSelfs_g a x y s p 26 (⟨a, x, y, s, p⟩) { data := #[82, 76, 65] } w hu hu (by decide) (fun w => Self_other a x y s p 26 w (by decide) (by decide)) (fun w => rself_rla a x y s p w) (fun w => rname_any 26 _ (by decide) rfl w)

set_option maxRecDepth 100000 in
set_option maxHeartbeats 1000000 in
theorem selfs_sre (a x y s p : Int) (w : World) (hu : Ok ⟨a, x, y, s, p⟩) :
    Calls Try.prog 5 #[uv a x y s p, .int .u8 27] w fun e w' => e = .returned (.bool true) ∧ Ext w w' :=
  aluSelfs_g a x y s p 27 (⟨a, x, y, s, p⟩) { data := #[83, 82, 69] } w hu hu (by decide) (fun w => Self_other a x y s p 27 w (by decide) (by decide)) (fun w => rself_sre a x y s p w) (fun w => rname_any 27 _ (by decide) rfl w)

set_option maxRecDepth 100000 in
set_option maxHeartbeats 1000000 in
theorem selfs_rra (a x y s p : Int) (w : World) (hu : Ok ⟨a, x, y, s, p⟩) :
    Calls Try.prog 5 #[uv a x y s p, .int .u8 28] w fun e w' => e = .returned (.bool true) ∧ Ext w w' :=
  aluSelfs_g a x y s p 28 (⟨a, x, y, s, p⟩) { data := #[82, 82, 65] } w hu hu (by decide) (fun w => Self_other a x y s p 28 w (by decide) (by decide)) (fun w => rself_rra a x y s p w) (fun w => rname_any 28 _ (by decide) rfl w)

set_option maxRecDepth 100000 in
set_option maxHeartbeats 1000000 in
theorem selfs_dcp (a x y s p : Int) (w : World) (hu : Ok ⟨a, x, y, s, p⟩) :
    Calls Try.prog 5 #[uv a x y s p, .int .u8 29] w fun e w' => e = .returned (.bool true) ∧ Ext w w' :=
  aluSelfs_g a x y s p 29 (⟨a, x, y, s, p⟩) { data := #[68, 67, 80] } w hu hu (by decide) (fun w => Self_other a x y s p 29 w (by decide) (by decide)) (fun w => rself_dcp a x y s p w) (fun w => rname_any 29 _ (by decide) rfl w)

set_option maxRecDepth 100000 in
set_option maxHeartbeats 1000000 in
theorem selfs_isc (a x y s p : Int) (w : World) (hu : Ok ⟨a, x, y, s, p⟩) :
    Calls Try.prog 5 #[uv a x y s p, .int .u8 30] w fun e w' => e = .returned (.bool true) ∧ Ext w w' :=
  aluSelfs_g a x y s p 30 (⟨a, x, y, s, p⟩) { data := #[73, 83, 67] } w hu hu (by decide) (fun w => Self_other a x y s p 30 w (by decide) (by decide)) (fun w => rself_isc a x y s p w) (fun w => rname_any 30 _ (by decide) rfl w)

set_option maxRecDepth 100000 in
set_option maxHeartbeats 1000000 in
theorem selfs_sta (a x y s p : Int) (w : World) (hu : Ok ⟨a, x, y, s, p⟩) :
    Calls Try.prog 5 #[uv a x y s p, .int .u8 31] w fun e w' => e = .returned (.bool true) ∧ Ext w w' :=
  aluSelfs_g a x y s p 31 (⟨a, x, y, s, p⟩) { data := #[83, 84, 65] } w hu hu (by decide) (fun w => Self_other a x y s p 31 w (by decide) (by decide)) (fun w => rself_sta a x y s p w) (fun w => rname_any 31 _ (by decide) rfl w)

set_option maxRecDepth 100000 in
set_option maxHeartbeats 1000000 in
theorem selfs_stx (a x y s p : Int) (w : World) (hu : Ok ⟨a, x, y, s, p⟩) :
    Calls Try.prog 5 #[uv a x y s p, .int .u8 32] w fun e w' => e = .returned (.bool true) ∧ Ext w w' :=
  aluSelfs_g a x y s p 32 (⟨a, x, y, s, p⟩) { data := #[83, 84, 88] } w hu hu (by decide) (fun w => Self_other a x y s p 32 w (by decide) (by decide)) (fun w => rself_stx a x y s p w) (fun w => rname_any 32 _ (by decide) rfl w)

set_option maxRecDepth 100000 in
set_option maxHeartbeats 1000000 in
theorem selfs_sty (a x y s p : Int) (w : World) (hu : Ok ⟨a, x, y, s, p⟩) :
    Calls Try.prog 5 #[uv a x y s p, .int .u8 33] w fun e w' => e = .returned (.bool true) ∧ Ext w w' :=
  aluSelfs_g a x y s p 33 (⟨a, x, y, s, p⟩) { data := #[83, 84, 89] } w hu hu (by decide) (fun w => Self_other a x y s p 33 w (by decide) (by decide)) (fun w => rself_sty a x y s p w) (fun w => rname_any 33 _ (by decide) rfl w)

set_option maxRecDepth 100000 in
set_option maxHeartbeats 1000000 in
theorem selfs_sax (a x y s p : Int) (w : World) (hu : Ok ⟨a, x, y, s, p⟩) :
    Calls Try.prog 5 #[uv a x y s p, .int .u8 34] w fun e w' => e = .returned (.bool true) ∧ Ext w w' :=
  aluSelfs_g a x y s p 34 (⟨a, x, y, s, p⟩) { data := #[83, 65, 88] } w hu hu (by decide) (fun w => Self_other a x y s p 34 w (by decide) (by decide)) (fun w => rself_sax a x y s p w) (fun w => rname_any 34 _ (by decide) rfl w)

set_option maxRecDepth 100000 in
set_option maxHeartbeats 1000000 in
theorem selfs_tax (a x y s p : Int) (w : World) (hu : Ok ⟨a, x, y, s, p⟩) :
    Calls Try.prog 5 #[uv a x y s p, .int .u8 35] w fun e w' => e = .returned (.bool true) ∧ Ext w w' :=
  aluSelfs_g a x y s p 35 (ldxU ⟨a, x, y, s, p⟩ a) { data := #[84, 65, 88] } w hu (ok_ldx _ _ hu hu.1) (by decide) (fun w => Self_tax a x y s p w) (fun w => rself_tax a x y s p hu w) (fun w => rname_any 35 _ (by decide) rfl w)

set_option maxRecDepth 100000 in
set_option maxHeartbeats 1000000 in
theorem selfs_tay (a x y s p : Int) (w : World) (hu : Ok ⟨a, x, y, s, p⟩) :
    Calls Try.prog 5 #[uv a x y s p, .int .u8 36] w fun e w' => e = .returned (.bool true) ∧ Ext w w' :=
  aluSelfs_g a x y s p 36 (ldyU ⟨a, x, y, s, p⟩ a) { data := #[84, 65, 89] } w hu (ok_ldy _ _ hu hu.1) (by decide) (fun w => Self_tay a x y s p w) (fun w => rself_tay a x y s p hu w) (fun w => rname_any 36 _ (by decide) rfl w)

set_option maxRecDepth 100000 in
set_option maxHeartbeats 1000000 in
theorem selfs_txa (a x y s p : Int) (w : World) (hu : Ok ⟨a, x, y, s, p⟩) :
    Calls Try.prog 5 #[uv a x y s p, .int .u8 37] w fun e w' => e = .returned (.bool true) ∧ Ext w w' :=
  aluSelfs_g a x y s p 37 (ldaU ⟨a, x, y, s, p⟩ x) { data := #[84, 88, 65] } w hu (ok_lda _ _ hu hu.2.1) (by decide) (fun w => Self_txa a x y s p w) (fun w => rself_txa a x y s p hu w) (fun w => rname_any 37 _ (by decide) rfl w)

set_option maxRecDepth 100000 in
set_option maxHeartbeats 1000000 in
theorem selfs_tya (a x y s p : Int) (w : World) (hu : Ok ⟨a, x, y, s, p⟩) :
    Calls Try.prog 5 #[uv a x y s p, .int .u8 38] w fun e w' => e = .returned (.bool true) ∧ Ext w w' :=
  aluSelfs_g a x y s p 38 (ldaU ⟨a, x, y, s, p⟩ y) { data := #[84, 89, 65] } w hu (ok_lda _ _ hu hu.2.2.1) (by decide) (fun w => Self_tya a x y s p w) (fun w => rself_tya a x y s p hu w) (fun w => rname_any 38 _ (by decide) rfl w)

set_option maxRecDepth 100000 in
set_option maxHeartbeats 1000000 in
theorem selfs_tsx (a x y s p : Int) (w : World) (hu : Ok ⟨a, x, y, s, p⟩) :
    Calls Try.prog 5 #[uv a x y s p, .int .u8 39] w fun e w' => e = .returned (.bool true) ∧ Ext w w' :=
  aluSelfs_g a x y s p 39 (ldxU ⟨a, x, y, s, p⟩ s) { data := #[84, 83, 88] } w hu (ok_ldx _ _ hu hu.2.2.2.1) (by decide) (fun w => Self_tsx a x y s p w) (fun w => rself_tsx a x y s p hu w) (fun w => rname_any 39 _ (by decide) rfl w)

set_option maxRecDepth 100000 in
set_option maxHeartbeats 1000000 in
theorem selfs_txs (a x y s p : Int) (w : World) (hu : Ok ⟨a, x, y, s, p⟩) :
    Calls Try.prog 5 #[uv a x y s p, .int .u8 40] w fun e w' => e = .returned (.bool true) ∧ Ext w w' :=
  aluSelfs_g a x y s p 40 (⟨a, x, y, x, p⟩) { data := #[84, 88, 83] } w hu ⟨hu.1, hu.2.1, hu.2.2.1, hu.2.1, hu.2.2.2.2⟩ (by decide) (fun w => Self_txs a x y s p w) (fun w => rself_txs a x y s p w) (fun w => rname_any 40 _ (by decide) rfl w)

set_option maxRecDepth 100000 in
set_option maxHeartbeats 1000000 in
theorem selfs_inx (a x y s p : Int) (w : World) (hu : Ok ⟨a, x, y, s, p⟩) :
    Calls Try.prog 5 #[uv a x y s p, .int .u8 41] w fun e w' => e = .returned (.bool true) ∧ Ext w w' :=
  aluSelfs_g a x y s p 41 (ldxU ⟨a, x, y, s, p⟩ (IntKind.u8.wrap (x + 1))) { data := #[73, 78, 88] } w hu (ok_ldx _ _ hu (wr_in _)) (by decide) (fun w => Self_inx a x y s p w) (fun w => rself_inx a x y s p _ hu (wrap_up _) w) (fun w => rname_any 41 _ (by decide) rfl w)

set_option maxRecDepth 100000 in
set_option maxHeartbeats 1000000 in
theorem selfs_iny (a x y s p : Int) (w : World) (hu : Ok ⟨a, x, y, s, p⟩) :
    Calls Try.prog 5 #[uv a x y s p, .int .u8 42] w fun e w' => e = .returned (.bool true) ∧ Ext w w' :=
  aluSelfs_g a x y s p 42 (ldyU ⟨a, x, y, s, p⟩ (IntKind.u8.wrap (y + 1))) { data := #[73, 78, 89] } w hu (ok_ldy _ _ hu (wr_in _)) (by decide) (fun w => Self_iny a x y s p w) (fun w => rself_iny a x y s p _ hu (wrap_up _) w) (fun w => rname_any 42 _ (by decide) rfl w)

set_option maxRecDepth 100000 in
set_option maxHeartbeats 1000000 in
theorem selfs_dex (a x y s p : Int) (w : World) (hu : Ok ⟨a, x, y, s, p⟩) :
    Calls Try.prog 5 #[uv a x y s p, .int .u8 43] w fun e w' => e = .returned (.bool true) ∧ Ext w w' :=
  aluSelfs_g a x y s p 43 (ldxU ⟨a, x, y, s, p⟩ (IntKind.u8.wrap (x - 1))) { data := #[68, 69, 88] } w hu (ok_ldx _ _ hu (wr_in _)) (by decide) (fun w => Self_dex a x y s p w) (fun w => rself_dex a x y s p _ hu (wrap_dn _) w) (fun w => rname_any 43 _ (by decide) rfl w)

set_option maxRecDepth 100000 in
set_option maxHeartbeats 1000000 in
theorem selfs_dey (a x y s p : Int) (w : World) (hu : Ok ⟨a, x, y, s, p⟩) :
    Calls Try.prog 5 #[uv a x y s p, .int .u8 44] w fun e w' => e = .returned (.bool true) ∧ Ext w w' :=
  aluSelfs_g a x y s p 44 (ldyU ⟨a, x, y, s, p⟩ (IntKind.u8.wrap (y - 1))) { data := #[68, 69, 89] } w hu (ok_ldy _ _ hu (wr_in _)) (by decide) (fun w => Self_dey a x y s p w) (fun w => rself_dey a x y s p _ hu (wrap_dn _) w) (fun w => rname_any 44 _ (by decide) rfl w)

set_option maxRecDepth 100000 in
set_option maxHeartbeats 1000000 in
theorem selfs_clc (a x y s p : Int) (w : World) (hu : Ok ⟨a, x, y, s, p⟩) :
    Calls Try.prog 5 #[uv a x y s p, .int .u8 45] w fun e w' => e = .returned (.bool true) ∧ Ext w w' :=
  aluSelfs_g a x y s p 45 (flU ⟨a, x, y, s, p⟩ 1 false) { data := #[67, 76, 67] } w hu (ok_fl _ _ _ hu) (by decide) (fun w => Self_clc a x y s p w) (fun w => rself_clc a x y s p hu.2.2.2.2 w) (fun w => rname_any 45 _ (by decide) rfl w)

set_option maxRecDepth 100000 in
set_option maxHeartbeats 1000000 in
theorem selfs_sec (a x y s p : Int) (w : World) (hu : Ok ⟨a, x, y, s, p⟩) :
    Calls Try.prog 5 #[uv a x y s p, .int .u8 46] w fun e w' => e = .returned (.bool true) ∧ Ext w w' :=
  aluSelfs_g a x y s p 46 (flU ⟨a, x, y, s, p⟩ 1 true) { data := #[83, 69, 67] } w hu (ok_fl _ _ _ hu) (by decide) (fun w => Self_sec a x y s p w) (fun w => rself_sec a x y s p hu.2.2.2.2 w) (fun w => rname_any 46 _ (by decide) rfl w)

set_option maxRecDepth 100000 in
set_option maxHeartbeats 1000000 in
theorem selfs_cli (a x y s p : Int) (w : World) (hu : Ok ⟨a, x, y, s, p⟩) :
    Calls Try.prog 5 #[uv a x y s p, .int .u8 47] w fun e w' => e = .returned (.bool true) ∧ Ext w w' :=
  aluSelfs_g a x y s p 47 (flU ⟨a, x, y, s, p⟩ 4 false) { data := #[67, 76, 73] } w hu (ok_fl _ _ _ hu) (by decide) (fun w => Self_cli a x y s p w) (fun w => rself_cli a x y s p hu.2.2.2.2 w) (fun w => rname_any 47 _ (by decide) rfl w)

set_option maxRecDepth 100000 in
set_option maxHeartbeats 1000000 in
theorem selfs_sei (a x y s p : Int) (w : World) (hu : Ok ⟨a, x, y, s, p⟩) :
    Calls Try.prog 5 #[uv a x y s p, .int .u8 48] w fun e w' => e = .returned (.bool true) ∧ Ext w w' :=
  aluSelfs_g a x y s p 48 (flU ⟨a, x, y, s, p⟩ 4 true) { data := #[83, 69, 73] } w hu (ok_fl _ _ _ hu) (by decide) (fun w => Self_sei a x y s p w) (fun w => rself_sei a x y s p hu.2.2.2.2 w) (fun w => rname_any 48 _ (by decide) rfl w)

set_option maxRecDepth 100000 in
set_option maxHeartbeats 1000000 in
theorem selfs_clv (a x y s p : Int) (w : World) (hu : Ok ⟨a, x, y, s, p⟩) :
    Calls Try.prog 5 #[uv a x y s p, .int .u8 49] w fun e w' => e = .returned (.bool true) ∧ Ext w w' :=
  aluSelfs_g a x y s p 49 (flU ⟨a, x, y, s, p⟩ 64 false) { data := #[67, 76, 86] } w hu (ok_fl _ _ _ hu) (by decide) (fun w => Self_clv a x y s p w) (fun w => rself_clv a x y s p hu.2.2.2.2 w) (fun w => rname_any 49 _ (by decide) rfl w)

set_option maxRecDepth 100000 in
set_option maxHeartbeats 1000000 in
theorem selfs_cld (a x y s p : Int) (w : World) (hu : Ok ⟨a, x, y, s, p⟩) :
    Calls Try.prog 5 #[uv a x y s p, .int .u8 50] w fun e w' => e = .returned (.bool true) ∧ Ext w w' :=
  aluSelfs_g a x y s p 50 (flU ⟨a, x, y, s, p⟩ 8 false) { data := #[67, 76, 68] } w hu (ok_fl _ _ _ hu) (by decide) (fun w => Self_cld a x y s p w) (fun w => rself_cld a x y s p hu.2.2.2.2 w) (fun w => rname_any 50 _ (by decide) rfl w)

set_option maxRecDepth 100000 in
set_option maxHeartbeats 1000000 in
theorem selfs_sed (a x y s p : Int) (w : World) (hu : Ok ⟨a, x, y, s, p⟩) :
    Calls Try.prog 5 #[uv a x y s p, .int .u8 51] w fun e w' => e = .returned (.bool true) ∧ Ext w w' :=
  aluSelfs_g a x y s p 51 (flU ⟨a, x, y, s, p⟩ 8 true) { data := #[83, 69, 68] } w hu (ok_fl _ _ _ hu) (by decide) (fun w => Self_sed a x y s p w) (fun w => rself_sed a x y s p hu.2.2.2.2 w) (fun w => rname_any 51 _ (by decide) rfl w)

set_option maxRecDepth 100000 in
set_option maxHeartbeats 1000000 in
theorem selfs_bpl (a x y s p : Int) (w : World) (hu : Ok ⟨a, x, y, s, p⟩) :
    Calls Try.prog 5 #[uv a x y s p, .int .u8 52] w fun e w' => e = .returned (.bool true) ∧ Ext w w' :=
  aluSelfs_g a x y s p 52 (⟨a, x, y, s, p⟩) { data := #[66, 80, 76] } w hu hu (by decide) (fun w => Self_other a x y s p 52 w (by decide) (by decide)) (fun w => rself_bpl a x y s p w) (fun w => rname_any 52 _ (by decide) rfl w)

set_option maxRecDepth 100000 in
set_option maxHeartbeats 1000000 in
theorem selfs_bmi (a x y s p : Int) (w : World) (hu : Ok ⟨a, x, y, s, p⟩) :
    Calls Try.prog 5 #[uv a x y s p, .int .u8 53] w fun e w' => e = .returned (.bool true) ∧ Ext w w' :=
  aluSelfs_g a x y s p 53 (⟨a, x, y, s, p⟩) { data := #[66, 77, 73] } w hu hu (by decide) (fun w => Self_other a x y s p 53 w (by decide) (by decide)) (fun w => rself_bmi a x y s p w) (fun w => rname_any 53 _ (by decide) rfl w)

set_option maxRecDepth 100000 in
set_option maxHeartbeats 1000000 in
theorem selfs_bvc (a x y s p : Int) (w : World) (hu : Ok ⟨a, x, y, s, p⟩) :
    Calls Try.prog 5 #[uv a x y s p, .int .u8 54] w fun e w' => e = .returned (.bool true) ∧ Ext w w' :=
  aluSelfs_g a x y s p 54 (⟨a, x, y, s, p⟩) { data := #[66, 86, 67] } w hu hu (by decide) (fun w => Self_other a x y s p 54 w (by decide) (by decide)) (fun w => rself_bvc a x y s p w) (fun w => rname_any 54 _ (by decide) rfl w)

set_option maxRecDepth 100000 in
set_option maxHeartbeats 1000000 in
theorem selfs_bvs (a x y s p : Int) (w : World) (hu : Ok ⟨a, x, y, s, p⟩) :
    Calls Try.prog 5 #[uv a x y s p, .int .u8 55] w fun e w' => e = .returned (.bool true) ∧ Ext w w' :=
  aluSelfs_g a x y s p 55 (⟨a, x, y, s, p⟩) { data := #[66, 86, 83] } w hu hu (by decide) (fun w => Self_other a x y s p 55 w (by decide) (by decide)) (fun w => rself_bvs a x y s p w) (fun w => rname_any 55 _ (by decide) rfl w)

set_option maxRecDepth 100000 in
set_option maxHeartbeats 1000000 in
theorem selfs_bcc (a x y s p : Int) (w : World) (hu : Ok ⟨a, x, y, s, p⟩) :
    Calls Try.prog 5 #[uv a x y s p, .int .u8 56] w fun e w' => e = .returned (.bool true) ∧ Ext w w' :=
  aluSelfs_g a x y s p 56 (⟨a, x, y, s, p⟩) { data := #[66, 67, 67] } w hu hu (by decide) (fun w => Self_other a x y s p 56 w (by decide) (by decide)) (fun w => rself_bcc a x y s p w) (fun w => rname_any 56 _ (by decide) rfl w)

set_option maxRecDepth 100000 in
set_option maxHeartbeats 1000000 in
theorem selfs_bcs (a x y s p : Int) (w : World) (hu : Ok ⟨a, x, y, s, p⟩) :
    Calls Try.prog 5 #[uv a x y s p, .int .u8 57] w fun e w' => e = .returned (.bool true) ∧ Ext w w' :=
  aluSelfs_g a x y s p 57 (⟨a, x, y, s, p⟩) { data := #[66, 67, 83] } w hu hu (by decide) (fun w => Self_other a x y s p 57 w (by decide) (by decide)) (fun w => rself_bcs a x y s p w) (fun w => rname_any 57 _ (by decide) rfl w)

set_option maxRecDepth 100000 in
set_option maxHeartbeats 1000000 in
theorem selfs_bne (a x y s p : Int) (w : World) (hu : Ok ⟨a, x, y, s, p⟩) :
    Calls Try.prog 5 #[uv a x y s p, .int .u8 58] w fun e w' => e = .returned (.bool true) ∧ Ext w w' :=
  aluSelfs_g a x y s p 58 (⟨a, x, y, s, p⟩) { data := #[66, 78, 69] } w hu hu (by decide) (fun w => Self_other a x y s p 58 w (by decide) (by decide)) (fun w => rself_bne a x y s p w) (fun w => rname_any 58 _ (by decide) rfl w)

set_option maxRecDepth 100000 in
set_option maxHeartbeats 1000000 in
theorem selfs_beq (a x y s p : Int) (w : World) (hu : Ok ⟨a, x, y, s, p⟩) :
    Calls Try.prog 5 #[uv a x y s p, .int .u8 59] w fun e w' => e = .returned (.bool true) ∧ Ext w w' :=
  aluSelfs_g a x y s p 59 (⟨a, x, y, s, p⟩) { data := #[66, 69, 81] } w hu hu (by decide) (fun w => Self_other a x y s p 59 w (by decide) (by decide)) (fun w => rself_beq a x y s p w) (fun w => rname_any 59 _ (by decide) rfl w)

set_option maxRecDepth 100000 in
set_option maxHeartbeats 1000000 in
theorem selfs_jmp (a x y s p : Int) (w : World) (hu : Ok ⟨a, x, y, s, p⟩) :
    Calls Try.prog 5 #[uv a x y s p, .int .u8 60] w fun e w' => e = .returned (.bool true) ∧ Ext w w' :=
  aluSelfs_g a x y s p 60 (⟨a, x, y, s, p⟩) { data := #[74, 77, 80] } w hu hu (by decide) (fun w => Self_other a x y s p 60 w (by decide) (by decide)) (fun w => rself_jmp a x y s p w) (fun w => rname_any 60 _ (by decide) rfl w)

set_option maxRecDepth 100000 in
set_option maxHeartbeats 1000000 in
theorem selfs_jsr (a x y s p : Int) (w : World) (hu : Ok ⟨a, x, y, s, p⟩) :
    Calls Try.prog 5 #[uv a x y s p, .int .u8 61] w fun e w' => e = .returned (.bool true) ∧ Ext w w' :=
  aluSelfs_g a x y s p 61 (⟨a, x, y, s, p⟩) { data := #[74, 83, 82] } w hu hu (by decide) (fun w => Self_other a x y s p 61 w (by decide) (by decide)) (fun w => rself_jsr a x y s p w) (fun w => rname_any 61 _ (by decide) rfl w)

set_option maxRecDepth 100000 in
set_option maxHeartbeats 1000000 in
theorem selfs_rts (a x y s p : Int) (w : World) (hu : Ok ⟨a, x, y, s, p⟩) :
    Calls Try.prog 5 #[uv a x y s p, .int .u8 62] w fun e w' => e = .returned (.bool true) ∧ Ext w w' :=
  aluSelfs_g a x y s p 62 (⟨a, x, y, s, p⟩) { data := #[82, 84, 83] } w hu hu (by decide) (fun w => Self_other a x y s p 62 w (by decide) (by decide)) (fun w => rself_rts a x y s p w) (fun w => rname_any 62 _ (by decide) rfl w)

set_option maxRecDepth 100000 in
set_option maxHeartbeats 1000000 in
theorem selfs_rti (a x y s p : Int) (w : World) (hu : Ok ⟨a, x, y, s, p⟩) :
    Calls Try.prog 5 #[uv a x y s p, .int .u8 63] w fun e w' => e = .returned (.bool true) ∧ Ext w w' :=
  aluSelfs_g a x y s p 63 (⟨a, x, y, s, p⟩) { data := #[82, 84, 73] } w hu hu (by decide) (fun w => Self_other a x y s p 63 w (by decide) (by decide)) (fun w => rself_rti a x y s p w) (fun w => rname_any 63 _ (by decide) rfl w)

set_option maxRecDepth 100000 in
set_option maxHeartbeats 1000000 in
theorem selfs_brk (a x y s p : Int) (w : World) (hu : Ok ⟨a, x, y, s, p⟩) :
    Calls Try.prog 5 #[uv a x y s p, .int .u8 64] w fun e w' => e = .returned (.bool true) ∧ Ext w w' :=
  aluSelfs_g a x y s p 64 (⟨a, x, y, s, p⟩) { data := #[66, 82, 75] } w hu hu (by decide) (fun w => Self_other a x y s p 64 w (by decide) (by decide)) (fun w => rself_brk a x y s p w) (fun w => rname_any 64 _ (by decide) rfl w)

set_option maxRecDepth 100000 in
set_option maxHeartbeats 1000000 in
theorem selfs_pha (a x y s p : Int) (w : World) (hu : Ok ⟨a, x, y, s, p⟩) :
    Calls Try.prog 5 #[uv a x y s p, .int .u8 65] w fun e w' => e = .returned (.bool true) ∧ Ext w w' :=
  aluSelfs_g a x y s p 65 (⟨a, x, y, s, p⟩) { data := #[80, 72, 65] } w hu hu (by decide) (fun w => Self_other a x y s p 65 w (by decide) (by decide)) (fun w => rself_pha a x y s p w) (fun w => rname_any 65 _ (by decide) rfl w)

set_option maxRecDepth 100000 in
set_option maxHeartbeats 1000000 in
theorem selfs_php (a x y s p : Int) (w : World) (hu : Ok ⟨a, x, y, s, p⟩) :
    Calls Try.prog 5 #[uv a x y s p, .int .u8 66] w fun e w' => e = .returned (.bool true) ∧ Ext w w' :=
  aluSelfs_g a x y s p 66 (⟨a, x, y, s, p⟩) { data := #[80, 72, 80] } w hu hu (by decide) (fun w => Self_other a x y s p 66 w (by decide) (by decide)) (fun w => rself_php a x y s p w) (fun w => rname_any 66 _ (by decide) rfl w)

set_option maxRecDepth 100000 in
set_option maxHeartbeats 1000000 in
theorem selfs_pla (a x y s p : Int) (w : World) (hu : Ok ⟨a, x, y, s, p⟩) :
    Calls Try.prog 5 #[uv a x y s p, .int .u8 67] w fun e w' => e = .returned (.bool true) ∧ Ext w w' :=
  aluSelfs_g a x y s p 67 (⟨a, x, y, s, p⟩) { data := #[80, 76, 65] } w hu hu (by decide) (fun w => Self_other a x y s p 67 w (by decide) (by decide)) (fun w => rself_pla a x y s p w) (fun w => rname_any 67 _ (by decide) rfl w)

set_option maxRecDepth 100000 in
set_option maxHeartbeats 1000000 in
theorem selfs_plp (a x y s p : Int) (w : World) (hu : Ok ⟨a, x, y, s, p⟩) :
    Calls Try.prog 5 #[uv a x y s p, .int .u8 68] w fun e w' => e = .returned (.bool true) ∧ Ext w w' :=
  aluSelfs_g a x y s p 68 (⟨a, x, y, s, p⟩) { data := #[80, 76, 80] } w hu hu (by decide) (fun w => Self_other a x y s p 68 w (by decide) (by decide)) (fun w => rself_plp a x y s p w) (fun w => rname_any 68 _ (by decide) rfl w)

set_option maxRecDepth 100000 in
set_option maxHeartbeats 1000000 in
theorem selfs_jam (a x y s p : Int) (w : World) (hu : Ok ⟨a, x, y, s, p⟩) :
    Calls Try.prog 5 #[uv a x y s p, .int .u8 69] w fun e w' => e = .returned (.bool true) ∧ Ext w w' :=
  aluSelfs_g a x y s p 69 (⟨a, x, y, s, p⟩) { data := #[74, 65, 77] } w hu hu (by decide) (fun w => Self_other a x y s p 69 w (by decide) (by decide)) (fun w => rself_jam a x y s p w) (fun w => rname_any 69 _ (by decide) rfl w)

theorem aluSelfs_w (a x y s p op : Int) (w : World) (hu : Ok ⟨a, x, y, s, p⟩) (hop : 0 ≤ op ∧ op < 256) :
    Calls Try.prog 5 #[uv a x y s p, .int .u8 op] w fun e w' => e = .returned (.bool true) ∧ Ext w w' := by
  by_cases h0 : op = 0
  · subst h0; exact selfs_nop a x y s p w hu
  by_cases h1 : op = 1
  · subst h1; exact selfs_ora a x y s p w hu
  by_cases h2 : op = 2
  · subst h2; exact selfs_and a x y s p w hu
  by_cases h3 : op = 3
  · subst h3; exact selfs_eor a x y s p w hu
  by_cases h4 : op = 4
  · subst h4; exact selfs_adc a x y s p w hu
  by_cases h5 : op = 5
  · subst h5; exact selfs_sbc a x y s p w hu
  by_cases h6 : op = 6
  · subst h6; exact selfs_cmp a x y s p w hu
  by_cases h7 : op = 7
  · subst h7; exact selfs_cpx a x y s p w hu
  by_cases h8 : op = 8
  · subst h8; exact selfs_cpy a x y s p w hu
  by_cases h9 : op = 9
  · subst h9; exact selfs_lda a x y s p w hu
  by_cases h10 : op = 10
  · subst h10; exact selfs_ldx a x y s p w hu
  by_cases h11 : op = 11
  · subst h11; exact selfs_ldy a x y s p w hu
  by_cases h12 : op = 12
  · subst h12; exact selfs_bit a x y s p w hu
  by_cases h13 : op = 13
  · subst h13; exact selfs_lax a x y s p w hu
  by_cases h14 : op = 14
  · subst h14; exact selfs_anc a x y s p w hu
  by_cases h15 : op = 15
  · subst h15; exact selfs_alr a x y s p w hu
  by_cases h16 : op = 16
  · subst h16; exact selfs_arr a x y s p w hu
  by_cases h17 : op = 17
  · subst h17; exact selfs_axs a x y s p w hu
  by_cases h18 : op = 18
  · subst h18; exact selfs_las a x y s p w hu
  by_cases h19 : op = 19
  · subst h19; exact selfs_asl a x y s p w hu
  by_cases h20 : op = 20
  · subst h20; exact selfs_lsr a x y s p w hu
  by_cases h21 : op = 21
  · subst h21; exact selfs_rol a x y s p w hu
  by_cases h22 : op = 22
  · subst h22; exact selfs_ror a x y s p w hu
  by_cases h23 : op = 23
  · subst h23; exact selfs_inc a x y s p w hu
  by_cases h24 : op = 24
  · subst h24; exact selfs_dec a x y s p w hu
  by_cases h25 : op = 25
  · subst h25; exact selfs_slo a x y s p w hu
  by_cases h26 : op = 26
  · subst h26; exact selfs_rla a x y s p w hu
  by_cases h27 : op = 27
  · subst h27; exact selfs_sre a x y s p w hu
  by_cases h28 : op = 28
  · subst h28; exact selfs_rra a x y s p w hu
  by_cases h29 : op = 29
  · subst h29; exact selfs_dcp a x y s p w hu
  by_cases h30 : op = 30
  · subst h30; exact selfs_isc a x y s p w hu
  by_cases h31 : op = 31
  · subst h31; exact selfs_sta a x y s p w hu
  by_cases h32 : op = 32
  · subst h32; exact selfs_stx a x y s p w hu
  by_cases h33 : op = 33
  · subst h33; exact selfs_sty a x y s p w hu
  by_cases h34 : op = 34
  · subst h34; exact selfs_sax a x y s p w hu
  by_cases h35 : op = 35
  · subst h35; exact selfs_tax a x y s p w hu
  by_cases h36 : op = 36
  · subst h36; exact selfs_tay a x y s p w hu
  by_cases h37 : op = 37
  · subst h37; exact selfs_txa a x y s p w hu
  by_cases h38 : op = 38
  · subst h38; exact selfs_tya a x y s p w hu
  by_cases h39 : op = 39
  · subst h39; exact selfs_tsx a x y s p w hu
  by_cases h40 : op = 40
  · subst h40; exact selfs_txs a x y s p w hu
  by_cases h41 : op = 41
  · subst h41; exact selfs_inx a x y s p w hu
  by_cases h42 : op = 42
  · subst h42; exact selfs_iny a x y s p w hu
  by_cases h43 : op = 43
  · subst h43; exact selfs_dex a x y s p w hu
  by_cases h44 : op = 44
  · subst h44; exact selfs_dey a x y s p w hu
  by_cases h45 : op = 45
  · subst h45; exact selfs_clc a x y s p w hu
  by_cases h46 : op = 46
  · subst h46; exact selfs_sec a x y s p w hu
  by_cases h47 : op = 47
  · subst h47; exact selfs_cli a x y s p w hu
  by_cases h48 : op = 48
  · subst h48; exact selfs_sei a x y s p w hu
  by_cases h49 : op = 49
  · subst h49; exact selfs_clv a x y s p w hu
  by_cases h50 : op = 50
  · subst h50; exact selfs_cld a x y s p w hu
  by_cases h51 : op = 51
  · subst h51; exact selfs_sed a x y s p w hu
  by_cases h52 : op = 52
  · subst h52; exact selfs_bpl a x y s p w hu
  by_cases h53 : op = 53
  · subst h53; exact selfs_bmi a x y s p w hu
  by_cases h54 : op = 54
  · subst h54; exact selfs_bvc a x y s p w hu
  by_cases h55 : op = 55
  · subst h55; exact selfs_bvs a x y s p w hu
  by_cases h56 : op = 56
  · subst h56; exact selfs_bcc a x y s p w hu
  by_cases h57 : op = 57
  · subst h57; exact selfs_bcs a x y s p w hu
  by_cases h58 : op = 58
  · subst h58; exact selfs_bne a x y s p w hu
  by_cases h59 : op = 59
  · subst h59; exact selfs_beq a x y s p w hu
  by_cases h60 : op = 60
  · subst h60; exact selfs_jmp a x y s p w hu
  by_cases h61 : op = 61
  · subst h61; exact selfs_jsr a x y s p w hu
  by_cases h62 : op = 62
  · subst h62; exact selfs_rts a x y s p w hu
  by_cases h63 : op = 63
  · subst h63; exact selfs_rti a x y s p w hu
  by_cases h64 : op = 64
  · subst h64; exact selfs_brk a x y s p w hu
  by_cases h65 : op = 65
  · subst h65; exact selfs_pha a x y s p w hu
  by_cases h66 : op = 66
  · subst h66; exact selfs_php a x y s p w hu
  by_cases h67 : op = 67
  · subst h67; exact selfs_pla a x y s p w hu
  by_cases h68 : op = 68
  · subst h68; exact selfs_plp a x y s p w hu
  by_cases h69 : op = 69
  · subst h69; exact selfs_jam a x y s p w hu
  have h70 : 70 ≤ op := by omega
  exact aluSelfs_g a x y s p op ⟨a, x, y, s, p⟩ { data := #[] } w hu hu hop (fun w => Self_other a x y s p op w (by unfold kindU; rw [if_neg (by omega), if_neg (by omega), if_neg (by omega), if_neg (by omega), if_neg (by omega), if_neg (by omega)]; decide) (by omega)) (fun w => rself_none a x y s p w) (fun w => rname_none op h70 w)

theorem aluSelfs_walk (a x y s p op : Int) (w : World) (hu : Ok ⟨a, x, y, s, p⟩) (hop : 0 ≤ op ∧ op < 256) :
    Calls Try.prog 5 #[uv a x y s p, .int .u8 op] w fun e w' => e = .returned (.bool true) ∧ Below w.heap.size w w' :=
  (aluSelfs_w a x y s p op w hu hop).mono fun _ _ h => ⟨h.1, h.2.below⟩

end Go.Proofs.Ytigpmmjbdpnkjaa
