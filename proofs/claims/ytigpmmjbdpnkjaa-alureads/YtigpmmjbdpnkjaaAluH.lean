/- Every operation that reads (walk). No law is claimed here. -/
import Derived.Test.YtigpmmjbdpnkjaaAluG
import Derived.Test.YtigpmmjbdpnkjaaAluQ
import Derived.Test.YtigpmmjbdpnkjaaRU4
import Derived.Test.YtigpmmjbdpnkjaaRU5
import Derived.Test.YtigpmmjbdpnkjaaRU6
import Derived.Test.YtigpmmjbdpnkjaaAluJ
namespace Go.Proofs.Ytigpmmjbdpnkjaa
open Go.RowKit

theorem okx (u : Un) (m : Int) (h : Ok u) (hm : 0 ≤ m ∧ m < 256) : Ok (ldxU u m) := ok_sg _ _ ⟨h.1, hm, h.2.2.1, h.2.2.2.1, h.2.2.2.2⟩
theorem oky (u : Un) (m : Int) (h : Ok u) (hm : 0 ≤ m ∧ m < 256) : Ok (ldyU u m) := ok_sg _ _ ⟨h.1, h.2.1, hm, h.2.2.2.1, h.2.2.2.2⟩
theorem ok_on (u : Un) (m c : Int) (h : Ok u) : Ok (onU (rightU u m c)) := ⟨right2 u m c, h.2.1, h.2.2.1, h.2.2.2.1, sgU_u8 _ _⟩
theorem wrap_in (n : Int) : 0 ≤ IntKind.u8.wrap n ∧ IntKind.u8.wrap n < 256 := by rw [wrap_u8_mod]; omega

set_option maxRecDepth 100000 in
set_option maxHeartbeats 400000 in
theorem reads_nop (a x y s p m : Int) (w : World) (hu : Ok ⟨a, x, y, s, p⟩) (hm : 0 ≤ m ∧ m < 256) :
    Calls Try.prog 3 #[uv a x y s p, .int .u8 0, .int .u8 m] w fun e w' => e = .returned (.bool true) ∧ Ext w w' := by
  have hu' := hu
  obtain ⟨ha, hx, hy, hs, hp⟩ := hu'
  simp only at ha hx hy hs hp
  exact aluReads_yes a x y s p 0 m (⟨a, x, y, s, p⟩) { data := #[78, 79, 80] } w hu hu (by decide) hm (by decide) (fun w => Read_nop a x y s p m w) (fun w => rread_nop a x y s p m hu hm w) (fun w => rname_any 0 _ (by decide) rfl w)

set_option maxRecDepth 100000 in
set_option maxHeartbeats 400000 in
theorem reads_ora (a x y s p m : Int) (w : World) (hu : Ok ⟨a, x, y, s, p⟩) (hm : 0 ≤ m ∧ m < 256) :
    Calls Try.prog 3 #[uv a x y s p, .int .u8 1, .int .u8 m] w fun e w' => e = .returned (.bool true) ∧ Ext w w' := by
  have hu' := hu
  obtain ⟨ha, hx, hy, hs, hp⟩ := hu'
  simp only at ha hx hy hs hp
  exact aluReads_yes a x y s p 1 m (oraU ⟨a, x, y, s, p⟩ m) { data := #[79, 82, 65] } w hu (ok_ora _ _ hu) (by decide) hm (by decide) (fun w => Read_ora a x y s p m w) (fun w => rread_ora a x y s p m _ hu hm (bits_u8 .or a m).1 (bits_u8 .or a m).2 (or64 a m ha hm) w) (fun w => rname_any 1 _ (by decide) rfl w)

set_option maxRecDepth 100000 in
set_option maxHeartbeats 400000 in
theorem reads_and (a x y s p m : Int) (w : World) (hu : Ok ⟨a, x, y, s, p⟩) (hm : 0 ≤ m ∧ m < 256) :
    Calls Try.prog 3 #[uv a x y s p, .int .u8 2, .int .u8 m] w fun e w' => e = .returned (.bool true) ∧ Ext w w' := by
  have hu' := hu
  obtain ⟨ha, hx, hy, hs, hp⟩ := hu'
  simp only at ha hx hy hs hp
  exact aluReads_yes a x y s p 2 m (andU ⟨a, x, y, s, p⟩ m) { data := #[65, 78, 68] } w hu (ok_and _ _ hu) (by decide) hm (by decide) (fun w => Read_and a x y s p m w) (fun w => rread_and a x y s p m _ hu hm (bits_u8 .and a m).1 (bits_u8 .and a m).2 (and64 a m ha hm) w) (fun w => rname_any 2 _ (by decide) rfl w)

set_option maxRecDepth 100000 in
set_option maxHeartbeats 400000 in
theorem reads_eor (a x y s p m : Int) (w : World) (hu : Ok ⟨a, x, y, s, p⟩) (hm : 0 ≤ m ∧ m < 256) :
    Calls Try.prog 3 #[uv a x y s p, .int .u8 3, .int .u8 m] w fun e w' => e = .returned (.bool true) ∧ Ext w w' := by
  have hu' := hu
  obtain ⟨ha, hx, hy, hs, hp⟩ := hu'
  simp only at ha hx hy hs hp
  exact aluReads_yes a x y s p 3 m (eorU ⟨a, x, y, s, p⟩ m) { data := #[69, 79, 82] } w hu (ok_eor _ _ hu) (by decide) hm (by decide) (fun w => Read_eor a x y s p m w) (fun w => rread_eor a x y s p m _ hu hm (bits_u8 .xor a m).1 (bits_u8 .xor a m).2 (xor64 a m ha hm) w) (fun w => rname_any 3 _ (by decide) rfl w)

set_option maxRecDepth 100000 in
set_option maxHeartbeats 400000 in
theorem reads_adc (a x y s p m : Int) (w : World) (hu : Ok ⟨a, x, y, s, p⟩) (hm : 0 ≤ m ∧ m < 256) :
    Calls Try.prog 3 #[uv a x y s p, .int .u8 4, .int .u8 m] w fun e w' => e = .returned (.bool true) ∧ Ext w w' := by
  have hu' := hu
  obtain ⟨ha, hx, hy, hs, hp⟩ := hu'
  simp only at ha hx hy hs hp
  exact aluReads_yes a x y s p 4 m (adcU ⟨a, x, y, s, p⟩ m) { data := #[65, 68, 67] } w hu (ok_adc _ _ hu) (by decide) hm (by decide) (fun w => Read_adc a x y s p m ha.1 ha.2 hm.1 hm.2 w) (fun w => rread_adc a x y s p m hu hm w) (fun w => rname_any 4 _ (by decide) rfl w)

set_option maxRecDepth 100000 in
set_option maxHeartbeats 400000 in
theorem reads_sbc (a x y s p m : Int) (w : World) (hu : Ok ⟨a, x, y, s, p⟩) (hm : 0 ≤ m ∧ m < 256) :
    Calls Try.prog 3 #[uv a x y s p, .int .u8 5, .int .u8 m] w fun e w' => e = .returned (.bool true) ∧ Ext w w' := by
  have hu' := hu
  obtain ⟨ha, hx, hy, hs, hp⟩ := hu'
  simp only at ha hx hy hs hp
  exact aluReads_yes a x y s p 5 m (adcU ⟨a, x, y, s, p⟩ (notB m)) { data := #[83, 66, 67] } w hu (ok_adc _ _ hu) (by decide) hm (by decide) (fun w => Read_sbc a x y s p m ha.1 ha.2 w) (fun w => by have := rread_sbc a x y s p m hu hm w; rw [← not_in m hm] at this; exact this) (fun w => rname_any 5 _ (by decide) rfl w)

set_option maxRecDepth 100000 in
set_option maxHeartbeats 400000 in
theorem reads_cmp (a x y s p m : Int) (w : World) (hu : Ok ⟨a, x, y, s, p⟩) (hm : 0 ≤ m ∧ m < 256) :
    Calls Try.prog 3 #[uv a x y s p, .int .u8 6, .int .u8 m] w fun e w' => e = .returned (.bool true) ∧ Ext w w' := by
  have hu' := hu
  obtain ⟨ha, hx, hy, hs, hp⟩ := hu'
  simp only at ha hx hy hs hp
  exact aluReads_yes a x y s p 6 m (cmpU ⟨a, x, y, s, p⟩ a m) { data := #[67, 77, 80] } w hu (ok_cmp _ _ _ hu) (by decide) hm (by decide) (fun w => Read_cmp a x y s p m w) (fun w => rread_cmp a x y s p m hu hm w) (fun w => rname_any 6 _ (by decide) rfl w)

set_option maxRecDepth 100000 in
set_option maxHeartbeats 400000 in
theorem reads_cpx (a x y s p m : Int) (w : World) (hu : Ok ⟨a, x, y, s, p⟩) (hm : 0 ≤ m ∧ m < 256) :
    Calls Try.prog 3 #[uv a x y s p, .int .u8 7, .int .u8 m] w fun e w' => e = .returned (.bool true) ∧ Ext w w' := by
  have hu' := hu
  obtain ⟨ha, hx, hy, hs, hp⟩ := hu'
  simp only at ha hx hy hs hp
  exact aluReads_yes a x y s p 7 m (cmpU ⟨a, x, y, s, p⟩ x m) { data := #[67, 80, 88] } w hu (ok_cmp _ _ _ hu) (by decide) hm (by decide) (fun w => Read_cpx a x y s p m w) (fun w => rread_cpx a x y s p m hu hm w) (fun w => rname_any 7 _ (by decide) rfl w)

set_option maxRecDepth 100000 in
set_option maxHeartbeats 400000 in
theorem reads_cpy (a x y s p m : Int) (w : World) (hu : Ok ⟨a, x, y, s, p⟩) (hm : 0 ≤ m ∧ m < 256) :
    Calls Try.prog 3 #[uv a x y s p, .int .u8 8, .int .u8 m] w fun e w' => e = .returned (.bool true) ∧ Ext w w' := by
  have hu' := hu
  obtain ⟨ha, hx, hy, hs, hp⟩ := hu'
  simp only at ha hx hy hs hp
  exact aluReads_yes a x y s p 8 m (cmpU ⟨a, x, y, s, p⟩ y m) { data := #[67, 80, 89] } w hu (ok_cmp _ _ _ hu) (by decide) hm (by decide) (fun w => Read_cpy a x y s p m w) (fun w => rread_cpy a x y s p m hu hm w) (fun w => rname_any 8 _ (by decide) rfl w)

set_option maxRecDepth 100000 in
set_option maxHeartbeats 400000 in
theorem reads_lda (a x y s p m : Int) (w : World) (hu : Ok ⟨a, x, y, s, p⟩) (hm : 0 ≤ m ∧ m < 256) :
    Calls Try.prog 3 #[uv a x y s p, .int .u8 9, .int .u8 m] w fun e w' => e = .returned (.bool true) ∧ Ext w w' := by
  have hu' := hu
  obtain ⟨ha, hx, hy, hs, hp⟩ := hu'
  simp only at ha hx hy hs hp
  exact aluReads_yes a x y s p 9 m (ldaU ⟨a, x, y, s, p⟩ m) { data := #[76, 68, 65] } w hu (ok_lda _ _ hu hm) (by decide) hm (by decide) (fun w => Read_lda a x y s p m w) (fun w => rread_lda a x y s p m hu hm w) (fun w => rname_any 9 _ (by decide) rfl w)

set_option maxRecDepth 100000 in
set_option maxHeartbeats 400000 in
theorem reads_ldx (a x y s p m : Int) (w : World) (hu : Ok ⟨a, x, y, s, p⟩) (hm : 0 ≤ m ∧ m < 256) :
    Calls Try.prog 3 #[uv a x y s p, .int .u8 10, .int .u8 m] w fun e w' => e = .returned (.bool true) ∧ Ext w w' := by
  have hu' := hu
  obtain ⟨ha, hx, hy, hs, hp⟩ := hu'
  simp only at ha hx hy hs hp
  exact aluReads_yes a x y s p 10 m (ldxU ⟨a, x, y, s, p⟩ m) { data := #[76, 68, 88] } w hu (okx _ _ hu hm) (by decide) hm (by decide) (fun w => Read_ldx a x y s p m w) (fun w => rread_ldx a x y s p m hu hm w) (fun w => rname_any 10 _ (by decide) rfl w)

set_option maxRecDepth 100000 in
set_option maxHeartbeats 400000 in
theorem reads_ldy (a x y s p m : Int) (w : World) (hu : Ok ⟨a, x, y, s, p⟩) (hm : 0 ≤ m ∧ m < 256) :
    Calls Try.prog 3 #[uv a x y s p, .int .u8 11, .int .u8 m] w fun e w' => e = .returned (.bool true) ∧ Ext w w' := by
  have hu' := hu
  obtain ⟨ha, hx, hy, hs, hp⟩ := hu'
  simp only at ha hx hy hs hp
  exact aluReads_yes a x y s p 11 m (ldyU ⟨a, x, y, s, p⟩ m) { data := #[76, 68, 89] } w hu (oky _ _ hu hm) (by decide) hm (by decide) (fun w => Read_ldy a x y s p m w) (fun w => rread_ldy a x y s p m hu hm w) (fun w => rname_any 11 _ (by decide) rfl w)

set_option maxRecDepth 100000 in
set_option maxHeartbeats 400000 in
theorem reads_bit (a x y s p m : Int) (w : World) (hu : Ok ⟨a, x, y, s, p⟩) (hm : 0 ≤ m ∧ m < 256) :
    Calls Try.prog 3 #[uv a x y s p, .int .u8 12, .int .u8 m] w fun e w' => e = .returned (.bool true) ∧ Ext w w' := by
  have hu' := hu
  obtain ⟨ha, hx, hy, hs, hp⟩ := hu'
  simp only at ha hx hy hs hp
  exact aluReads_yes a x y s p 12 m (bitU ⟨a, x, y, s, p⟩ m) { data := #[66, 73, 84] } w hu (ok_fl _ _ _ (ok_fl _ _ _ (ok_fl _ _ _ hu))) (by decide) hm (by decide) (fun w => Read_bit a x y s p m w) (fun w => by have := rread_bit a x y s p m _ hu hm (and64 a m ha hm) w; rw [bit_eq ⟨a, x, y, s, p⟩ m _ hm rfl] at this; exact this) (fun w => rname_any 12 _ (by decide) rfl w)

set_option maxRecDepth 100000 in
set_option maxHeartbeats 400000 in
theorem reads_lax (a x y s p m : Int) (w : World) (hu : Ok ⟨a, x, y, s, p⟩) (hm : 0 ≤ m ∧ m < 256) :
    Calls Try.prog 3 #[uv a x y s p, .int .u8 13, .int .u8 m] w fun e w' => e = .returned (.bool true) ∧ Ext w w' := by
  have hu' := hu
  obtain ⟨ha, hx, hy, hs, hp⟩ := hu'
  simp only at ha hx hy hs hp
  exact aluReads_yes a x y s p 13 m (laxU ⟨a, x, y, s, p⟩ m) { data := #[76, 65, 88] } w hu (okx _ _ (ok_lda _ _ hu hm) hm) (by decide) hm (by decide) (fun w => Read_lax a x y s p m w) (fun w => by have := rread_lax a x y s p m hu hm w; rw [show sgU ⟨m, m, y, s, p⟩ m = laxU ⟨a, x, y, s, p⟩ m from lax_eq ⟨a, x, y, s, p⟩ m] at this; exact this) (fun w => rname_any 13 _ (by decide) rfl w)

set_option maxRecDepth 100000 in
set_option maxHeartbeats 400000 in
theorem reads_anc (a x y s p m : Int) (w : World) (hu : Ok ⟨a, x, y, s, p⟩) (hm : 0 ≤ m ∧ m < 256) :
    Calls Try.prog 3 #[uv a x y s p, .int .u8 14, .int .u8 m] w fun e w' => e = .returned (.bool true) ∧ Ext w w' := by
  have hu' := hu
  obtain ⟨ha, hx, hy, hs, hp⟩ := hu'
  simp only at ha hx hy hs hp
  exact aluReads_yes a x y s p 14 m (ancU ⟨a, x, y, s, p⟩ m) { data := #[65, 78, 67] } w hu (ok_fl _ _ _ (ok_and _ _ hu)) (by decide) hm (by decide) (fun w => Read_anc a x y s p m w) (fun w => by have := rread_anc a x y s p m _ hu hm (bits_u8 .and a m).1 (bits_u8 .and a m).2 (and64 a m ha hm) w; rw [show sgU (flU ⟨_, x, y, s, p⟩ 1 _) _ = ancU ⟨a, x, y, s, p⟩ m from anc_eq ⟨a, x, y, s, p⟩ m _ rfl] at this; exact this) (fun w => rname_any 14 _ (by decide) rfl w)

set_option maxRecDepth 100000 in
set_option maxHeartbeats 400000 in
theorem reads_alr (a x y s p m : Int) (w : World) (hu : Ok ⟨a, x, y, s, p⟩) (hm : 0 ≤ m ∧ m < 256) :
    Calls Try.prog 3 #[uv a x y s p, .int .u8 15, .int .u8 m] w fun e w' => e = .returned (.bool true) ∧ Ext w w' := by
  have hu' := hu
  obtain ⟨ha, hx, hy, hs, hp⟩ := hu'
  simp only at ha hx hy hs hp
  exact aluReads_yes a x y s p 15 m (alrU ⟨a, x, y, s, p⟩ m) { data := #[65, 76, 82] } w hu (ok_on _ _ _ (ok_and _ _ hu)) (by decide) hm (by decide) (fun w => Read_alr a x y s p m w) (fun w => by have := rread_alr a x y s p m _ hu hm (bits_u8 .and a m).1 (bits_u8 .and a m).2 (and64 a m ha hm) w; rw [show sgU (flU ⟨_, x, y, s, p⟩ 1 _) _ = alrU ⟨a, x, y, s, p⟩ m from alr_eq ⟨a, x, y, s, p⟩ m _ rfl] at this; exact this) (fun w => rname_any 15 _ (by decide) rfl w)

set_option maxRecDepth 100000 in
set_option maxHeartbeats 400000 in
theorem reads_arr (a x y s p m : Int) (w : World) (hu : Ok ⟨a, x, y, s, p⟩) (hm : 0 ≤ m ∧ m < 256) :
    Calls Try.prog 3 #[uv a x y s p, .int .u8 16, .int .u8 m] w fun e w' => e = .returned (.bool true) ∧ Ext w w' := by
  have hu' := hu
  obtain ⟨ha, hx, hy, hs, hp⟩ := hu'
  simp only at ha hx hy hs hp
  exact aluReads_yes a x y s p 16 m (arrU ⟨a, x, y, s, p⟩ m) { data := #[65, 82, 82] } w hu (ok_fl _ _ _ (ok_fl _ _ _ (ok_on _ _ _ (ok_and _ _ hu)))) (by decide) hm (by decide) (fun w => Read_arr a x y s p m w) (fun w => by have := rread_arr a x y s p m _ hu hm (bits_u8 .and a m).1 (bits_u8 .and a m).2 (and64 a m ha hm) _ rfl w; rw [show sgU (flU (flU ⟨_, x, y, s, p⟩ 1 _) 64 _) _ = arrU ⟨a, x, y, s, p⟩ m from arr_eq ⟨a, x, y, s, p⟩ m _ _ hp rfl rfl] at this; exact this) (fun w => rname_any 16 _ (by decide) rfl w)

set_option maxRecDepth 100000 in
set_option maxHeartbeats 400000 in
theorem reads_axs (a x y s p m : Int) (w : World) (hu : Ok ⟨a, x, y, s, p⟩) (hm : 0 ≤ m ∧ m < 256) :
    Calls Try.prog 3 #[uv a x y s p, .int .u8 17, .int .u8 m] w fun e w' => e = .returned (.bool true) ∧ Ext w w' := by
  have hu' := hu
  obtain ⟨ha, hx, hy, hs, hp⟩ := hu'
  simp only at ha hx hy hs hp
  exact aluReads_yes a x y s p 17 m (axsU ⟨a, x, y, s, p⟩ m) { data := #[65, 88, 83] } w hu (okx _ _ (ok_cmp _ _ _ hu) (wrap_in _)) (by decide) hm (by decide) (fun w => Read_axs a x y s p m w) (fun w => by have := rread_axs a x y s p m _ hu hm (bits_u8 .and a x).1 (bits_u8 .and a x).2 (and64 a x ha hx) w; rw [axs_eq ⟨a, x, y, s, p⟩ m _ rfl] at this; exact this) (fun w => rname_any 17 _ (by decide) rfl w)

set_option maxRecDepth 100000 in
set_option maxHeartbeats 400000 in
theorem reads_las (a x y s p m : Int) (w : World) (hu : Ok ⟨a, x, y, s, p⟩) (hm : 0 ≤ m ∧ m < 256) :
    Calls Try.prog 3 #[uv a x y s p, .int .u8 18, .int .u8 m] w fun e w' => e = .returned (.bool true) ∧ Ext w w' := by
  have hu' := hu
  obtain ⟨ha, hx, hy, hs, hp⟩ := hu'
  simp only at ha hx hy hs hp
  exact aluReads_yes a x y s p 18 m (lasU ⟨a, x, y, s, p⟩ m) { data := #[76, 65, 83] } w hu (okx _ _ (ok_lda _ _ ⟨hu.1, hu.2.1, hu.2.2.1, bits_u8 .and s m, hu.2.2.2.2⟩ (bits_u8 .and s m)) (bits_u8 .and s m)) (by decide) hm (by decide) (fun w => Read_las a x y s p m w) (fun w => by have := rread_las a x y s p m _ hu hm (bits_u8 .and s m).1 (bits_u8 .and s m).2 (and64 s m hs hm) w; rw [show sgU ⟨_, _, y, _, p⟩ _ = lasU ⟨a, x, y, s, p⟩ m from las_eq ⟨a, x, y, s, p⟩ m _ rfl] at this; exact this) (fun w => rname_any 18 _ (by decide) rfl w)

set_option maxRecDepth 100000 in
set_option maxHeartbeats 2000000 in
theorem aluReads_no (a x y s p op m : Int) (w : World) (hu : Ok ⟨a, x, y, s, p⟩) (hop : 0 ≤ op ∧ op < 256) (hm : 0 ≤ m ∧ m < 256) (hk : kindU op ≠ 1) :
    Calls Try.prog 3 #[uv a x y s p, .int .u8 op, .int .u8 m] w fun e w' => e = .returned (.bool true) ∧ Ext w w' := by
  have F0 := awake_any
  have F1 := fun w => Read_other a x y s p op m w hk
  have F4 := fun w => own_any a x y s p hu w
  have F6 := fun w => rkind_any op hop.1 hop.2 w
  have hk' : (kindU op == 1) = false := by rw [beq_eq_false_iff_ne]; exact hk
  unfold uu uv at F1
  unfold uv rv at F4
  have e1 : IntKind.i64.wrap op = op := IntWalk.i64_in _ ⟨by omega, by omega⟩
  have e2 : IntKind.i64.wrap m = m := IntWalk.i64_in _ ⟨by omega, by omega⟩
  have r1 := ext_cell
  have r2 := ext_frozen
  have r3 := ext_setCell
  have r4 := ext_lt
  have r5 := ext_drew
  have r6 := ext_ext
  clear hu hop hm hk
  generalize kindU op = kk at *
  unfold uv
  go_enter Try.func3, Try.ntmps3
  go_upto_region 4 with (first | (go_at_call 13; refine (F0 _).mono ?_; rintro e w' ⟨rfl, os, q, rfl⟩) | (go_at_call 14; refine (F4 _).mono ?_; rintro e w1 ⟨rfl, hE1⟩; have B1 := boxE (ext_on hE1)))
  go_upto_region 6 with (go_at_call 15; refine (F6 _).mono ?_; rintro e w' ⟨rfl, os, q, rfl⟩)
  go_region_held3 (fun v => (w.heap.size < v.heap.size ∧ v.cell? ⟨w.heap.size, 0, none⟩ = some (.int .u8 a) ∧ v.cell? ⟨w.heap.size, 1, none⟩ = some (.int .u8 x) ∧ v.cell? ⟨w.heap.size, 2, none⟩ = some (.int .u8 y) ∧ v.cell? ⟨w.heap.size, 3, none⟩ = some (.int .u8 s) ∧ v.cell? ⟨w.heap.size, 4, none⟩ = some (.int .u8 p)) ∧ (w1.heap.size < v.heap.size ∧ v.cell? ⟨w1.heap.size, 0, none⟩ = some (.int .i64 a) ∧ v.cell? ⟨w1.heap.size, 1, none⟩ = some (.int .i64 x) ∧ v.cell? ⟨w1.heap.size, 2, none⟩ = some (.int .i64 y) ∧ v.cell? ⟨w1.heap.size, 3, none⟩ = some (.int .i64 s) ∧ v.cell? ⟨w1.heap.size, 4, none⟩ = some (.int .i64 p))) (first | assumption | exact ⟨bx_ext (B1.ext ((Ext.refl _).alloc _)) _ _, bx_ext (Bx.made _ _ _ _ _ _ _ _) _ _⟩ | exact ⟨bx_drew (bx_ext (B1.ext ((Ext.refl _).alloc _)) _ _), bx_drew (bx_ext (Bx.made _ _ _ _ _ _ _ _) _ _)⟩) (first | (go_at_call 18; refine (F1 _).mono ?_; rintro e w' ⟨rfl, os, q, rfl⟩) | (go_at_call 14; refine (F4 _).mono ?_; rintro e w' ⟨rfl, os, q, rfl⟩))
  all_goals
    go_wp2
    go_ret
    refine ⟨rfl, ?_⟩
    repeat (first | exact Ext.refl _ | refine Ext.trans ?_ hE1 | refine Ext.alloc ?_ _ | refine Ext.ext ?_ _ _ | refine Ext.drew ?_ | refine Ext.drewN ?_ _)

theorem aluReads_w (a x y s p op m : Int) (w : World) (hu : Ok ⟨a, x, y, s, p⟩) (hop : 0 ≤ op ∧ op < 256) (hm : 0 ≤ m ∧ m < 256) :
    Calls Try.prog 3 #[uv a x y s p, .int .u8 op, .int .u8 m] w fun e w' => e = .returned (.bool true) ∧ Ext w w' := by
  by_cases h0 : op = 0
  · subst h0; exact reads_nop a x y s p m w hu hm
  by_cases h1 : op = 1
  · subst h1; exact reads_ora a x y s p m w hu hm
  by_cases h2 : op = 2
  · subst h2; exact reads_and a x y s p m w hu hm
  by_cases h3 : op = 3
  · subst h3; exact reads_eor a x y s p m w hu hm
  by_cases h4 : op = 4
  · subst h4; exact reads_adc a x y s p m w hu hm
  by_cases h5 : op = 5
  · subst h5; exact reads_sbc a x y s p m w hu hm
  by_cases h6 : op = 6
  · subst h6; exact reads_cmp a x y s p m w hu hm
  by_cases h7 : op = 7
  · subst h7; exact reads_cpx a x y s p m w hu hm
  by_cases h8 : op = 8
  · subst h8; exact reads_cpy a x y s p m w hu hm
  by_cases h9 : op = 9
  · subst h9; exact reads_lda a x y s p m w hu hm
  by_cases h10 : op = 10
  · subst h10; exact reads_ldx a x y s p m w hu hm
  by_cases h11 : op = 11
  · subst h11; exact reads_ldy a x y s p m w hu hm
  by_cases h12 : op = 12
  · subst h12; exact reads_bit a x y s p m w hu hm
  by_cases h13 : op = 13
  · subst h13; exact reads_lax a x y s p m w hu hm
  by_cases h14 : op = 14
  · subst h14; exact reads_anc a x y s p m w hu hm
  by_cases h15 : op = 15
  · subst h15; exact reads_alr a x y s p m w hu hm
  by_cases h16 : op = 16
  · subst h16; exact reads_arr a x y s p m w hu hm
  by_cases h17 : op = 17
  · subst h17; exact reads_axs a x y s p m w hu hm
  by_cases h18 : op = 18
  · subst h18; exact reads_las a x y s p m w hu hm
  exact aluReads_no a x y s p op m w hu hop hm (by unfold kindU; rw [if_neg (by omega)]; split <;> (try split) <;> (try split) <;> (try split) <;> (try split) <;> omega)

theorem aluReads_walk (a x y s p op m : Int) (w : World) (hu : Ok ⟨a, x, y, s, p⟩) (hop : 0 ≤ op ∧ op < 256) (hm : 0 ≤ m ∧ m < 256) :
    Calls Try.prog 3 #[uv a x y s p, .int .u8 op, .int .u8 m] w fun e w' => e = .returned (.bool true) ∧ Below w.heap.size w w' :=
  (aluReads_w a x y s p op m w hu hop hm).mono fun _ _ h => ⟨h.1, h.2.below⟩

end Go.Proofs.Ytigpmmjbdpnkjaa
