/- Every operation that changes a byte, number by number. No law is claimed here. -/
import Derived.Test.YtigpmmjbdpnkjaaAluI
namespace Go.Proofs.Ytigpmmjbdpnkjaa
open Go.RowKit

theorem ok_fl (u : Un) (f : Int) (b : Bool) (h : Ok u) : Ok (flU u f b) := ⟨h.1, h.2.1, h.2.2.1, h.2.2.2.1, flU_u8 _ _ _⟩
theorem ok_sg (u : Un) (m : Int) (h : Ok u) : Ok (sgU u m) := ok_fl _ _ _ (ok_fl _ _ _ h)
theorem ok_lda (u : Un) (m : Int) (h : Ok u) (hm : 0 ≤ m ∧ m < 256) : Ok (ldaU u m) := ok_sg _ _ ⟨hm, h.2.1, h.2.2.1, h.2.2.2.1, h.2.2.2.2⟩
theorem ok_ora (u : Un) (m : Int) (h : Ok u) : Ok (oraU u m) := ok_lda _ _ h (bits_u8 .or _ _)
theorem ok_and (u : Un) (m : Int) (h : Ok u) : Ok (andU u m) := ok_lda _ _ h (bits_u8 .and _ _)
theorem ok_eor (u : Un) (m : Int) (h : Ok u) : Ok (eorU u m) := ok_lda _ _ h (bits_u8 .xor _ _)
theorem ok_cmp (u : Un) (b m : Int) (h : Ok u) : Ok (cmpU u b m) := ok_sg _ _ (ok_fl _ _ _ h)
theorem ok_adc (u : Un) (m : Int) (h : Ok u) : Ok (adcU u m) :=
  ok_lda _ _ (ok_fl _ _ _ (ok_fl _ _ _ h)) ⟨Int.emod_nonneg _ (by decide), Int.emod_lt_of_pos _ (by decide)⟩
theorem two_fst (r : Un × Int) (f : Un → Int → Un) : (twoU r f).1 = f r.1 r.2 := rfl
theorem two_snd (r : Un × Int) (f : Un → Int → Un) : (twoU r f).2 = r.2 := rfl

set_option maxRecDepth 100000 in
set_option maxHeartbeats 1000000 in
theorem changes_asl (a x y s p m : Int) (w : World) (hu : Ok ⟨a, x, y, s, p⟩) (hm : 0 ≤ m ∧ m < 256) :
    Calls Try.prog 4 #[uv a x y s p, .int .u8 19, .int .u8 m] w fun e w' => e = .returned (.bool true) ∧ Ext w w' := by
  have hu' := hu
  obtain ⟨ha, hx, hy, hs, hp⟩ := hu'
  simp only at ha hx hy hs hp
  have hn : 0 ≤ 2 * m % 256 ∧ 2 * m % 256 < 256 := by omega
  exact aluChanges_yes a x y s p 19 m ((sgU (flU ⟨a, x, y, s, p⟩ 1 (m / 128 == 1)) (2 * m % 256))) (2 * m % 256) { data := #[65, 83, 76] } w hu (ok_sg _ _ (ok_fl _ _ _ hu)) hn (by decide) hm (by decide) (fun w => by have := Change_asl a x y s p m w; rw [chg_asl a x y s p m hm] at this; exact this) (fun w => rchange_asl a x y s p m hu hm w) (fun w => rname_any 19 _ (by decide) rfl w)

set_option maxRecDepth 100000 in
set_option maxHeartbeats 1000000 in
theorem changes_lsr (a x y s p m : Int) (w : World) (hu : Ok ⟨a, x, y, s, p⟩) (hm : 0 ≤ m ∧ m < 256) :
    Calls Try.prog 4 #[uv a x y s p, .int .u8 20, .int .u8 m] w fun e w' => e = .returned (.bool true) ∧ Ext w w' := by
  have hu' := hu
  obtain ⟨ha, hx, hy, hs, hp⟩ := hu'
  simp only at ha hx hy hs hp
  have hn : 0 ≤ m / 2 ∧ m / 2 < 256 := by omega
  exact aluChanges_yes a x y s p 20 m ((sgU (flU ⟨a, x, y, s, p⟩ 1 (m % 2 == 1)) (m / 2))) (m / 2) { data := #[76, 83, 82] } w hu (ok_sg _ _ (ok_fl _ _ _ hu)) hn (by decide) hm (by decide) (fun w => by have := Change_lsr a x y s p m w; rw [chg_lsr a x y s p m hm] at this; exact this) (fun w => rchange_lsr a x y s p m hu hm w) (fun w => rname_any 20 _ (by decide) rfl w)

set_option maxRecDepth 100000 in
set_option maxHeartbeats 1000000 in
theorem changes_rol (a x y s p m : Int) (w : World) (hu : Ok ⟨a, x, y, s, p⟩) (hm : 0 ≤ m ∧ m < 256) :
    Calls Try.prog 4 #[uv a x y s p, .int .u8 21, .int .u8 m] w fun e w' => e = .returned (.bool true) ∧ Ext w w' := by
  have hu' := hu
  obtain ⟨ha, hx, hy, hs, hp⟩ := hu'
  simp only at ha hx hy hs hp
  have hn : 0 ≤ 2 * m % 256 + p % 2 ∧ 2 * m % 256 + p % 2 < 256 := by omega
  exact aluChanges_yes a x y s p 21 m ((sgU (flU ⟨a, x, y, s, p⟩ 1 (m / 128 == 1)) (2 * m % 256 + p % 2))) (2 * m % 256 + p % 2) { data := #[82, 79, 76] } w hu (ok_sg _ _ (ok_fl _ _ _ hu)) hn (by decide) hm (by decide) (fun w => by have := Change_rol a x y s p m w; rw [chg_rol a x y s p m hp hm] at this; exact this) (fun w => rchange_rol a x y s p m hu hm w) (fun w => rname_any 21 _ (by decide) rfl w)

set_option maxRecDepth 100000 in
set_option maxHeartbeats 1000000 in
theorem changes_ror (a x y s p m : Int) (w : World) (hu : Ok ⟨a, x, y, s, p⟩) (hm : 0 ≤ m ∧ m < 256) :
    Calls Try.prog 4 #[uv a x y s p, .int .u8 22, .int .u8 m] w fun e w' => e = .returned (.bool true) ∧ Ext w w' := by
  have hu' := hu
  obtain ⟨ha, hx, hy, hs, hp⟩ := hu'
  simp only at ha hx hy hs hp
  have hn : 0 ≤ m / 2 + 128 * (p % 2) ∧ m / 2 + 128 * (p % 2) < 256 := by omega
  exact aluChanges_yes a x y s p 22 m ((sgU (flU ⟨a, x, y, s, p⟩ 1 (m % 2 == 1)) (m / 2 + 128 * (p % 2)))) (m / 2 + 128 * (p % 2)) { data := #[82, 79, 82] } w hu (ok_sg _ _ (ok_fl _ _ _ hu)) hn (by decide) hm (by decide) (fun w => by have := Change_ror a x y s p m w; rw [chg_ror a x y s p m hp hm] at this; exact this) (fun w => rchange_ror a x y s p m hu hm w) (fun w => rname_any 22 _ (by decide) rfl w)

set_option maxRecDepth 100000 in
set_option maxHeartbeats 1000000 in
theorem changes_inc (a x y s p m : Int) (w : World) (hu : Ok ⟨a, x, y, s, p⟩) (hm : 0 ≤ m ∧ m < 256) :
    Calls Try.prog 4 #[uv a x y s p, .int .u8 23, .int .u8 m] w fun e w' => e = .returned (.bool true) ∧ Ext w w' := by
  have hu' := hu
  obtain ⟨ha, hx, hy, hs, hp⟩ := hu'
  simp only at ha hx hy hs hp
  have hn : 0 ≤ (m + 1) % 256 ∧ (m + 1) % 256 < 256 := by omega
  exact aluChanges_yes a x y s p 23 m ((sgU ⟨a, x, y, s, p⟩ ((m + 1) % 256))) ((m + 1) % 256) { data := #[73, 78, 67] } w hu (ok_sg _ _ hu) hn (by decide) hm (by decide) (fun w => by have := Change_inc a x y s p m w; rw [chg_inc a x y s p m] at this; exact this) (fun w => rchange_inc a x y s p m hu hm w) (fun w => rname_any 23 _ (by decide) rfl w)

set_option maxRecDepth 100000 in
set_option maxHeartbeats 1000000 in
theorem changes_dec (a x y s p m : Int) (w : World) (hu : Ok ⟨a, x, y, s, p⟩) (hm : 0 ≤ m ∧ m < 256) :
    Calls Try.prog 4 #[uv a x y s p, .int .u8 24, .int .u8 m] w fun e w' => e = .returned (.bool true) ∧ Ext w w' := by
  have hu' := hu
  obtain ⟨ha, hx, hy, hs, hp⟩ := hu'
  simp only at ha hx hy hs hp
  have hn : 0 ≤ (m + 255) % 256 ∧ (m + 255) % 256 < 256 := by omega
  exact aluChanges_yes a x y s p 24 m ((sgU ⟨a, x, y, s, p⟩ ((m + 255) % 256))) ((m + 255) % 256) { data := #[68, 69, 67] } w hu (ok_sg _ _ hu) hn (by decide) hm (by decide) (fun w => by have := Change_dec a x y s p m w; rw [chg_dec a x y s p m] at this; exact this) (fun w => rchange_dec a x y s p m hu hm w) (fun w => rname_any 24 _ (by decide) rfl w)

set_option maxRecDepth 100000 in
set_option maxHeartbeats 1000000 in
theorem changes_slo (a x y s p m : Int) (w : World) (hu : Ok ⟨a, x, y, s, p⟩) (hm : 0 ≤ m ∧ m < 256) :
    Calls Try.prog 4 #[uv a x y s p, .int .u8 25, .int .u8 m] w fun e w' => e = .returned (.bool true) ∧ Ext w w' := by
  have hu' := hu
  obtain ⟨ha, hx, hy, hs, hp⟩ := hu'
  simp only at ha hx hy hs hp
  have hn : 0 ≤ 2 * m % 256 ∧ 2 * m % 256 < 256 := by omega
  exact aluChanges_yes a x y s p 25 m (oraU (sgU (flU ⟨a, x, y, s, p⟩ 1 (m / 128 == 1)) (2 * m % 256)) (2 * m % 256)) (2 * m % 256) { data := #[83, 76, 79] } w hu (ok_ora _ _ (ok_sg _ _ (ok_fl _ _ _ hu))) hn (by decide) hm (by decide) (fun w => by have := Change_slo a x y s p m w; rw [two_fst, two_snd, chg_asl a x y s p m hm] at this; exact this) (fun w => rchange_slo a x y s p m hu hm w) (fun w => rname_any 25 _ (by decide) rfl w)

set_option maxRecDepth 100000 in
set_option maxHeartbeats 1000000 in
theorem changes_rla (a x y s p m : Int) (w : World) (hu : Ok ⟨a, x, y, s, p⟩) (hm : 0 ≤ m ∧ m < 256) :
    Calls Try.prog 4 #[uv a x y s p, .int .u8 26, .int .u8 m] w fun e w' => e = .returned (.bool true) ∧ Ext w w' := by
  have hu' := hu
  obtain ⟨ha, hx, hy, hs, hp⟩ := hu'
  simp only at ha hx hy hs hp
  have hn : 0 ≤ 2 * m % 256 + p % 2 ∧ 2 * m % 256 + p % 2 < 256 := by omega
  exact aluChanges_yes a x y s p 26 m (andU (sgU (flU ⟨a, x, y, s, p⟩ 1 (m / 128 == 1)) (2 * m % 256 + p % 2)) (2 * m % 256 + p % 2)) (2 * m % 256 + p % 2) { data := #[82, 76, 65] } w hu (ok_and _ _ (ok_sg _ _ (ok_fl _ _ _ hu))) hn (by decide) hm (by decide) (fun w => by have := Change_rla a x y s p m w; rw [two_fst, two_snd, chg_rol a x y s p m hp hm] at this; exact this) (fun w => rchange_rla a x y s p m hu hm w) (fun w => rname_any 26 _ (by decide) rfl w)

set_option maxRecDepth 100000 in
set_option maxHeartbeats 1000000 in
theorem changes_sre (a x y s p m : Int) (w : World) (hu : Ok ⟨a, x, y, s, p⟩) (hm : 0 ≤ m ∧ m < 256) :
    Calls Try.prog 4 #[uv a x y s p, .int .u8 27, .int .u8 m] w fun e w' => e = .returned (.bool true) ∧ Ext w w' := by
  have hu' := hu
  obtain ⟨ha, hx, hy, hs, hp⟩ := hu'
  simp only at ha hx hy hs hp
  have hn : 0 ≤ m / 2 ∧ m / 2 < 256 := by omega
  exact aluChanges_yes a x y s p 27 m (eorU (sgU (flU ⟨a, x, y, s, p⟩ 1 (m % 2 == 1)) (m / 2)) (m / 2)) (m / 2) { data := #[83, 82, 69] } w hu (ok_eor _ _ (ok_sg _ _ (ok_fl _ _ _ hu))) hn (by decide) hm (by decide) (fun w => by have := Change_sre a x y s p m w; rw [two_fst, two_snd, chg_lsr a x y s p m hm] at this; exact this) (fun w => rchange_sre a x y s p m hu hm w) (fun w => rname_any 27 _ (by decide) rfl w)

set_option maxRecDepth 100000 in
set_option maxHeartbeats 1000000 in
theorem changes_rra (a x y s p m : Int) (w : World) (hu : Ok ⟨a, x, y, s, p⟩) (hm : 0 ≤ m ∧ m < 256) :
    Calls Try.prog 4 #[uv a x y s p, .int .u8 28, .int .u8 m] w fun e w' => e = .returned (.bool true) ∧ Ext w w' := by
  have hu' := hu
  obtain ⟨ha, hx, hy, hs, hp⟩ := hu'
  simp only at ha hx hy hs hp
  have hn : 0 ≤ m / 2 + 128 * (p % 2) ∧ m / 2 + 128 * (p % 2) < 256 := by omega
  exact aluChanges_yes a x y s p 28 m (adcU (sgU (flU ⟨a, x, y, s, p⟩ 1 (m % 2 == 1)) (m / 2 + 128 * (p % 2))) (m / 2 + 128 * (p % 2))) (m / 2 + 128 * (p % 2)) { data := #[82, 82, 65] } w hu (ok_adc _ _ (ok_sg _ _ (ok_fl _ _ _ hu))) hn (by decide) hm (by decide) (fun w => by have := Change_rra a x y s p m ha.1 ha.2 w; rw [two_fst, two_snd, chg_ror a x y s p m hp hm] at this; exact this) (fun w => rchange_rra a x y s p m hu hm w) (fun w => rname_any 28 _ (by decide) rfl w)

set_option maxRecDepth 100000 in
set_option maxHeartbeats 1000000 in
theorem changes_dcp (a x y s p m : Int) (w : World) (hu : Ok ⟨a, x, y, s, p⟩) (hm : 0 ≤ m ∧ m < 256) :
    Calls Try.prog 4 #[uv a x y s p, .int .u8 29, .int .u8 m] w fun e w' => e = .returned (.bool true) ∧ Ext w w' := by
  have hu' := hu
  obtain ⟨ha, hx, hy, hs, hp⟩ := hu'
  simp only at ha hx hy hs hp
  have hn : 0 ≤ (m + 255) % 256 ∧ (m + 255) % 256 < 256 := by omega
  exact aluChanges_yes a x y s p 29 m (cmpU (sgU ⟨a, x, y, s, p⟩ ((m + 255) % 256)) (sgU ⟨a, x, y, s, p⟩ ((m + 255) % 256)).a ((m + 255) % 256)) ((m + 255) % 256) { data := #[68, 67, 80] } w hu (ok_cmp _ _ _ (ok_sg _ _ hu)) hn (by decide) hm (by decide) (fun w => by have := Change_dcp a x y s p m w; rw [two_fst, two_snd, chg_dec a x y s p m] at this; exact this) (fun w => rchange_dcp a x y s p m hu hm w) (fun w => rname_any 29 _ (by decide) rfl w)

set_option maxRecDepth 100000 in
set_option maxHeartbeats 1000000 in
theorem changes_isc (a x y s p m : Int) (w : World) (hu : Ok ⟨a, x, y, s, p⟩) (hm : 0 ≤ m ∧ m < 256) :
    Calls Try.prog 4 #[uv a x y s p, .int .u8 30, .int .u8 m] w fun e w' => e = .returned (.bool true) ∧ Ext w w' := by
  have hu' := hu
  obtain ⟨ha, hx, hy, hs, hp⟩ := hu'
  simp only at ha hx hy hs hp
  have hn : 0 ≤ (m + 1) % 256 ∧ (m + 1) % 256 < 256 := by omega
  exact aluChanges_yes a x y s p 30 m (adcU (sgU ⟨a, x, y, s, p⟩ ((m + 1) % 256)) (notB ((m + 1) % 256))) ((m + 1) % 256) { data := #[73, 83, 67] } w hu (ok_adc _ _ (ok_sg _ _ hu)) hn (by decide) hm (by decide) (fun w => by have := Change_isc a x y s p m ha.1 ha.2 w; rw [two_fst, two_snd, chg_inc a x y s p m] at this; exact this) (fun w => by have := rchange_isc a x y s p m hu hm w; rw [← not_in ((m + 1) % 256) hn] at this; exact this) (fun w => rname_any 30 _ (by decide) rfl w)

theorem aluChanges_w (a x y s p op m : Int) (w : World) (hu : Ok ⟨a, x, y, s, p⟩) (hop : 0 ≤ op ∧ op < 256) (hm : 0 ≤ m ∧ m < 256) :
    Calls Try.prog 4 #[uv a x y s p, .int .u8 op, .int .u8 m] w fun e w' => e = .returned (.bool true) ∧ Ext w w' := by
  by_cases h0 : op = 19
  · subst h0; exact changes_asl a x y s p m w hu hm
  by_cases h1 : op = 20
  · subst h1; exact changes_lsr a x y s p m w hu hm
  by_cases h2 : op = 21
  · subst h2; exact changes_rol a x y s p m w hu hm
  by_cases h3 : op = 22
  · subst h3; exact changes_ror a x y s p m w hu hm
  by_cases h4 : op = 23
  · subst h4; exact changes_inc a x y s p m w hu hm
  by_cases h5 : op = 24
  · subst h5; exact changes_dec a x y s p m w hu hm
  by_cases h6 : op = 25
  · subst h6; exact changes_slo a x y s p m w hu hm
  by_cases h7 : op = 26
  · subst h7; exact changes_rla a x y s p m w hu hm
  by_cases h8 : op = 27
  · subst h8; exact changes_sre a x y s p m w hu hm
  by_cases h9 : op = 28
  · subst h9; exact changes_rra a x y s p m w hu hm
  by_cases h10 : op = 29
  · subst h10; exact changes_dcp a x y s p m w hu hm
  by_cases h11 : op = 30
  · subst h11; exact changes_isc a x y s p m w hu hm
  exact aluChanges_no a x y s p op m w hu hop hm (by
    unfold kindU
    by_cases h : op ≤ 18
    · rw [if_pos h]; omega
    · rw [if_neg h, if_neg (by omega)]; split <;> (try split) <;> (try split) <;> (try split) <;> omega)

theorem aluChanges_walk (a x y s p op m : Int) (w : World) (hu : Ok ⟨a, x, y, s, p⟩) (hop : 0 ≤ op ∧ op < 256) (hm : 0 ≤ m ∧ m < 256) :
    Calls Try.prog 4 #[uv a x y s p, .int .u8 op, .int .u8 m] w fun e w' => e = .returned (.bool true) ∧ Below w.heap.size w w' :=
  (aluChanges_w a x y s p op m w hu hop hm).mono fun _ _ h => ⟨h.1, h.2.below⟩

end Go.Proofs.Ytigpmmjbdpnkjaa
