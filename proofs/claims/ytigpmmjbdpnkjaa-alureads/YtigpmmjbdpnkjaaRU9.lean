/- The document's operations that change a byte (kotatsuref08.Change). No law is claimed here. -/
import Derived.Test.YtigpmmjbdpnkjaaRU4
import Derived.Test.YtigpmmjbdpnkjaaAluQ
namespace Go.Proofs.Ytigpmmjbdpnkjaa
open Go.RowKit

set_option maxRecDepth 100000 in
set_option maxHeartbeats 2000000 in
theorem rchange_slo (a x y s p m : Int) (hu : Ok ⟨a, x, y, s, p⟩) (hm : 0 ≤ m ∧ m < 256) (w : World) :
    Calls Try.prog 19 #[rv a x y s p, .string { data := #[83, 76, 79] }, .int .i64 m] w fun e w' => e = .returned (.tuple #[rr (oraU (sgU (flU ⟨a, x, y, s, p⟩ 1 (m / 128 == 1)) (2 * m % 256)) (2 * m % 256)), .int .i64 (2 * m % 256)]) ∧ Ext w w' := by
  obtain ⟨⟨ha, ha2⟩, ⟨hx, hx2⟩, ⟨hy, hy2⟩, ⟨hs, hs2⟩, ⟨hp, hp2⟩⟩ := hu
  obtain ⟨hm, hm2⟩ := hm
  simp only at ha ha2 hx hx2 hy hy2 hs hs2 hp hp2
  have FH : ∀ w, Calls Try.prog 33 #[.int .i64 p, .int .i64 1] w fun e w' => e = .returned (.int .i64 (p % 2)) ∧ w' = w := fun w => by
    have := rhas_any p 1 hp hp2 (by decide) (by decide) w
    rwa [Int.ediv_one] at this
  have hn : 0 ≤ 2 * m % 256 ∧ 2 * m % 256 < 256 := by omega
  obtain ⟨F, hF⟩ : ∃ F, F = flU ⟨a, x, y, s, p⟩ 1 (m / 128 == 1) := ⟨_, rfl⟩
  have hFp : 0 ≤ F.p ∧ F.p < 256 := by rw [hF]; exact flU_u8 _ _ _
  have FS : ∀ w, Calls Try.prog 32 #[.agg #[.int .i64 a, .int .i64 x, .int .i64 y, .int .i64 s, .int .i64 p], .int .i64 1, .int .i64 (m / 128)] w fun e w' => e = .returned (.agg #[.int .i64 F.a, .int .i64 F.x, .int .i64 F.y, .int .i64 F.s, .int .i64 F.p]) ∧ Ext w w' := by
    subst hF; exact fun w => rset_any a x y s p 1 (m / 128) hp hp2 rfl (by omega) (by omega) w
  obtain ⟨G, hG⟩ : ∃ G, G = sgU F (2 * m % 256) := ⟨_, rfl⟩
  have FG : ∀ w, Calls Try.prog 31 #[.agg #[.int .i64 F.a, .int .i64 F.x, .int .i64 F.y, .int .i64 F.s, .int .i64 F.p], .int .i64 (2 * m % 256)] w fun e w' => e = .returned (.agg #[.int .i64 G.a, .int .i64 G.x, .int .i64 G.y, .int .i64 G.s, .int .i64 G.p]) ∧ Ext w w' := by
    subst hG; exact fun w => rsign_any F.a F.x F.y F.s F.p (2 * m % 256) hFp.1 hFp.2 hn.1 hn.2 w
  have hO : Ok G := by
    rw [hG, hF]; exact ⟨⟨ha, ha2⟩, ⟨hx, hx2⟩, ⟨hy, hy2⟩, ⟨hs, hs2⟩, sgU_u8 _ _⟩
  obtain ⟨T, hT⟩ : ∃ T, T = oraU G (2 * m % 256) := ⟨_, rfl⟩
  have FR : ∀ w, Calls Try.prog 16 #[.agg #[.int .i64 G.a, .int .i64 G.x, .int .i64 G.y, .int .i64 G.s, .int .i64 G.p], .string { data := #[79, 82, 65] }, .int .i64 (2 * m % 256)] w fun e w' => e = .returned (.agg #[.int .i64 T.a, .int .i64 T.x, .int .i64 T.y, .int .i64 T.s, .int .i64 T.p]) ∧ Ext w w' := by
    subst hT; exact fun w => rread_ora G.a G.x G.y G.s G.p (2 * m % 256) _ hO hn (bits_u8 .or _ _).1 (bits_u8 .or _ _).2 (or64 G.a (2 * m % 256) hO.1 hn) w
  have HV : Hid (rr (oraU (sgU (flU ⟨a, x, y, s, p⟩ 1 (m / 128 == 1)) (2 * m % 256)) (2 * m % 256)) = .agg #[.int .i64 T.a, .int .i64 T.x, .int .i64 T.y, .int .i64 T.s, .int .i64 T.p]) := by subst hT; subst hG; subst hF; exact rfl
  rw [HV.out]
  clear HV hT hO hG hF hFp
  have t1 : m.tdiv 128 = m / 128 := Int.tdiv_eq_ediv_of_nonneg hm
  have t2 : (2 * m).tmod 256 = 2 * m % 256 := Int.tmod_eq_emod_of_nonneg (by omega)
  have b1 : 0 ≤ p % 2 := by omega
  have b2 : p % 2 < 2 := by omega
  have b3 : 0 ≤ 2 * m % 256 := by omega
  have b4 : 2 * m % 256 < 256 := by omega
  have r1 := ext_cell
  have r2 := ext_frozen
  have r3 := ext_setCell
  have r4 := ext_lt
  have r5 := ext_drew
  have r6 := ext_ext
  unfold rv
  go_enter Try.func19, Try.ntmps19
  go_wp2_with (first | (go_at_call 33; refine (FH _).mono ?_; rintro e w' ⟨rfl, rfl⟩) | (go_at_call 32; refine (FS _).mono ?_; rintro e w' ⟨rfl, os, q, rfl⟩) | (go_at_call 31; refine (FG _).mono ?_; rintro e w' ⟨rfl, os, q, rfl⟩) | (go_at_call 16; refine (FR _).mono ?_; rintro e w' ⟨rfl, os, q, rfl⟩))
  all_goals
    refine bodyPost_ret (by simp [results, Try.results19, go_sem, *] <;> (repeat' (first | exact rfl | refine And.intro ?_ ?_))) rfl ⟨rfl, ?_⟩
    repeat (first | exact Ext.refl _ | refine Ext.alloc ?_ _ | refine Ext.ext ?_ _ _ | refine Ext.drew ?_ | refine Ext.drewN ?_ _)

set_option maxRecDepth 100000 in
set_option maxHeartbeats 2000000 in
theorem rchange_rla (a x y s p m : Int) (hu : Ok ⟨a, x, y, s, p⟩) (hm : 0 ≤ m ∧ m < 256) (w : World) :
    Calls Try.prog 19 #[rv a x y s p, .string { data := #[82, 76, 65] }, .int .i64 m] w fun e w' => e = .returned (.tuple #[rr (andU (sgU (flU ⟨a, x, y, s, p⟩ 1 (m / 128 == 1)) (2 * m % 256 + p % 2)) (2 * m % 256 + p % 2)), .int .i64 (2 * m % 256 + p % 2)]) ∧ Ext w w' := by
  obtain ⟨⟨ha, ha2⟩, ⟨hx, hx2⟩, ⟨hy, hy2⟩, ⟨hs, hs2⟩, ⟨hp, hp2⟩⟩ := hu
  obtain ⟨hm, hm2⟩ := hm
  simp only at ha ha2 hx hx2 hy hy2 hs hs2 hp hp2
  have FH : ∀ w, Calls Try.prog 33 #[.int .i64 p, .int .i64 1] w fun e w' => e = .returned (.int .i64 (p % 2)) ∧ w' = w := fun w => by
    have := rhas_any p 1 hp hp2 (by decide) (by decide) w
    rwa [Int.ediv_one] at this
  have hn : 0 ≤ 2 * m % 256 + p % 2 ∧ 2 * m % 256 + p % 2 < 256 := by omega
  obtain ⟨F, hF⟩ : ∃ F, F = flU ⟨a, x, y, s, p⟩ 1 (m / 128 == 1) := ⟨_, rfl⟩
  have hFp : 0 ≤ F.p ∧ F.p < 256 := by rw [hF]; exact flU_u8 _ _ _
  have FS : ∀ w, Calls Try.prog 32 #[.agg #[.int .i64 a, .int .i64 x, .int .i64 y, .int .i64 s, .int .i64 p], .int .i64 1, .int .i64 (m / 128)] w fun e w' => e = .returned (.agg #[.int .i64 F.a, .int .i64 F.x, .int .i64 F.y, .int .i64 F.s, .int .i64 F.p]) ∧ Ext w w' := by
    subst hF; exact fun w => rset_any a x y s p 1 (m / 128) hp hp2 rfl (by omega) (by omega) w
  obtain ⟨G, hG⟩ : ∃ G, G = sgU F (2 * m % 256 + p % 2) := ⟨_, rfl⟩
  have FG : ∀ w, Calls Try.prog 31 #[.agg #[.int .i64 F.a, .int .i64 F.x, .int .i64 F.y, .int .i64 F.s, .int .i64 F.p], .int .i64 (2 * m % 256 + p % 2)] w fun e w' => e = .returned (.agg #[.int .i64 G.a, .int .i64 G.x, .int .i64 G.y, .int .i64 G.s, .int .i64 G.p]) ∧ Ext w w' := by
    subst hG; exact fun w => rsign_any F.a F.x F.y F.s F.p (2 * m % 256 + p % 2) hFp.1 hFp.2 hn.1 hn.2 w
  have hO : Ok G := by
    rw [hG, hF]; exact ⟨⟨ha, ha2⟩, ⟨hx, hx2⟩, ⟨hy, hy2⟩, ⟨hs, hs2⟩, sgU_u8 _ _⟩
  obtain ⟨T, hT⟩ : ∃ T, T = andU G (2 * m % 256 + p % 2) := ⟨_, rfl⟩
  have FR : ∀ w, Calls Try.prog 16 #[.agg #[.int .i64 G.a, .int .i64 G.x, .int .i64 G.y, .int .i64 G.s, .int .i64 G.p], .string { data := #[65, 78, 68] }, .int .i64 (2 * m % 256 + p % 2)] w fun e w' => e = .returned (.agg #[.int .i64 T.a, .int .i64 T.x, .int .i64 T.y, .int .i64 T.s, .int .i64 T.p]) ∧ Ext w w' := by
    subst hT; exact fun w => rread_and G.a G.x G.y G.s G.p (2 * m % 256 + p % 2) _ hO hn (bits_u8 .and _ _).1 (bits_u8 .and _ _).2 (and64 G.a (2 * m % 256 + p % 2) hO.1 hn) w
  have HV : Hid (rr (andU (sgU (flU ⟨a, x, y, s, p⟩ 1 (m / 128 == 1)) (2 * m % 256 + p % 2)) (2 * m % 256 + p % 2)) = .agg #[.int .i64 T.a, .int .i64 T.x, .int .i64 T.y, .int .i64 T.s, .int .i64 T.p]) := by subst hT; subst hG; subst hF; exact rfl
  rw [HV.out]
  clear HV hT hO hG hF hFp
  have t1 : m.tdiv 128 = m / 128 := Int.tdiv_eq_ediv_of_nonneg hm
  have t2 : (2 * m).tmod 256 = 2 * m % 256 := Int.tmod_eq_emod_of_nonneg (by omega)
  have b1 : 0 ≤ p % 2 := by omega
  have b2 : p % 2 < 2 := by omega
  have b3 : 0 ≤ 2 * m % 256 := by omega
  have b4 : 2 * m % 256 < 256 := by omega
  have r1 := ext_cell
  have r2 := ext_frozen
  have r3 := ext_setCell
  have r4 := ext_lt
  have r5 := ext_drew
  have r6 := ext_ext
  unfold rv
  go_enter Try.func19, Try.ntmps19
  go_wp2_with (first | (go_at_call 33; refine (FH _).mono ?_; rintro e w' ⟨rfl, rfl⟩) | (go_at_call 32; refine (FS _).mono ?_; rintro e w' ⟨rfl, os, q, rfl⟩) | (go_at_call 31; refine (FG _).mono ?_; rintro e w' ⟨rfl, os, q, rfl⟩) | (go_at_call 16; refine (FR _).mono ?_; rintro e w' ⟨rfl, os, q, rfl⟩))
  all_goals
    refine bodyPost_ret (by simp [results, Try.results19, go_sem, *] <;> (repeat' (first | exact rfl | refine And.intro ?_ ?_))) rfl ⟨rfl, ?_⟩
    repeat (first | exact Ext.refl _ | refine Ext.alloc ?_ _ | refine Ext.ext ?_ _ _ | refine Ext.drew ?_ | refine Ext.drewN ?_ _)

set_option maxRecDepth 100000 in
set_option maxHeartbeats 2000000 in
theorem rchange_sre (a x y s p m : Int) (hu : Ok ⟨a, x, y, s, p⟩) (hm : 0 ≤ m ∧ m < 256) (w : World) :
    Calls Try.prog 19 #[rv a x y s p, .string { data := #[83, 82, 69] }, .int .i64 m] w fun e w' => e = .returned (.tuple #[rr (eorU (sgU (flU ⟨a, x, y, s, p⟩ 1 (m % 2 == 1)) (m / 2)) (m / 2)), .int .i64 (m / 2)]) ∧ Ext w w' := by
  obtain ⟨⟨ha, ha2⟩, ⟨hx, hx2⟩, ⟨hy, hy2⟩, ⟨hs, hs2⟩, ⟨hp, hp2⟩⟩ := hu
  obtain ⟨hm, hm2⟩ := hm
  simp only at ha ha2 hx hx2 hy hy2 hs hs2 hp hp2
  have FH : ∀ w, Calls Try.prog 33 #[.int .i64 p, .int .i64 1] w fun e w' => e = .returned (.int .i64 (p % 2)) ∧ w' = w := fun w => by
    have := rhas_any p 1 hp hp2 (by decide) (by decide) w
    rwa [Int.ediv_one] at this
  have hn : 0 ≤ m / 2 ∧ m / 2 < 256 := by omega
  obtain ⟨F, hF⟩ : ∃ F, F = flU ⟨a, x, y, s, p⟩ 1 (m % 2 == 1) := ⟨_, rfl⟩
  have hFp : 0 ≤ F.p ∧ F.p < 256 := by rw [hF]; exact flU_u8 _ _ _
  have FS : ∀ w, Calls Try.prog 32 #[.agg #[.int .i64 a, .int .i64 x, .int .i64 y, .int .i64 s, .int .i64 p], .int .i64 1, .int .i64 (m % 2)] w fun e w' => e = .returned (.agg #[.int .i64 F.a, .int .i64 F.x, .int .i64 F.y, .int .i64 F.s, .int .i64 F.p]) ∧ Ext w w' := by
    subst hF; exact fun w => rset_any a x y s p 1 (m % 2) hp hp2 rfl (by omega) (by omega) w
  obtain ⟨G, hG⟩ : ∃ G, G = sgU F (m / 2) := ⟨_, rfl⟩
  have FG : ∀ w, Calls Try.prog 31 #[.agg #[.int .i64 F.a, .int .i64 F.x, .int .i64 F.y, .int .i64 F.s, .int .i64 F.p], .int .i64 (m / 2)] w fun e w' => e = .returned (.agg #[.int .i64 G.a, .int .i64 G.x, .int .i64 G.y, .int .i64 G.s, .int .i64 G.p]) ∧ Ext w w' := by
    subst hG; exact fun w => rsign_any F.a F.x F.y F.s F.p (m / 2) hFp.1 hFp.2 hn.1 hn.2 w
  have hO : Ok G := by
    rw [hG, hF]; exact ⟨⟨ha, ha2⟩, ⟨hx, hx2⟩, ⟨hy, hy2⟩, ⟨hs, hs2⟩, sgU_u8 _ _⟩
  obtain ⟨T, hT⟩ : ∃ T, T = eorU G (m / 2) := ⟨_, rfl⟩
  have FR : ∀ w, Calls Try.prog 16 #[.agg #[.int .i64 G.a, .int .i64 G.x, .int .i64 G.y, .int .i64 G.s, .int .i64 G.p], .string { data := #[69, 79, 82] }, .int .i64 (m / 2)] w fun e w' => e = .returned (.agg #[.int .i64 T.a, .int .i64 T.x, .int .i64 T.y, .int .i64 T.s, .int .i64 T.p]) ∧ Ext w w' := by
    subst hT; exact fun w => rread_eor G.a G.x G.y G.s G.p (m / 2) _ hO hn (bits_u8 .xor _ _).1 (bits_u8 .xor _ _).2 (xor64 G.a (m / 2) hO.1 hn) w
  have HV : Hid (rr (eorU (sgU (flU ⟨a, x, y, s, p⟩ 1 (m % 2 == 1)) (m / 2)) (m / 2)) = .agg #[.int .i64 T.a, .int .i64 T.x, .int .i64 T.y, .int .i64 T.s, .int .i64 T.p]) := by subst hT; subst hG; subst hF; exact rfl
  rw [HV.out]
  clear HV hT hO hG hF hFp
  have t1 : m.tmod 2 = m % 2 := Int.tmod_eq_emod_of_nonneg hm
  have t2 : m.tdiv 2 = m / 2 := Int.tdiv_eq_ediv_of_nonneg hm
  have b1 : 0 ≤ p % 2 := by omega
  have b2 : p % 2 < 2 := by omega
  have b3 : 0 ≤ m / 2 := by omega
  have b4 : m / 2 < 256 := by omega
  have r1 := ext_cell
  have r2 := ext_frozen
  have r3 := ext_setCell
  have r4 := ext_lt
  have r5 := ext_drew
  have r6 := ext_ext
  unfold rv
  go_enter Try.func19, Try.ntmps19
  go_wp2_with (first | (go_at_call 33; refine (FH _).mono ?_; rintro e w' ⟨rfl, rfl⟩) | (go_at_call 32; refine (FS _).mono ?_; rintro e w' ⟨rfl, os, q, rfl⟩) | (go_at_call 31; refine (FG _).mono ?_; rintro e w' ⟨rfl, os, q, rfl⟩) | (go_at_call 16; refine (FR _).mono ?_; rintro e w' ⟨rfl, os, q, rfl⟩))
  all_goals
    refine bodyPost_ret (by simp [results, Try.results19, go_sem, *] <;> (repeat' (first | exact rfl | refine And.intro ?_ ?_))) rfl ⟨rfl, ?_⟩
    repeat (first | exact Ext.refl _ | refine Ext.alloc ?_ _ | refine Ext.ext ?_ _ _ | refine Ext.drew ?_ | refine Ext.drewN ?_ _)

set_option maxRecDepth 100000 in
set_option maxHeartbeats 2000000 in
theorem rchange_rra (a x y s p m : Int) (hu : Ok ⟨a, x, y, s, p⟩) (hm : 0 ≤ m ∧ m < 256) (w : World) :
    Calls Try.prog 19 #[rv a x y s p, .string { data := #[82, 82, 65] }, .int .i64 m] w fun e w' => e = .returned (.tuple #[rr (adcU (sgU (flU ⟨a, x, y, s, p⟩ 1 (m % 2 == 1)) (m / 2 + 128 * (p % 2))) (m / 2 + 128 * (p % 2))), .int .i64 (m / 2 + 128 * (p % 2))]) ∧ Ext w w' := by
  obtain ⟨⟨ha, ha2⟩, ⟨hx, hx2⟩, ⟨hy, hy2⟩, ⟨hs, hs2⟩, ⟨hp, hp2⟩⟩ := hu
  obtain ⟨hm, hm2⟩ := hm
  simp only at ha ha2 hx hx2 hy hy2 hs hs2 hp hp2
  have FH : ∀ w, Calls Try.prog 33 #[.int .i64 p, .int .i64 1] w fun e w' => e = .returned (.int .i64 (p % 2)) ∧ w' = w := fun w => by
    have := rhas_any p 1 hp hp2 (by decide) (by decide) w
    rwa [Int.ediv_one] at this
  have hn : 0 ≤ m / 2 + 128 * (p % 2) ∧ m / 2 + 128 * (p % 2) < 256 := by omega
  obtain ⟨F, hF⟩ : ∃ F, F = flU ⟨a, x, y, s, p⟩ 1 (m % 2 == 1) := ⟨_, rfl⟩
  have hFp : 0 ≤ F.p ∧ F.p < 256 := by rw [hF]; exact flU_u8 _ _ _
  have FS : ∀ w, Calls Try.prog 32 #[.agg #[.int .i64 a, .int .i64 x, .int .i64 y, .int .i64 s, .int .i64 p], .int .i64 1, .int .i64 (m % 2)] w fun e w' => e = .returned (.agg #[.int .i64 F.a, .int .i64 F.x, .int .i64 F.y, .int .i64 F.s, .int .i64 F.p]) ∧ Ext w w' := by
    subst hF; exact fun w => rset_any a x y s p 1 (m % 2) hp hp2 rfl (by omega) (by omega) w
  obtain ⟨G, hG⟩ : ∃ G, G = sgU F (m / 2 + 128 * (p % 2)) := ⟨_, rfl⟩
  have FG : ∀ w, Calls Try.prog 31 #[.agg #[.int .i64 F.a, .int .i64 F.x, .int .i64 F.y, .int .i64 F.s, .int .i64 F.p], .int .i64 (m / 2 + 128 * (p % 2))] w fun e w' => e = .returned (.agg #[.int .i64 G.a, .int .i64 G.x, .int .i64 G.y, .int .i64 G.s, .int .i64 G.p]) ∧ Ext w w' := by
    subst hG; exact fun w => rsign_any F.a F.x F.y F.s F.p (m / 2 + 128 * (p % 2)) hFp.1 hFp.2 hn.1 hn.2 w
  have hO : Ok G := by
    rw [hG, hF]; exact ⟨⟨ha, ha2⟩, ⟨hx, hx2⟩, ⟨hy, hy2⟩, ⟨hs, hs2⟩, sgU_u8 _ _⟩
  obtain ⟨T, hT⟩ : ∃ T, T = adcU G (m / 2 + 128 * (p % 2)) := ⟨_, rfl⟩
  have FR : ∀ w, Calls Try.prog 16 #[.agg #[.int .i64 G.a, .int .i64 G.x, .int .i64 G.y, .int .i64 G.s, .int .i64 G.p], .string { data := #[65, 68, 67] }, .int .i64 (m / 2 + 128 * (p % 2))] w fun e w' => e = .returned (.agg #[.int .i64 T.a, .int .i64 T.x, .int .i64 T.y, .int .i64 T.s, .int .i64 T.p]) ∧ Ext w w' := by
    subst hT; exact fun w => rread_adc G.a G.x G.y G.s G.p (m / 2 + 128 * (p % 2)) hO hn w
  have HV : Hid (rr (adcU (sgU (flU ⟨a, x, y, s, p⟩ 1 (m % 2 == 1)) (m / 2 + 128 * (p % 2))) (m / 2 + 128 * (p % 2))) = .agg #[.int .i64 T.a, .int .i64 T.x, .int .i64 T.y, .int .i64 T.s, .int .i64 T.p]) := by subst hT; subst hG; subst hF; exact rfl
  rw [HV.out]
  clear HV hT hO hG hF hFp
  have t1 : m.tmod 2 = m % 2 := Int.tmod_eq_emod_of_nonneg hm
  have t2 : m.tdiv 2 = m / 2 := Int.tdiv_eq_ediv_of_nonneg hm
  have b1 : 0 ≤ p % 2 := by omega
  have b2 : p % 2 < 2 := by omega
  have b3 : 0 ≤ m / 2 := by omega
  have b4 : m / 2 < 256 := by omega
  have r1 := ext_cell
  have r2 := ext_frozen
  have r3 := ext_setCell
  have r4 := ext_lt
  have r5 := ext_drew
  have r6 := ext_ext
  unfold rv
  go_enter Try.func19, Try.ntmps19
  go_wp2_with (first | (go_at_call 33; refine (FH _).mono ?_; rintro e w' ⟨rfl, rfl⟩) | (go_at_call 32; refine (FS _).mono ?_; rintro e w' ⟨rfl, os, q, rfl⟩) | (go_at_call 31; refine (FG _).mono ?_; rintro e w' ⟨rfl, os, q, rfl⟩) | (go_at_call 16; refine (FR _).mono ?_; rintro e w' ⟨rfl, os, q, rfl⟩))
  all_goals
    refine bodyPost_ret (by simp [results, Try.results19, go_sem, *] <;> (repeat' (first | exact rfl | refine And.intro ?_ ?_))) rfl ⟨rfl, ?_⟩
    repeat (first | exact Ext.refl _ | refine Ext.alloc ?_ _ | refine Ext.ext ?_ _ _ | refine Ext.drew ?_ | refine Ext.drewN ?_ _)

set_option maxRecDepth 100000 in
set_option maxHeartbeats 2000000 in
theorem rchange_dcp (a x y s p m : Int) (hu : Ok ⟨a, x, y, s, p⟩) (hm : 0 ≤ m ∧ m < 256) (w : World) :
    Calls Try.prog 19 #[rv a x y s p, .string { data := #[68, 67, 80] }, .int .i64 m] w fun e w' => e = .returned (.tuple #[rr (cmpU (sgU (⟨a, x, y, s, p⟩) ((m + 255) % 256)) (sgU (⟨a, x, y, s, p⟩) ((m + 255) % 256)).a ((m + 255) % 256)), .int .i64 ((m + 255) % 256)]) ∧ Ext w w' := by
  obtain ⟨⟨ha, ha2⟩, ⟨hx, hx2⟩, ⟨hy, hy2⟩, ⟨hs, hs2⟩, ⟨hp, hp2⟩⟩ := hu
  obtain ⟨hm, hm2⟩ := hm
  simp only at ha ha2 hx hx2 hy hy2 hs hs2 hp hp2
  have FH : ∀ w, Calls Try.prog 33 #[.int .i64 p, .int .i64 1] w fun e w' => e = .returned (.int .i64 (p % 2)) ∧ w' = w := fun w => by
    have := rhas_any p 1 hp hp2 (by decide) (by decide) w
    rwa [Int.ediv_one] at this
  have hn : 0 ≤ (m + 255) % 256 ∧ (m + 255) % 256 < 256 := by omega
  obtain ⟨G, hG⟩ : ∃ G, G = sgU ⟨a, x, y, s, p⟩ ((m + 255) % 256) := ⟨_, rfl⟩
  have FG : ∀ w, Calls Try.prog 31 #[.agg #[.int .i64 a, .int .i64 x, .int .i64 y, .int .i64 s, .int .i64 p], .int .i64 ((m + 255) % 256)] w fun e w' => e = .returned (.agg #[.int .i64 G.a, .int .i64 G.x, .int .i64 G.y, .int .i64 G.s, .int .i64 G.p]) ∧ Ext w w' := by
    subst hG; exact fun w => rsign_any a x y s p ((m + 255) % 256) hp hp2 hn.1 hn.2 w
  have hO : Ok G := by
    rw [hG]; exact ⟨⟨ha, ha2⟩, ⟨hx, hx2⟩, ⟨hy, hy2⟩, ⟨hs, hs2⟩, sgU_u8 _ _⟩
  obtain ⟨T, hT⟩ : ∃ T, T = cmpU G G.a ((m + 255) % 256) := ⟨_, rfl⟩
  have FR : ∀ w, Calls Try.prog 16 #[.agg #[.int .i64 G.a, .int .i64 G.x, .int .i64 G.y, .int .i64 G.s, .int .i64 G.p], .string { data := #[67, 77, 80] }, .int .i64 ((m + 255) % 256)] w fun e w' => e = .returned (.agg #[.int .i64 T.a, .int .i64 T.x, .int .i64 T.y, .int .i64 T.s, .int .i64 T.p]) ∧ Ext w w' := by
    subst hT; exact fun w => rread_cmp G.a G.x G.y G.s G.p ((m + 255) % 256) hO hn w
  have HV : Hid (rr (cmpU (sgU (⟨a, x, y, s, p⟩) ((m + 255) % 256)) (sgU (⟨a, x, y, s, p⟩) ((m + 255) % 256)).a ((m + 255) % 256)) = .agg #[.int .i64 T.a, .int .i64 T.x, .int .i64 T.y, .int .i64 T.s, .int .i64 T.p]) := by subst hT; subst hG; exact rfl
  rw [HV.out]
  clear HV hT hO hG
  have t2 : (m + 255).tmod 256 = (m + 255) % 256 := Int.tmod_eq_emod_of_nonneg (by omega)
  have b1 : 0 ≤ p % 2 := by omega
  have b2 : p % 2 < 2 := by omega
  have r1 := ext_cell
  have r2 := ext_frozen
  have r3 := ext_setCell
  have r4 := ext_lt
  have r5 := ext_drew
  have r6 := ext_ext
  unfold rv
  go_enter Try.func19, Try.ntmps19
  go_wp2_with (first | (go_at_call 33; refine (FH _).mono ?_; rintro e w' ⟨rfl, rfl⟩) | (go_at_call 31; refine (FG _).mono ?_; rintro e w' ⟨rfl, os, q, rfl⟩) | (go_at_call 16; refine (FR _).mono ?_; rintro e w' ⟨rfl, os, q, rfl⟩))
  all_goals
    refine bodyPost_ret (by simp [results, Try.results19, go_sem, *] <;> (repeat' (first | exact rfl | refine And.intro ?_ ?_))) rfl ⟨rfl, ?_⟩
    repeat (first | exact Ext.refl _ | refine Ext.alloc ?_ _ | refine Ext.ext ?_ _ _ | refine Ext.drew ?_ | refine Ext.drewN ?_ _)

set_option maxRecDepth 100000 in
set_option maxHeartbeats 2000000 in
theorem rchange_isc (a x y s p m : Int) (hu : Ok ⟨a, x, y, s, p⟩) (hm : 0 ≤ m ∧ m < 256) (w : World) :
    Calls Try.prog 19 #[rv a x y s p, .string { data := #[73, 83, 67] }, .int .i64 m] w fun e w' => e = .returned (.tuple #[rr (adcU (sgU (⟨a, x, y, s, p⟩) ((m + 1) % 256)) (255 - ((m + 1) % 256))), .int .i64 ((m + 1) % 256)]) ∧ Ext w w' := by
  obtain ⟨⟨ha, ha2⟩, ⟨hx, hx2⟩, ⟨hy, hy2⟩, ⟨hs, hs2⟩, ⟨hp, hp2⟩⟩ := hu
  obtain ⟨hm, hm2⟩ := hm
  simp only at ha ha2 hx hx2 hy hy2 hs hs2 hp hp2
  have FH : ∀ w, Calls Try.prog 33 #[.int .i64 p, .int .i64 1] w fun e w' => e = .returned (.int .i64 (p % 2)) ∧ w' = w := fun w => by
    have := rhas_any p 1 hp hp2 (by decide) (by decide) w
    rwa [Int.ediv_one] at this
  have hn : 0 ≤ (m + 1) % 256 ∧ (m + 1) % 256 < 256 := by omega
  obtain ⟨G, hG⟩ : ∃ G, G = sgU ⟨a, x, y, s, p⟩ ((m + 1) % 256) := ⟨_, rfl⟩
  have FG : ∀ w, Calls Try.prog 31 #[.agg #[.int .i64 a, .int .i64 x, .int .i64 y, .int .i64 s, .int .i64 p], .int .i64 ((m + 1) % 256)] w fun e w' => e = .returned (.agg #[.int .i64 G.a, .int .i64 G.x, .int .i64 G.y, .int .i64 G.s, .int .i64 G.p]) ∧ Ext w w' := by
    subst hG; exact fun w => rsign_any a x y s p ((m + 1) % 256) hp hp2 hn.1 hn.2 w
  have hO : Ok G := by
    rw [hG]; exact ⟨⟨ha, ha2⟩, ⟨hx, hx2⟩, ⟨hy, hy2⟩, ⟨hs, hs2⟩, sgU_u8 _ _⟩
  obtain ⟨T, hT⟩ : ∃ T, T = adcU G (255 - ((m + 1) % 256)) := ⟨_, rfl⟩
  have FR : ∀ w, Calls Try.prog 16 #[.agg #[.int .i64 G.a, .int .i64 G.x, .int .i64 G.y, .int .i64 G.s, .int .i64 G.p], .string { data := #[83, 66, 67] }, .int .i64 ((m + 1) % 256)] w fun e w' => e = .returned (.agg #[.int .i64 T.a, .int .i64 T.x, .int .i64 T.y, .int .i64 T.s, .int .i64 T.p]) ∧ Ext w w' := by
    subst hT; exact fun w => rread_sbc G.a G.x G.y G.s G.p ((m + 1) % 256) hO hn w
  have HV : Hid (rr (adcU (sgU (⟨a, x, y, s, p⟩) ((m + 1) % 256)) (255 - ((m + 1) % 256))) = .agg #[.int .i64 T.a, .int .i64 T.x, .int .i64 T.y, .int .i64 T.s, .int .i64 T.p]) := by subst hT; subst hG; exact rfl
  rw [HV.out]
  clear HV hT hO hG
  have t2 : (m + 1).tmod 256 = (m + 1) % 256 := Int.tmod_eq_emod_of_nonneg (by omega)
  have b1 : 0 ≤ p % 2 := by omega
  have b2 : p % 2 < 2 := by omega
  have r1 := ext_cell
  have r2 := ext_frozen
  have r3 := ext_setCell
  have r4 := ext_lt
  have r5 := ext_drew
  have r6 := ext_ext
  unfold rv
  go_enter Try.func19, Try.ntmps19
  go_wp2_with (first | (go_at_call 33; refine (FH _).mono ?_; rintro e w' ⟨rfl, rfl⟩) | (go_at_call 31; refine (FG _).mono ?_; rintro e w' ⟨rfl, os, q, rfl⟩) | (go_at_call 16; refine (FR _).mono ?_; rintro e w' ⟨rfl, os, q, rfl⟩))
  all_goals
    refine bodyPost_ret (by simp [results, Try.results19, go_sem, *] <;> (repeat' (first | exact rfl | refine And.intro ?_ ?_))) rfl ⟨rfl, ?_⟩
    repeat (first | exact Ext.refl _ | refine Ext.alloc ?_ _ | refine Ext.ext ?_ _ _ | refine Ext.drew ?_ | refine Ext.drewN ?_ _)

end Go.Proofs.Ytigpmmjbdpnkjaa
