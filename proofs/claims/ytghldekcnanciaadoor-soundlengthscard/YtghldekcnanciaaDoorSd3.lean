/- A sound unit in memory and its methods. No law is claimed here. -/
import Derived.Test.YtghldekcnanciaaDoorSd2
import Derived.StillTailTactics
namespace Go.Proofs.YtghldekcnanciaaDoor
open Go.RowKit

set_option maxRecDepth 100000 in
set_option maxHeartbeats 1000000 in
theorem sdens_any (w : World) (n : Nat) (p : Nat → Nat) (s : SS) (on : Bool) (h : n < w.heap.size) (b2 : 0 ≤ s.r2 ∧ s.r2 < 256) (b3 : 0 ≤ s.r3 ∧ s.r3 < 256) (b4 : 0 ≤ s.rem) :
    Calls Tryd.prog 62 #[.pointer (some ⟨n, 4, none⟩), .bool on] (stS w n p s) fun e w' => e = .returned (.tuple #[]) ∧ w' = stS w n p (ensS s on) := by
  have cs := stS_cs w n p s h
  have c1 := cs.rem
  have c2 := cs.req
  have fz := cs.fz
  clear cs
  have FB := sdbegin_any w n p { s with req := false } h b2 b3
  generalize hv : stS w n p s = v at *
  have hc : ((s.rem == 0) = true ∧ s.rem ≤ 0) ∨ ((s.rem == 0) = false ∧ 0 < s.rem) := by
    rcases (by omega : s.rem = 0 ∨ 0 < s.rem) with e | e
    · exact .inl ⟨by rw [beq_iff_eq]; exact e, by omega⟩
    · exact .inr ⟨by rw [beq_eq_false_iff_ne]; omega, e⟩
  rcases hc with ⟨h0, h1⟩ | ⟨h0, h1⟩ <;> cases on
  all_goals
    go_enter Tryd.func62, Tryd.ntmps62
    go_wp2_with (go_at_call 77; subst hv; (try simp only [ss_req]); refine FB.mono ?_; rintro e w' ⟨rfl, rfl⟩)
    (first | refine bodyPost_end (results_none rfl _ _ _) rfl ?_ | refine bodyPost_ret (results_none rfl _ _ _) rfl ?_)
    refine ⟨rfl, ?_⟩
    (try subst hv)
    (try simp only [ss_rem, ss_req])
    all_goals exact congrArg (stS w n p) (by unfold ensS; first | rfl | (rw [if_pos rfl, if_pos (by omega)]; done) | (rw [if_pos rfl, if_neg (by omega)]; done))

set_option maxRecDepth 100000 in
set_option maxHeartbeats 1000000 in
theorem sdgiv_any (w : World) (n : Nat) (p : Nat → Nat) (s : SS) (b : Int) (h : n < w.heap.size) (b0 : 0 ≤ s.r0 ∧ s.r0 < 256) (b2 : 0 ≤ s.r2 ∧ s.r2 < 256) (b3 : 0 ≤ s.r3 ∧ s.r3 < 256) (b4 : 0 < s.rem ∧ s.rem ≤ 4081) (_b5 : 0 ≤ s.adr ∧ s.adr < 65536) :
    Calls Tryd.prog 54 #[.pointer (some ⟨n, 4, none⟩), .int .u8 b] (stS w n p s) fun e w' => e = .returned (.tuple #[]) ∧ w' = stS w n p (givS s b) := by
  have cs := stS_cs w n p s h
  have c1 := cs.rem
  have c2 := cs.req
  have c3 := cs.buf
  have c4 := cs.full
  have c5 := cs.adr
  have c6 := cs.r0
  have fz := cs.fz
  clear cs
  have FB := sdbegin_any w n p (givA s b) h b2 b3
  have z1 : bits .or .u16 (IntKind.u16.wrap (s.adr + 1)) 32768 = orA (s.adr + 1) := by
    rw [wrap_u16_mod, or32768 _ (by omega)]
    rfl
  obtain ⟨A, hA⟩ : ∃ A, orA (s.adr + 1) = A := ⟨_, rfl⟩
  rw [hA] at z1
  unfold givA at FB
  rw [hA] at FB
  generalize hv : stS w n p s = v at *
  rcases (by omega : 0 < s.rem - 1 ∨ s.rem - 1 ≤ 0) with h1 | h1 <;> rcases b64 s.r0 b0 with ⟨h2, h3⟩ | ⟨h2, h3⟩ <;> rcases b128 s.r0 b0 with ⟨h4, h5⟩ | ⟨h4, h5⟩
  all_goals
    go_enter Tryd.func54, Tryd.ntmps54
    go_wp2_with (go_at_call 77; subst hv; (try simp only [ss_buf, ss_full, ss_adr, ss_rem]); refine FB.mono ?_; rintro e w' ⟨rfl, rfl⟩)
    (first | refine bodyPost_end (results_none rfl _ _ _) rfl ?_ | refine bodyPost_ret (results_none rfl _ _ _) rfl ?_)
    refine ⟨rfl, ?_⟩
    (try subst hv)
    (try simp only [ss_buf, ss_full, ss_adr, ss_rem, ss_req])
    all_goals
      unfold givS givA
      rw [hA]
      first
        | (rw [if_pos (by omega)]; done)
        | (rw [if_neg (by omega), if_pos h2]; done)
        | (rw [if_neg (by omega), if_neg (by omega), if_pos (by omega)]; done)
        | (rw [if_neg (by omega), if_neg (by omega), if_neg (by omega)]; done)

set_option maxRecDepth 100000 in
set_option maxHeartbeats 1000000 in
theorem sdsmp_any (w : World) (n : Nat) (p : Nat → Nat) (s : SS) (h : n < w.heap.size) (ok : SOk s) (hg : gr w) (hn : 0 < n) :
    Calls Tryd.prog 47 #[.pointer (some ⟨n, 4, none⟩)] (stS w n p s) fun e w' => e = .returned (.tuple #[]) ∧ w' = stS w n p (smpS s) := by
  have cs := stS_cs w n p s h
  have c1 := cs.tim
  have c2 := cs.r0
  have c3 := cs.sil
  have c4 := cs.bits
  have fz := cs.fz
  clear cs
  have b1 := ok.tim
  have b2 := ok.bits
  by_cases h1 : 0 < s.tim
  · rw [show smpS s = { s with tim := s.tim - 1 } from if_pos h1]
    generalize hv : stS w n p s = v at *
    go_enter Tryd.func47, Tryd.ntmps47
    go_wp2
    (first | refine bodyPost_end (results_none rfl _ _ _) rfl ?_ | refine bodyPost_ret (results_none rfl _ _ _) rfl ?_)
    refine ⟨rfl, ?_⟩
    subst hv
    (try simp only [ss_tim])
  · have h0 : s.tim ≤ 0 := by omega
    have hE : smpS s = bitS (if s.sil then { s with tim := at0 ratL (s.r0 % 16) - 1 } else plyS { s with tim := at0 ratL (s.r0 % 16) - 1 }) := if_neg h1
    rw [hE]
    clear hE h1
    have z1 := l15 s.r0 ok.r0
    obtain ⟨k, hk⟩ := nat_of (s.r0 % 16) (by omega)
    have k1 : k < 16 := by omega
    have k2 : (k : Int) < 16 := by omega
    have c5 : (stS w n p s).cell? ⟨0, k, none⟩ = some (.int .u16 (at0 ratL (s.r0 % 16))) := by
      have := hg.rat k k1
      unfold stS; rw [rowT_cellFar _ _ _ _ _ (by show 0 ≠ n; omega), this, hk]
    have bt := ratL_pos (s.r0 % 16) (by omega)
    generalize at0 ratL (s.r0 % 16) = t at *
    have y1 : IntKind.u16.wrap (t - 1) = t - 1 := by rw [wrap_u16_mod]; omega
    rcases Bool.eq_false_or_eq_true s.sil with hs | hs
    · rw [if_pos hs]
      have FR := sdref_any w n p { s with tim := t - 1, bits := s.bits - 1 } h
      generalize hv : stS w n p s = v at *
      rcases (by omega : s.bits - 1 ≤ 0 ∨ 0 < s.bits - 1) with h3 | h3
      all_goals
        first
          | (have h4 : (s.bits - 1 == 0) = true := by rw [beq_iff_eq]; omega)
          | (have h4 : (s.bits - 1 == 0) = false := by rw [beq_eq_false_iff_ne]; omega)
        go_enter Tryd.func47, Tryd.ntmps47
        go_wp2_with (go_at_call 73; subst hv; (try simp only [ss_tim, ss_bits]); refine FR.mono ?_; rintro e w' ⟨rfl, rfl⟩)
        (first | refine bodyPost_end (results_none rfl _ _ _) rfl ?_ | refine bodyPost_ret (results_none rfl _ _ _) rfl ?_)
        refine ⟨rfl, ?_⟩
        (try subst hv)
        (try simp only [ss_tim, ss_bits])
        all_goals exact congrArg (stS w n p) (by unfold bitS; dsimp only; first | rw [if_pos (by omega), hs] | rw [if_neg (by omega), hs] | (rw [if_pos (by omega)]; done) | (rw [if_neg (by omega)]; done))
    · rw [if_neg (by rw [hs]; decide)]
      have b3 := ok.lev
      have b4 := ok.shf
      have FP := sdply_any w n p { s with tim := t - 1 } h b3 b4
      have cs2 := stS_cs w n p (plyS { s with tim := t - 1 }) h
      have e4 := cs2.bits
      have ez := cs2.fz
      clear cs2
      have e4' : (stS w n p (plyS { s with tim := t - 1 })).cell? ⟨n, 13, none⟩ = some (.int .i64 s.bits) := e4
      clear e4
      obtain ⟨s2, hs2⟩ : ∃ s2, plyS { s with tim := t - 1 } = s2 := ⟨_, rfl⟩
      have hb2 : s2.bits = s.bits := by rw [← hs2]; rfl
      rw [hs2] at FP e4' ez ⊢
      clear hs2
      have FR := sdref_any w n p { s2 with bits := s.bits - 1 } h
      generalize hv2 : stS w n p s2 = v2 at *
      generalize hv : stS w n p s = v at *
      rcases (by omega : s.bits - 1 ≤ 0 ∨ 0 < s.bits - 1) with h3 | h3
      all_goals
        first
          | (have h4 : (s.bits - 1 == 0) = true := by rw [beq_iff_eq]; omega)
          | (have h4 : (s.bits - 1 == 0) = false := by rw [beq_eq_false_iff_ne]; omega)
        go_enter Tryd.func47, Tryd.ntmps47
        go_wp2_with (first
          | (go_at_call 72; subst hv; (try simp only [ss_tim]); refine FP.mono ?_; rintro e w' ⟨rfl, rfl⟩)
          | (go_at_call 73; subst hv2; (try simp only [ss_bits]); refine FR.mono ?_; rintro e w' ⟨rfl, rfl⟩))
        (first | refine bodyPost_end (results_none rfl _ _ _) rfl ?_ | refine bodyPost_ret (results_none rfl _ _ _) rfl ?_)
        refine ⟨rfl, ?_⟩
        (try subst hv2)
        (try simp only [ss_bits])
        all_goals exact congrArg (stS w n p) (by unfold bitS; rw [hb2]; first | (rw [if_pos (by omega)]; done) | (rw [if_neg (by omega)]; done))

set_option maxRecDepth 100000 in
set_option maxHeartbeats 2000000 in
theorem sdfrc_any (w : World) (n : Nat) (p : Nat → Nat) (s : SS) (h : n < w.heap.size) (b1 : 0 ≤ s.cnt ∧ s.cnt ≤ 37281) :
    Calls Tryd.prog 42 #[.pointer (some ⟨n, 18, none⟩)] (stS w n p s) fun e w' => e = .returned (.tuple #[.bool (quaB s), .bool (hlfB s)]) ∧ w' = stS w n p (frcS s) := by
  have cs := stS_cs w n p s h
  have c1 := cs.cnt
  have c2 := cs.sec
  have c3 := cs.inh
  have c4 := cs.frq
  have fz := cs.fz
  clear cs
  have FL := sdlast_any w n p { s with cnt := s.cnt + 1 } h
  rw [← ss_cnt] at FL
  obtain ⟨Q, hQ⟩ : ∃ Q, quaB s = Q := ⟨_, rfl⟩
  obtain ⟨H, hH⟩ : ∃ H, hlfB s = H := ⟨_, rfl⟩
  obtain ⟨S', hS⟩ : ∃ S', frcS s = S' := ⟨_, rfl⟩
  rw [hQ, hH, hS]
  unfold quaB hlfB at *
  unfold frcS at hS
  obtain ⟨C, hC⟩ : ∃ C, s.cnt + 1 = C := ⟨_, rfl⟩
  rw [hC] at hQ hS hH FL
  obtain ⟨L, hL⟩ : ∃ L, lastS s = L := ⟨_, rfl⟩
  have hL2 : lastS { s with cnt := C } = L := hL
  rw [hL2] at FL
  rw [hL] at hQ hS hH
  have bL : L = 29829 ∨ L = 37281 := by rw [← hL]; unfold lastS; split <;> simp
  have hsL : (s.sec = true ∧ L = 37281) ∨ (s.sec = false ∧ L = 29829) := by
    rw [← hL]; unfold lastS
    rcases Bool.eq_false_or_eq_true s.sec with e | e <;> simp [e]
  clear hL hL2
  generalize hv : stS w n p s = v at *
  rcases hsL with ⟨h1, rfl⟩ | ⟨h1, rfl⟩ <;> rcases Bool.eq_false_or_eq_true s.inh with h2 | h2
  all_goals
    rcases (by omega : C = 7457 ∨ C = 22371 ∨ C = 14913 ∨ C = 29829 ∨ C = 29830 ∨ C = 37281 ∨ C = 37282 ∨ (C ≠ 7457 ∧ C ≠ 22371 ∧ C ≠ 14913 ∧ C ≠ 29829 ∧ C ≠ 29830 ∧ C ≠ 37281 ∧ C ≠ 37282)) with rfl | rfl | rfl | rfl | rfl | rfl | rfl | ⟨e1, e2, e3, e4, e5, e6, e7⟩
    all_goals
      (try simp [e1, e2, e3, e4, e5, e6, e7, h1, h2] at hQ hH hS)
      (try simp [h1, h2] at hQ hH hS)
      (try have d1 : (C == 7457) = false := by rw [beq_eq_false_iff_ne]; exact e1)
      (try have d2 : (C == 22371) = false := by rw [beq_eq_false_iff_ne]; exact e2)
      (try have d3 : (C == 14913) = false := by rw [beq_eq_false_iff_ne]; exact e3)
      (try have d4 : (C == 29829) = false := by rw [beq_eq_false_iff_ne]; exact e4)
      (try have d5 : (C == 29830) = false := by rw [beq_eq_false_iff_ne]; exact e5)
      (try have d6 : (C == 37281) = false := by rw [beq_eq_false_iff_ne]; exact e6)
      (try have d7 : (C == 37282) = false := by rw [beq_eq_false_iff_ne]; exact e7)
      subst hQ hH hS
      go_enter Tryd.func42, Tryd.ntmps42
      go_wp2_with (go_at_call 66; refine FL.mono ?_; rintro e w' ⟨rfl, rfl⟩)
      go_ret2
      refine ⟨rfl, ?_⟩
      subst hv
      (try simp only [ss_cnt, ss_frq])
      all_goals simp only [h1, h2]

end Go.Proofs.YtghldekcnanciaaDoor
