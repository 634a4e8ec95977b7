/- Steps of the document's voice, told by the tone's own: Put. No law is claimed here. -/
import Derived.Test.YtgnafnjhbdefaaaDoorTr13
set_option linter.unusedSimpArgs false
set_option linter.unusedVariables false
namespace Go.Proofs.YtgnafnjhbdefaaaDoor
open Go.RowKit Go.Great

variable {w0 v : World} {m : Nat} {s s' : TS} {x : RT}

theorem rs_put (h : BW w0 m s' x.row x.cr (rwl s) v) (hR : Rl s x) (ok : TOk s) (r b : Int) (hr : 0 ≤ r) (hb0 : 0 ≤ b ∧ b < 256) : Calls Tryd.prog 19 #[rtv x, .int .i64 r, .int .i64 b] v fun e v' => After w0 m s' (putT s r b) v x e v' := by
  have op := ok.per
  have opu := ok.pulse
  have ok0 := ok.kind
  have bp : 0 ≤ x.per ∧ x.per < 4096 := by rw [hR.per]; exact op
  rcases (by omega : 3 < r ∨ r = 0 ∨ r = 1 ∨ r = 2 ∨ r = 3) with c | rfl | rfl | rfl | rfl
  · rw [show putT s r b = s by unfold putT; rw [if_neg (by omega), if_neg (by omega), if_neg (by omega), if_neg (by omega)]]
    refine (rput_x x r b v c).mono ?_
    rintro e v' ⟨rfl, hb⟩
    exact ⟨_, rfl, hR, h.past hb, hb, .inl rfl⟩
  · rw [show putT s 0 b = { s with ctl := b } from rfl]
    by_cases k3 : s.kind = 3
    · refine (rputn_0 x b v hb0 (by rw [hR.k]; exact k3) hR.r2 (by rw [hR.per]; exact (hR.n3 k3).2)).mono ?_
      rintro e v' ⟨rfl, hb⟩
      exact ⟨_, rfl, ⟨hR.k, hR.on, rfl, hR.r1, hR.r2, hR.n3, hR.len, hR.tim, hR.per, hR.stp, hR.stb, hR.anew2, hR.anew, hR.swept, hR.lev, hR.cnt, hR.lin, hR.swp, hR.nr⟩, h.past hb, hb, .inl rfl⟩
    · refine (rput_0 x b v hb0 (by rw [hR.k]; exact k3)).mono ?_
      rintro e v' ⟨rfl, hb⟩
      exact ⟨_, rfl, ⟨hR.k, hR.on, rfl, hR.r1, hR.r2, hR.n3, hR.len, hR.tim, hR.per, hR.stp, hR.stb, hR.anew2, hR.anew, hR.swept, hR.lev, hR.cnt, hR.lin, hR.swp, hR.nr⟩, h.past hb, hb, .inl rfl⟩
  · rw [show putT s 1 b = { s with sreg := b, swr := true } from rfl]
    by_cases k3 : s.kind = 3
    · refine (rputn_1 x b v hb0 (by rw [hR.k]; exact k3) hR.r2 (by rw [hR.per]; exact (hR.n3 k3).2)).mono ?_
      rintro e v' ⟨rfl, hb⟩
      exact ⟨_, rfl, ⟨hR.k, hR.on, hR.r0, rfl, hR.r2, hR.n3, hR.len, hR.tim, hR.per, hR.stp, hR.stb, hR.anew2, hR.anew, rfl, hR.lev, hR.cnt, hR.lin, hR.swp, hR.nr⟩, h.past hb, hb, .inl rfl⟩
    · refine (rput_1 x b v hb0 (by rw [hR.k]; exact k3)).mono ?_
      rintro e v' ⟨rfl, hb⟩
      exact ⟨_, rfl, ⟨hR.k, hR.on, hR.r0, rfl, hR.r2, hR.n3, hR.len, hR.tim, hR.per, hR.stp, hR.stb, hR.anew2, hR.anew, rfl, hR.lev, hR.cnt, hR.lin, hR.swp, hR.nr⟩, h.past hb, hb, .inl rfl⟩
  · rw [show putT s 2 b = put2 s b from rfl]
    by_cases k3 : s.kind = 3
    · rw [show put2 s b = { s with per := at0 noiL (b % 16) - 1, short := decide (128 ≤ b) } by unfold put2 putN; rw [if_pos k3]]
      refine (rputn_2 x b v hb0 (by rw [hR.k]; exact k3) hR.r2 (by rw [hR.per]; exact (hR.n3 k3).2)).mono ?_
      rintro e v' ⟨rfl, hb⟩
      exact ⟨_, rfl, ⟨hR.k, hR.on, hR.r0, hR.r1, hb0, fun _ => ⟨rfl, rfl⟩, hR.len, hR.tim, rfl, hR.stp, hR.stb, hR.anew2, hR.anew, hR.swept, hR.lev, hR.cnt, hR.lin, hR.swp, hR.nr⟩, h.past hb, hb, .inl rfl⟩
    · rw [show put2 s b = { s with per := s.per / 256 % 8 * 256 + b } by unfold put2; rw [if_neg k3]]
      refine (rput_2 x b v hb0 (by rw [hR.k]; exact k3) bp).mono ?_
      rintro e v' ⟨rfl, hb⟩
      have := opu k3
      exact ⟨_, rfl, ⟨hR.k, hR.on, hR.r0, hR.r1, hb0, fun k => absurd k k3, hR.len, hR.tim, by show x.per / 256 * 256 + b = s.per / 256 % 8 * 256 + b; rw [hR.per]; omega, hR.stp, hR.stb, hR.anew2, hR.anew, hR.swept, hR.lev, hR.cnt, hR.lin, hR.swp, hR.nr⟩, h.past hb, hb, .inl rfl⟩
  · rw [show putT s 3 b = put3 s b from rfl]
    by_cases k3 : s.kind = 3
    · have k2 : s.kind ≠ 2 := by omega
      rw [show put3 s b = { s with len := if s.en then at0 lenL (b / 8) else s.len, rst := true, stp := 0 } by unfold put3; rw [if_pos k3, if_neg k2, if_neg k2, if_neg k2]]
      refine (rputn_3 x b v hb0 (by rw [hR.k]; exact k3) hR.r2 (by rw [hR.per]; exact (hR.n3 k3).2)).mono ?_
      rintro e v' ⟨rfl, hb⟩
      refine ⟨_, rfl, ⟨hR.k, hR.on, hR.r0, hR.r1, hR.r2, hR.n3, ?_, hR.tim, hR.per, fun k => absurd k3 k, hR.stb, fun k => absurd k k2, fun _ => rfl, hR.swept, hR.lev, hR.cnt, hR.lin, hR.swp, hR.nr⟩, h.past hb, hb, .inl rfl⟩
      show ifB x.on (at0 lenL (b / 8)) x.len = _
      unfold ifB; rw [hR.on, hR.len]
    · refine (rput_3 x b v hb0 (by rw [hR.k]; omega) bp).mono ?_
      rintro e v' ⟨rfl, hb⟩
      have e1 : ifB x.on (at0 lenL (b / 8)) x.len = if s.en then at0 lenL (b / 8) else s.len := by unfold ifB; rw [hR.on, hR.len]
      have e2 : x.per % 256 + b % 8 * 256 = s.per % 256 + b % 8 * 256 := by rw [hR.per]
      have hs := hR.stp k3
      have hsb := hR.stb
      by_cases k2 : s.kind = 2
      · rw [show put3 s b = { s with len := if s.en then at0 lenL (b / 8) else s.len, per := s.per % 256 + b % 8 * 256, pend := true } by unfold put3; rw [if_neg k3, if_pos k2, if_pos k2, if_pos k2]]
        have e3 : ifB (decide (x.kind < 2)) 0 x.stp = x.stp := by unfold ifB; rw [hR.k]; simp; omega
        exact ⟨_, rfl, ⟨hR.k, hR.on, hR.r0, hR.r1, hR.r2, fun k => absurd k k3, e1, hR.tim, e2, fun _ => e3.trans hs, by show 0 ≤ ifB (decide (x.kind < 2)) 0 x.stp ∧ ifB (decide (x.kind < 2)) 0 x.stp < 32; rw [e3]; exact hsb, fun _ => rfl, fun k => absurd k2 k, hR.swept, hR.lev, hR.cnt, hR.lin, hR.swp, hR.nr⟩, h.past hb, hb, .inl rfl⟩
      · rw [show put3 s b = { s with len := if s.en then at0 lenL (b / 8) else s.len, per := s.per % 256 + b % 8 * 256, rst := true, stp := 0 } by unfold put3; rw [if_neg k3, if_neg k2, if_neg k2, if_neg k2]]
        have e3 : ifB (decide (x.kind < 2)) 0 x.stp = 0 := by unfold ifB; rw [hR.k]; simp; omega
        exact ⟨_, rfl, ⟨hR.k, hR.on, hR.r0, hR.r1, hR.r2, fun k => absurd k k3, e1, hR.tim, e2, fun _ => e3, by show 0 ≤ ifB (decide (x.kind < 2)) 0 x.stp ∧ ifB (decide (x.kind < 2)) 0 x.stp < 32; rw [e3]; decide, fun k => absurd k k2, fun _ => rfl, hR.swept, hR.lev, hR.cnt, hR.lin, hR.swp, hR.nr⟩, h.past hb, hb, .inl rfl⟩

end Go.Proofs.YtgnafnjhbdefaaaDoor
