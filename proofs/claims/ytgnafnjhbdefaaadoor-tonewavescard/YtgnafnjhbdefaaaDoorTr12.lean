/- Steps of the document's voice, told by the tone's own: Quarter, Half. No law is claimed here. -/
import Derived.Test.YtgnafnjhbdefaaaDoorTr11
import Derived.Test.YtgnafnjhbdefaaaDoorTr5
import Derived.Test.YtgnafnjhbdefaaaDoorTr5e
import Derived.Test.YtgnafnjhbdefaaaDoorTr5d
import Derived.Test.YtgnafnjhbdefaaaDoorTr7
set_option linter.unusedSimpArgs false
set_option linter.unusedVariables false
namespace Go.Proofs.YtgnafnjhbdefaaaDoor
open Go.RowKit Go.Great

variable {w0 v : World} {m : Nat} {s s' : TS} {x : RT}

theorem rs_qua (h : BW w0 m s' x.row x.cr (rwl s) v) (hR : Rl s x) (ok : TOk s) : Calls Tryd.prog 21 #[rtv x] v fun e v' => After w0 m s' (quaT s) v x e v' := by
  have oc := ok.ctl
  have oi := ok.lin
  have od := ok.div
  have ol := ok.lev
  by_cases k2 : s.kind = 2
  · rw [show quaT s = linT s from if_pos k2]
    refine (rqua_2 x v (by rw [hR.k]; exact k2) (by rw [hR.r0]; exact oc) (by rw [hR.lin]; exact oi)).mono ?_
    rintro e v' ⟨rfl, hb⟩
    have ha := hR.anew2 k2
    refine ⟨_, rfl, ⟨hR.k, hR.on, hR.r0, hR.r1, hR.r2, hR.n3, hR.len, hR.tim, hR.per, hR.stp, hR.stb, fun _ => ?_, fun k => absurd k2 k, hR.swept, hR.lev, hR.cnt, ?_, hR.swp, hR.nr⟩, h.past hb, hb, .inl rfl⟩
    · show (if x.r0 < 128 then false else x.anew) = if s.ctl < 128 then false else s.pend
      rw [hR.r0, ha]
    · show (if x.anew then x.r0 % 128 else (if 0 < x.lin then x.lin - 1 else 0)) = if s.pend then s.ctl % 128 else (if 0 < s.lin then s.lin - 1 else s.lin)
      rw [ha, hR.r0, hR.lin]
      have : (if 0 < s.lin then s.lin - 1 else 0) = if 0 < s.lin then s.lin - 1 else s.lin := by split <;> omega
      rw [this]
  · have kx : x.kind ≠ 2 := by rw [hR.k]; exact k2
    have bx : 0 ≤ x.r0 ∧ x.r0 < 256 := by rw [hR.r0]; exact oc
    have ha := hR.anew k2
    rw [show quaT s = envT s from if_neg k2]
    cases hrs : s.rst with
    | true =>
      rw [show envT s = { s with rst := false, lev := 15, div := s.ctl % 16 } by unfold envT; rw [if_pos hrs]]
      refine (rqua_new x v kx (by rw [ha]; exact hrs) bx).mono ?_
      rintro e v' ⟨rfl, hb⟩
      exact ⟨_, rfl, ⟨hR.k, hR.on, hR.r0, hR.r1, hR.r2, hR.n3, hR.len, hR.tim, hR.per, hR.stp, hR.stb, fun k => absurd k k2, fun _ => rfl, hR.swept, rfl, by show x.r0 % 16 = s.ctl % 16; rw [hR.r0], hR.lin, hR.swp, hR.nr⟩, h.past hb, hb, .inl rfl⟩
    | false =>
      have hax : x.anew = false := by rw [ha]; exact hrs
      by_cases hd : 0 < s.div
      · rw [show envT s = { s with div := s.div - 1 } by unfold envT; rw [if_neg (by rw [hrs]; decide), if_pos hd]]
        refine (rqua_dec x v kx hax bx (by rw [hR.cnt]; exact ⟨hd, od.2⟩)).mono ?_
        rintro e v' ⟨rfl, hb⟩
        exact ⟨_, rfl, ⟨hR.k, hR.on, hR.r0, hR.r1, hR.r2, hR.n3, hR.len, hR.tim, hR.per, hR.stp, hR.stb, hR.anew2, hR.anew, hR.swept, hR.lev, by show x.cnt - 1 = s.div - 1; rw [hR.cnt], hR.lin, hR.swp, hR.nr⟩, h.past hb, hb, .inl rfl⟩
      · have hc0 : x.cnt = 0 := by rw [hR.cnt]; omega
        rw [show envT s = { s with div := s.ctl % 16, lev := fadeL s.lev (decide (s.ctl / 32 % 2 = 1)) } by unfold envT; rw [if_neg (by rw [hrs]; decide), if_neg hd]]
        by_cases hl : 0 < s.lev
        · refine (rqua_low x v kx hax bx hc0 (by rw [hR.lev]; exact ⟨hl, ol.2⟩)).mono ?_
          rintro e v' ⟨rfl, hb⟩
          exact ⟨_, rfl, ⟨hR.k, hR.on, hR.r0, hR.r1, hR.r2, hR.n3, hR.len, hR.tim, hR.per, hR.stp, hR.stb, hR.anew2, hR.anew, hR.swept, by show x.lev - 1 = fadeL s.lev _; unfold fadeL; rw [if_pos hl, hR.lev], by show x.r0 % 16 = s.ctl % 16; rw [hR.r0], hR.lin, hR.swp, hR.nr⟩, h.past hb, hb, .inl rfl⟩
        · refine (rqua_zero x v kx hax bx hc0 (by rw [hR.lev]; omega)).mono ?_
          rintro e v' ⟨rfl, hb⟩
          exact ⟨_, rfl, ⟨hR.k, hR.on, hR.r0, hR.r1, hR.r2, hR.n3, hR.len, hR.tim, hR.per, hR.stp, hR.stb, hR.anew2, hR.anew, hR.swept, by
            show ifB (decide (x.r0 / 32 % 2 = 1)) 15 0 = fadeL s.lev (decide (s.ctl / 32 % 2 = 1))
            unfold fadeL ifB
            rw [if_neg hl, hR.r0, show s.lev = 0 by omega], by show x.r0 % 16 = s.ctl % 16; rw [hR.r0], hR.lin, hR.swp, hR.nr⟩, h.past hb, hb, .inl rfl⟩

theorem tgR_is (hR : Rl s x) (ok : TOk s) : tgR x = targT s := by
  have op := ok.per
  unfold tgR targT
  rw [hR.per, hR.r1, hR.k]
  generalize s.per / 2 ^ (s.sreg % 8).toNat = p
  split
  · rfl
  · generalize (if s.kind = 0 then (1 : Int) else 0) = z
    omega
theorem mutR_is (hR : Rl s x) (ok : TOk s) : mutR x = mutT s := by
  unfold mutR mutT
  rw [tgR_is hR ok, hR.per]
theorem lenT_is (ok : TOk s) : lenT s = { s with len := if haltT s = false then max (s.len - 1) 0 else s.len } := by
  have ol := ok.len
  unfold lenT
  by_cases hh : haltT s = false
  · by_cases h0 : 0 < s.len
    · rw [if_pos ⟨h0, hh⟩, if_pos hh, show max (s.len - 1) 0 = s.len - 1 by omega]
    · rw [if_neg (by intro e; exact h0 e.1), if_pos hh, show max (s.len - 1) 0 = s.len by omega]
  · rw [if_neg (by intro e; exact hh e.2), if_neg hh]

end Go.Proofs.YtgnafnjhbdefaaaDoor
