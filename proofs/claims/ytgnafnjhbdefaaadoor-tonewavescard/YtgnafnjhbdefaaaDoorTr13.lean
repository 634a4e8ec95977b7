/- Steps of the document's voice, told by the tone's own: Half, Put, Out. No law is claimed here. -/
import Derived.Test.YtgnafnjhbdefaaaDoorTr12
import Derived.Test.YtgnafnjhbdefaaaDoorTr6b
set_option linter.unusedSimpArgs false
set_option linter.unusedVariables false
namespace Go.Proofs.YtgnafnjhbdefaaaDoor
open Go.RowKit Go.Great

variable {w0 v : World} {m : Nat} {s s' : TS} {x : RT}

theorem rs_half (h : BW w0 m s' x.row x.cr (rwl s) v) (hR : Rl s x) (ok : TOk s) : Calls Tryd.prog 33 #[rtv x] v fun e v' => After w0 m s' (halfT s) v x e v' := by
  have oc := ok.ctl
  have ol := ok.len
  have ok0 := ok.kind
  have op := ok.per
  have og := ok.sreg
  have od := ok.sdiv
  have bx : 0 ≤ x.r0 ∧ x.r0 < 256 := by rw [hR.r0]; exact oc
  have bl' : 0 ≤ x.len ∧ x.len < 256 := by rw [hR.len]; exact ol
  have hL := lenT_is ok
  by_cases k2 : s.kind = 2
  · have e : halfT s = { s with len := if haltT s = false then max (s.len - 1) 0 else s.len } := by
      unfold halfT; rw [hL, if_neg (by show ¬ s.kind < 2; omega)]
    rw [e]
    refine (rhalf_2 x v (by rw [hR.k]; exact k2) bx bl').mono ?_
    rintro e v' ⟨rfl, hb⟩
    refine ⟨_, rfl, ⟨hR.k, hR.on, hR.r0, hR.r1, hR.r2, hR.n3, ?_, hR.tim, hR.per, hR.stp, hR.stb, hR.anew2, hR.anew, hR.swept, hR.lev, hR.cnt, hR.lin, hR.swp, hR.nr⟩, h.past hb, hb, .inl rfl⟩
    show ifB (decide (x.r0 < 128)) (ifB (decide (0 < x.len)) (x.len - 1) 0) x.len = if haltT s = false then max (s.len - 1) 0 else s.len
    unfold haltT ifB
    rw [if_pos k2, hR.r0, hR.len]
    by_cases c : s.ctl < 128 <;> by_cases d : 0 < s.len <;> simp [c, d] <;> omega
  · by_cases k3 : s.kind = 3
    · have e : halfT s = { s with len := if haltT s = false then max (s.len - 1) 0 else s.len } := by
        unfold halfT; rw [hL, if_neg (by show ¬ s.kind < 2; omega)]
      rw [e]
      refine (rhalf_3 x v (by rw [hR.k]; exact k3) bx bl').mono ?_
      rintro e v' ⟨rfl, hb⟩
      refine ⟨_, rfl, ⟨hR.k, hR.on, hR.r0, hR.r1, hR.r2, hR.n3, ?_, hR.tim, hR.per, hR.stp, hR.stb, hR.anew2, hR.anew, hR.swept, hR.lev, hR.cnt, hR.lin, hR.swp, hR.nr⟩, h.past hb, hb, .inl rfl⟩
      show ifB (decide (x.r0 / 32 % 2 = 0)) (ifB (decide (0 < x.len)) (x.len - 1) 0) x.len = if haltT s = false then max (s.len - 1) 0 else s.len
      unfold haltT ifB
      rw [if_neg k2, hR.r0, hR.len]
      rcases (by omega : s.ctl / 32 % 2 = 0 ∨ s.ctl / 32 % 2 = 1) with c | c <;> by_cases d : 0 < s.len <;> simp [c, d] <;> omega
    · have kx : x.kind < 2 := by rw [hR.k]; omega
      obtain ⟨L, hLL⟩ : ∃ L, (if haltT s = false then max (s.len - 1) 0 else s.len) = L := ⟨_, rfl⟩
      rw [hLL] at hL
      have hLx : ifB (decide (x.r0 / 32 % 2 = 0)) (max (x.len - 1) 0) x.len = L := by
        rw [← hLL]
        unfold haltT ifB
        rw [if_neg k2, hR.r0, hR.len]
        rcases (by omega : s.ctl / 32 % 2 = 0 ∨ s.ctl / 32 % 2 = 1) with c | c <;> simp [c]
      have bp : 0 ≤ x.per ∧ x.per < 4096 := by rw [hR.per]; exact op
      have bg : 0 ≤ x.r1 ∧ x.r1 < 256 := by rw [hR.r1]; exact og
      have hm := mutR_is hR ok
      have ht := tgR_is hR ok
      have eh : halfT s = countT (if dueT s && !mutT s then { s with len := L, per := targT s } else { s with len := L }) := by
        unfold halfT
        rw [hL, if_pos (by show s.kind < 2; omega)]
        rfl
      rw [eh]
      by_cases hd : x.swp = 0
      · have hd' : s.sdiv = 0 := by rw [← hR.swp]; exact hd
        by_cases hq : x.r1 < 128 ∨ x.r1 % 8 = 0
        · have hdu : dueT s = false := by
            unfold dueT
            rw [← hR.r1]
            rcases hq with hq | hq
            · rw [show decide (128 ≤ x.r1) = false by simp; omega]; simp
            · rw [show decide (x.r1 % 8 ≠ 0) = false by simp [hq]]; simp
          rw [show countT (if dueT s && !mutT s then { s with len := L, per := targT s } else { s with len := L }) = { s with len := L, sdiv := s.sreg / 16 % 8, swr := false } by
            rw [hdu]; unfold countT; simp [hd']]
          refine (rhalf_pd x v kx bx bl' bp bg hd hq).mono ?_
          rintro e v' ⟨rfl, hb⟩
          exact ⟨_, rfl, ⟨hR.k, hR.on, hR.r0, hR.r1, hR.r2, hR.n3, hLx, hR.tim, hR.per, hR.stp, hR.stb, hR.anew2, hR.anew, rfl, hR.lev, hR.cnt, hR.lin, by show x.r1 / 16 % 8 = s.sreg / 16 % 8; rw [hR.r1], hR.nr⟩, h.past hb, hb, .inl rfl⟩
        · have hq1 : 128 ≤ x.r1 := by omega
          have hq2 : 0 < x.r1 % 8 := by omega
          have hdu : dueT s = true := by
            unfold dueT
            rw [← hR.r1, hd']
            simp
            omega
          cases hmv : mutT s with
          | true =>
            rw [show countT (if dueT s && !true then { s with len := L, per := targT s } else { s with len := L }) = { s with len := L, sdiv := s.sreg / 16 % 8, swr := false } by
              unfold countT; simp [hd']]
            refine (rhalf_pt x v kx bx bl' bp bg hd hq1 hq2 (by rw [hm]; exact hmv)).mono ?_
            rintro e v' ⟨rfl, hb⟩
            exact ⟨_, rfl, ⟨hR.k, hR.on, hR.r0, hR.r1, hR.r2, hR.n3, hLx, hR.tim, hR.per, hR.stp, hR.stb, hR.anew2, hR.anew, rfl, hR.lev, hR.cnt, hR.lin, by show x.r1 / 16 % 8 = s.sreg / 16 % 8; rw [hR.r1], hR.nr⟩, h.past hb, hb, .inl rfl⟩
          | false =>
            rw [show countT (if dueT s && !false then { s with len := L, per := targT s } else { s with len := L }) = { s with len := L, per := targT s, sdiv := s.sreg / 16 % 8, swr := false } by
              rw [hdu]; unfold countT; simp [hd']]
            have hmx : mutR x = false := by rw [hm]; exact hmv
            rcases (by omega : x.r0 / 32 % 2 = 0 ∨ x.r0 / 32 % 2 = 1) with c | c
            · refine (rhalf_pf0 x v kx bx bl' bp bg hd hq1 hq2 hmx c).mono ?_
              rintro e v' ⟨rfl, hb⟩
              exact ⟨_, rfl, ⟨hR.k, hR.on, hR.r0, hR.r1, hR.r2, fun k => absurd k k3, by show max (x.len - 1) 0 = L; rw [← hLx]; simp [ifB, c], hR.tim, ht, hR.stp, hR.stb, hR.anew2, hR.anew, rfl, hR.lev, hR.cnt, hR.lin, by show x.r1 / 16 % 8 = s.sreg / 16 % 8; rw [hR.r1], hR.nr⟩, h.past hb, hb, .inl rfl⟩
            · refine (rhalf_pf1 x v kx bx bl' bp bg hd hq1 hq2 hmx c).mono ?_
              rintro e v' ⟨rfl, hb⟩
              exact ⟨_, rfl, ⟨hR.k, hR.on, hR.r0, hR.r1, hR.r2, fun k => absurd k k3, by show x.len = L; rw [← hLx]; simp [ifB, c], hR.tim, ht, hR.stp, hR.stb, hR.anew2, hR.anew, rfl, hR.lev, hR.cnt, hR.lin, by show x.r1 / 16 % 8 = s.sreg / 16 % 8; rw [hR.r1], hR.nr⟩, h.past hb, hb, .inl rfl⟩
      · have hd' : s.sdiv ≠ 0 := by rw [← hR.swp]; exact hd
        have hdu : dueT s = false := by
          unfold dueT
          rw [show decide (s.sdiv = 0) = false by simp [hd']]; simp
        rw [show countT (if dueT s && !mutT s then { s with len := L, per := targT s } else { s with len := L }) = { s with len := L, sdiv := if s.swr = true then s.sreg / 16 % 8 else s.sdiv - 1, swr := false } by
          rw [hdu]; unfold countT; simp [hd']]
        refine (rhalf_pn x v kx bx bl' bg (by rw [hR.swp]; omega)).mono ?_
        rintro e v' ⟨rfl, hb⟩
        exact ⟨_, rfl, ⟨hR.k, hR.on, hR.r0, hR.r1, hR.r2, hR.n3, hLx, hR.tim, hR.per, hR.stp, hR.stb, hR.anew2, hR.anew, rfl, hR.lev, hR.cnt, hR.lin, by
          show ifB x.swept (x.r1 / 16 % 8) (x.swp - 1) = if s.swr = true then s.sreg / 16 % 8 else s.sdiv - 1
          unfold ifB; rw [hR.swept, hR.r1, hR.swp], hR.nr⟩, h.past hb, hb, .inl rfl⟩

theorem dut01 (k : Int) (h : 0 ≤ k ∧ k < 32) : at0 dutL k = 0 ∨ at0 dutL k = 1 := by
  have q : ∀ n : Fin 32, at0 dutL (n.val : Int) = 0 ∨ at0 dutL (n.val : Int) = 1 := by decide
  have := q ⟨k.toNat, by omega⟩; rwa [show ((⟨k.toNat, by omega⟩ : Fin 32).val : Int) = k from Int.toNat_of_nonneg h.1] at this
theorem vol_is (hR : Rl s x) : volR x = volT s := by
  unfold volR volT ifB
  rw [hR.r0, hR.lev]
  by_cases c : s.ctl / 16 % 2 = 1 <;> simp [c]
theorem rs_out (h : BW w0 m s' x.row x.cr (rwl s) v) (hR : Rl s x) (ok : TOk s) : Calls Tryd.prog 34 #[rtv x] v fun e v' => e = .returned (.int .i64 (outT s)) ∧ Below v.heap.size v v' := by
  have oc := ok.ctl
  have ol := ok.len
  have ok0 := ok.kind
  have op := ok.per
  have og := ok.sreg
  have os := ok.stp
  have bx : 0 ≤ x.r0 ∧ x.r0 < 256 := by rw [hR.r0]; exact oc
  have bl' : 0 ≤ x.len ∧ x.len < 256 := by rw [hR.len]; exact ol
  have hv := vol_is hR
  by_cases k2 : s.kind = 2
  · have hs := hR.stp (by omega)
    refine (rout_2 x v (by rw [hR.k]; exact k2) hR.stb).mono ?_
    rintro e v' ⟨rfl, hb⟩
    refine ⟨congrArg (fun z => Ending.returned (Value.int .i64 z)) ?_, hb⟩
    unfold outT ifB
    rw [if_pos k2, hs]
    by_cases c : s.stp < 16 <;> simp [c]
  · by_cases k3 : s.kind = 3
    · have hrw := h.rowR
      rw [show rwl s = bl s.bits from if_pos k3] at hrw
      obtain ⟨l1, l2, g, o, hA, hg, hc⟩ := hrw
      have hc0 := hc 0 (by rw [l1]; decide)
      rw [Nat.add_zero] at hc0
      refine (rout_3 x (s.bits % 2) v (by rw [hR.k]; exact k3) bx bl' ⟨g, o, hA, hg, by rw [hR.nr]; decide, hc0⟩ (by omega)).mono ?_
      rintro e v' ⟨rfl, hb⟩
      refine ⟨congrArg (fun z => Ending.returned (Value.int .i64 z)) ?_, hb⟩
      unfold outT ifB
      rw [if_neg k2, if_pos k3, hv, hR.len]
      by_cases c : 0 < s.len <;> rcases (by omega : s.bits % 2 = 0 ∨ s.bits % 2 = 1) with d | d <;> simp [c, d] <;> omega
    · have hs := hR.stp k3
      have s8 := ok.st8 k2
      refine (rout_p x v (by rw [hR.k]; omega) bx bl' (by rw [hs]; omega) (by rw [hR.per]; exact op) (by rw [hR.r1]; exact og)).mono ?_
      rintro e v' ⟨rfl, hb⟩
      refine ⟨congrArg (fun z => Ending.returned (Value.int .i64 z)) ?_, hb⟩
      have hd := dut01 (s.ctl / 64 * 8 + s.stp) (by omega)
      unfold poR outT ifB
      rw [if_neg k2, if_neg k3, hv, hR.len, hR.r0, hs, mutR_is hR ok]
      generalize at0 dutL (s.ctl / 64 * 8 + s.stp) = D at *
      by_cases c : 0 < s.len <;> rcases hd with rfl | rfl <;> cases mutT s <;> simp [c] <;> omega

end Go.Proofs.YtgnafnjhbdefaaaDoor
