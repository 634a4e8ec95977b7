/- Steps of the document's voice, told by the tone's own: Clock, Enable. No law is claimed here. -/
import Derived.Test.YtgnafnjhbdefaaaDoorTr10
set_option linter.unusedSimpArgs false
set_option linter.unusedVariables false
namespace Go.Proofs.YtgnafnjhbdefaaaDoor
open Go.RowKit Go.Great

/-- the document's row -/
def rwl (s : TS) : List Int := if s.kind = 3 then bl s.bits else row0
theorem bl_one : bl 1 = row0 := by decide
/-- what a call of the document's leaves -/
def After (w0 : World) (m : Nat) (s' s2 : TS) (v : World) (x : RT) (e : Ending) (v' : World) : Prop := ∃ x', e = .returned (rtv x') ∧ Rl s2 x' ∧ BW w0 m s' x'.row x'.cr (rwl s2) v' ∧ Below v.heap.size v v' ∧ (x'.row = x.row ∨ ∀ g o, x'.row = some ⟨g, o, none⟩ → v.heap.size ≤ g)
variable {w0 v : World} {m : Nat} {s s' : TS} {x : RT}

theorem clock_case (s : TS) : (0 < s.tim ∧ clockT s = { s with tim := s.tim - 1 }) ∨ (¬ 0 < s.tim ∧ clockT s = advT { s with tim := s.per }) := by
  unfold clockT
  by_cases h : 0 < s.tim
  · exact .inl ⟨h, if_pos h⟩
  · exact .inr ⟨h, if_neg h⟩

theorem rs_clock (h : BW w0 m s' x.row x.cr (rwl s) v) (hR : Rl s x) (ok : TOk s) : Calls Tryd.prog 23 #[rtv x] v fun e v' => After w0 m s' (clockT s) v x e v' := by
  have ot := ok.tim
  have ob := ok.bits
  have ok0 := ok.kind
  rcases clock_case s with ⟨h0, e⟩ | ⟨h0, e⟩
  · rw [e]
    refine (rclock_dec x v (by rw [hR.tim]; omega)).mono ?_
    rintro e v' ⟨rfl, hb⟩
    exact ⟨_, rfl, ⟨hR.k, hR.on, hR.r0, hR.r1, hR.r2, hR.n3, hR.len, by show x.tim - 1 = s.tim - 1; rw [hR.tim], hR.per, hR.stp, hR.stb, hR.anew2, hR.anew, hR.swept, hR.lev, hR.cnt, hR.lin, hR.swp, hR.nr⟩, h.past hb, hb, .inl rfl⟩
  · have ht : x.tim = 0 := by rw [hR.tim]; omega
    rw [e]
    by_cases k2 : s.kind = 2
    · have ol := ok.len
      have oi := ok.lin
      refine (rclock_tri x v (by rw [hR.k]; exact k2) ht (by rw [hR.len]; exact ol) (by rw [hR.lin]; exact oi) hR.stb).mono ?_
      rintro e v' ⟨rfl, hb⟩
      have hs := hR.stp (by omega)
      have es : advT { s with tim := s.per } = { s with tim := s.per, stp := if 0 < s.len ∧ 0 < s.lin then (s.stp + 1) % 32 else s.stp } := by
        unfold advT
        rw [if_pos k2]
        simp only
        split <;> rfl
      rw [es]
      have hst := hR.stb
      exact ⟨_, rfl, ⟨hR.k, hR.on, hR.r0, hR.r1, hR.r2, hR.n3, hR.len, by show x.per = s.per; exact hR.per, hR.per, fun _ => by show (if 0 < x.len ∧ 0 < x.lin then (x.stp + 1) % 32 else x.stp) = _; rw [hR.len, hR.lin, hs], by show 0 ≤ (if 0 < x.len ∧ 0 < x.lin then (x.stp + 1) % 32 else x.stp) ∧ (if 0 < x.len ∧ 0 < x.lin then (x.stp + 1) % 32 else x.stp) < 32; split <;> omega, hR.anew2, hR.anew, hR.swept, hR.lev, hR.cnt, hR.lin, hR.swp, hR.nr⟩, h.past hb, hb, .inl rfl⟩
    · by_cases k3 : s.kind = 3
      · obtain ⟨n1, n2⟩ := hR.n3 k3
        have hw : rwl s = bl s.bits := if_pos k3
        rw [hw] at h
        refine (rclock_noi x (bl s.bits) v (by rw [hR.k]; exact k3) ht hR.r2 hR.nr h.rowR (bl_bit _)).mono ?_
        rintro e v' ⟨A, c, rfl, hrow, hb, hlo⟩
        have es : advT { s with tim := s.per } = { s with tim := s.per, bits := bitT s } := by
          unfold advT
          rw [if_neg k2, if_pos k3]
          rfl
        have hbit : bl (bitT s) = (bl s.bits).drop 1 ++ [((bl s.bits).getD 0 0 + (bl s.bits).getD (tapR x) 0) % 2] := by
          have hc : (s.bits % 2 + (if s.short then s.bits / 64 % 2 else s.bits / 2 % 2)) % 2 = ((bl s.bits).getD 0 0 + (bl s.bits).getD (tapR x) 0) % 2 := by
            unfold tapR
            rw [n1]
            by_cases e : x.r2 < 128
            · rw [if_pos e, if_neg (by simp; omega)]; rfl
            · rw [if_neg e, if_pos (by simp; omega)]; rfl
          unfold bitT
          rw [hc]
          exact bl_step s.bits _ ob (by omega)
        rw [es]
        refine ⟨_, rfl, ⟨hR.k, hR.on, hR.r0, hR.r1, hR.r2, hR.n3, hR.len, by show x.per = s.per; exact hR.per, hR.per, fun k => absurd k3 k, hR.stb, hR.anew2, hR.anew, hR.swept, hR.lev, hR.cnt, hR.lin, hR.swp, rfl⟩, ?_, hb, .inr hlo⟩
        show BW w0 m s' A c (rwl { s with tim := s.per, bits := bitT s }) v'
        rw [show rwl { s with tim := s.per, bits := bitT s } = bl (bitT s) from if_pos k3, hbit]
        exact h.row hb hrow hlo
      · refine (rclock_pul x v (by rw [hR.k]; exact k2) (by rw [hR.k]; exact k3) ht hR.stb).mono ?_
        rintro e v' ⟨rfl, hb⟩
        have hs := hR.stp k3
        have es : advT { s with tim := s.per } = { s with tim := s.per, stp := (s.stp + 1) % 8 } := by
          unfold advT
          rw [if_neg k2, if_neg k3]
        rw [es]
        exact ⟨_, rfl, ⟨hR.k, hR.on, hR.r0, hR.r1, hR.r2, hR.n3, hR.len, by show x.per = s.per; exact hR.per, hR.per, fun _ => by show (x.stp + 1) % 8 = (s.stp + 1) % 8; rw [hs], by show 0 ≤ (x.stp + 1) % 8 ∧ (x.stp + 1) % 8 < 32; omega, hR.anew2, hR.anew, hR.swept, hR.lev, hR.cnt, hR.lin, hR.swp, hR.nr⟩, h.past hb, hb, .inl rfl⟩

theorem rs_en (h : BW w0 m s' x.row x.cr (rwl s) v) (hR : Rl s x) (on : Bool) : Calls Tryd.prog 17 #[rtv x, .bool on] v fun e v' => After w0 m s' (enT s on) v x e v' := by
  refine (ren_any x on v).mono ?_
  rintro e v' ⟨rfl, hb⟩
  exact ⟨_, rfl, ⟨hR.k, rfl, hR.r0, hR.r1, hR.r2, hR.n3, by show (if on then x.len else 0) = (if on then s.len else 0); rw [hR.len], hR.tim, hR.per, hR.stp, hR.stb, hR.anew2, hR.anew, hR.swept, hR.lev, hR.cnt, hR.lin, hR.swp, hR.nr⟩, h.past hb, hb, .inl rfl⟩

theorem tw_row {v' : World} {A' : Option Addr} {c' : Nat} {bs' : List Int} (h : TW w0 m s v) (hb : Below v.heap.size v v') (hr : RowR v' A' c' bs') (hg : ∀ g o, A' = some ⟨g, o, none⟩ → v.heap.size ≤ g) : BW w0 m s A' c' bs' v' := by
  obtain ⟨⟨w2, rfl, h1, h2, hb2⟩, h3, h4⟩ := h
  obtain ⟨os, d, rfl⟩ := more_of hb
  have hs : (stT w2 m s).heap.size = w2.heap.size := rowT_size _ _ _ _
  have e : more (stT w2 m s) os d = stT (more w2 os d) m s := rowT_more _ _ _ _ _ _ h1
  rw [e] at hr ⊢
  obtain ⟨l1, l2, g, o, hA, hgs, hc⟩ := hr
  have hgm := hg g o hA
  refine ⟨⟨more w2 os d, rfl, more_lt _ _ _ _ h1, h2.below (more_self _ _ _), hb2.trans ((more_self w2 os d).mono (Nat.le_of_lt h1)), ⟨l1, l2, g, o, hA, by unfold stT at hgs; rwa [rowT_size] at hgs, fun j hj => ?_⟩⟩, h3, h4, fun g' o' hA' => ?_⟩
  · rw [← hc j hj]
    exact (rowT_cellFar (more w2 os d) m 67 s.cells ⟨g, o + j, none⟩ (by show g ≠ m; omega)).symm
  · have := hg g' o' hA'; omega
theorem rs_new (k : Int) (hk : 0 ≤ k ∧ k < 4) (hT : TW w0 m (newT k) v) : Calls Tryd.prog 13 #[.int .i64 k] v fun e v' => ∃ x', e = .returned (rtv x') ∧ Rl (newT k) x' ∧ BW w0 m (newT k) x'.row x'.cr (rwl (newT k)) v' ∧ Below v.heap.size v v' ∧ (∀ g o, x'.row = some ⟨g, o, none⟩ → v.heap.size ≤ g) := by
  refine (rnew_any k v hk).mono ?_
  rintro e v' ⟨A, c, rfl, hrow, hb, hlo⟩
  refine ⟨_, rfl, ⟨rfl, rfl, rfl, rfl, by show (0 : Int) ≤ 0 ∧ (0 : Int) < 256; decide, fun k3 => ?_, rfl, rfl, ?_, fun _ => rfl, by show (0 : Int) ≤ 0 ∧ (0 : Int) < 32; decide, fun _ => rfl, fun _ => rfl, rfl, rfl, rfl, rfl, rfl, rfl⟩, ?_, hb, hlo⟩
  · have k3' : k = 3 := k3
    subst k3'
    show false = decide (128 ≤ (0 : Int)) ∧ (if (3 : Int) = 3 then (3 : Int) else 0) = at0 noiL (0 % 16) - 1
    decide +kernel
  · show ifB (k == 3) 3 0 = if k = 3 then 3 else 0
    unfold ifB
    by_cases e : k = 3 <;> simp [e]
  · show BW w0 m (newT k) A c (rwl (newT k)) v'
    have : rwl (newT k) = row0 := by
      unfold rwl
      by_cases e : k = 3
      · subst e; rfl
      · rw [if_neg (by exact e)]
    rw [this]
    exact tw_row hT hb hrow hlo

end Go.Proofs.YtgnafnjhbdefaaaDoor
