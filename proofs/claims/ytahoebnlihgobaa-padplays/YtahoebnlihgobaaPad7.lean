/- Scripts of a pad (walk). No law is claimed here. -/
import Derived.Test.YtahoebnlihgobaaPad5
namespace Go.Proofs.Ytahoebnlihgobaa
open Go.RowKit

theorem Rs.imp {w : World} {S S' : Nat → Prop} {A : Option Addr} {c : Nat} {xs : List Int} (h : Rs w S A c xs) (hS : ∀ k, S k → k < w.heap.size → S' k) : Rs w S' A c xs := by
  obtain ⟨h1, h2, g, off, rfl, h3, h4, h5⟩ := h
  exact ⟨h1, h2, g, off, rfl, h3, hS _ h4 h3, h5⟩
theorem Pd.drewN {w : World} {n : Nat} {h s : Int} {t : Bool} (p : Pd w n h s t) (q : Nat) : Pd (w.drewN q) n h s t := ⟨p.lt, p.c0, p.c1, p.c2, p.fz⟩
theorem Qd.drewN {w : World} {X c : Nat} {h : Int} {A : Option Addr} {t : Bool} (p : Qd w X h A c t) (q : Nat) : Qd (w.drewN q) X h A c t := ⟨p.lt, p.c0, p.c1, p.c2, p.fz⟩
theorem Rs.drewN {w : World} {S : Nat → Prop} {A : Option Addr} {c : Nat} {xs : List Int} (h : Rs w S A c xs) (q : Nat) : Rs (w.drewN q) S A c xs := ⟨h.len, h.cap, h.at_⟩
theorem Qd.made (w : World) (h : Int) (A : Option Addr) (c : Nat) (t : Bool) (ty : TypeId) : Qd (w.alloc (.cells #[.int .i64 h, .slice A 8 c, .bool t] ty)) w.heap.size h A c t := by
  refine ⟨by simp, ?_, ?_, ?_, fun i => by simp [go_sem]⟩ <;> exact cell_of_row _ _ _ _ _ _ (heap_alloc_new w _)
/-- both pads, side by side -/
structure Two (w : World) (P X : Nat) (h s : Int) (t : Bool) (A : Option Addr) (c : Nat) : Prop where
  pd : Pd w P h s t
  qd : Qd w X h A c t
  rs : Rs w (fun g => g ≠ P ∧ g ≠ X) A c (bitsL 8 s)
  hb : (0 ≤ h ∧ h < 256) ∧ (0 ≤ s ∧ s < 256)
theorem Two.below {w w' : World} {P X c : Nat} {h s : Int} {t : Bool} {A : Option Addr} (T : Two w P X h s t A c) (b : Below w.heap.size w w') : Two w' P X h s t A c := ⟨T.pd.below b, T.qd.below b, T.rs.up b, T.hb⟩
theorem Two.drewN {w : World} {P X c : Nat} {h s : Int} {t : Bool} {A : Option Addr} (T : Two w P X h s t A c) (q : Nat) : Two (w.drewN q) P X h s t A c := ⟨T.pd.drewN q, T.qd.drewN q, T.rs.drewN q, T.hb⟩

set_option maxRecDepth 100000 in
set_option maxHeartbeats 2000000 in
theorem padPlays_walk (A : Option Addr) (n c : Nat) (l : List (Int × Int)) (w : World) (hr : RdX shAct w (· < w.heap.size) A n c l) (hm : c ≤ maxLen) (hg : ∀ y ∈ l, okAct y) :
    Calls Try.prog 3 #[.slice A n c] w fun e w' => e = .returned (.bool true) ∧ Below w.heap.size w w' := by
  have hl := hr.len
  have hcap := hr.cap
  have hmm : c ≤ 9223372036854775807 := hm
  have m1 := more_cell
  have m2 := more_frozen
  have m3 := more_setCell
  have m4 := more_lt
  go_enter Try.func3, Try.ntmps3
  go_upto_region 3 with (go_at_call 7; refine (l16awake_any _).mono ?_; rintro e w0 ⟨rfl, x0⟩)
  have z0 := x0.size
  go_upto_region 4 with (first | (go_at_call 8; refine (pnew_any _).mono ?_; rintro e w1 ⟨rfl, p1, x1⟩) | (go_at_call 9; refine (qnew_any (fun g => g ≠ w0.heap.size ∧ w1.heap.size ≤ g) _ (fun k hk => ⟨(by have := p1.lt; omega), hk⟩)).mono ?_; rintro e w2 ⟨A1, c1, rfl, r2, x2⟩; unfold qv))
  have l1 := p1.lt
  have l2 := x2.size
  have T0 : Two (w2.alloc (.cells #[.int .i64 0, .slice A1 8 c1, .bool false] 28)) w0.heap.size w2.heap.size 0 0 false A1 c1 :=
    ⟨(p1.below x2).alloc _, Qd.made w2 0 A1 c1 false _, (r2.imp (fun k hk hk2 => ⟨hk.1, by omega⟩)).up ((Ext.refl _).alloc _).below, by decide⟩
  have b0 : Below w.heap.size w (w2.alloc (.cells #[.int .i64 0, .slice A1 8 c1, .bool false] 28)) :=
    (x0.trans ((x1.below.mono z0).trans (x2.mono (by omega)))).alloc (by omega) _
  have hPX : w0.heap.size ≠ w2.heap.size := by omega
  have hwX : w.heap.size ≤ w2.heap.size := by omega
  clear p1 x1 r2 x2 l1 l2
  go_wp2
  generalize w2.alloc (.cells #[.int .i64 0, .slice A1 8 c1, .bool false] 28) = w3 at *
  generalize w2.heap.size = X at *
  generalize hP : w0.heap.size = P at *
  go_loopw [14] (fun i wr => ∃ (k : Nat) (h s : Int) (t : Bool) (A' : Option Addr) (c' : Nat), k ≤ n ∧ i = .int .i64 k ∧ Two wr P X h s t A' c' ∧ Below w.heap.size w wr) (fun i _ => n - (intOf i).toNat)
  case atStart => exact ⟨0, 0, 0, false, A1, c1, Nat.zero_le _, rfl, T0, b0⟩
  case round =>
    obtain ⟨k, h, s, t, A', c', hk, rfl, T, hb⟩ := hrel
    by_cases hkn : k < n
    · have t1 : (k : Int) < n := by omega
      have hkl : k < l.length := by omega
      obtain ⟨b, off, rfl, hbb, ca, cb⟩ := rdAct_at hr k hkl
      obtain ⟨⟨y1, y2⟩, y3, y4⟩ := hg l[k] (List.getElem_mem hkl)
      generalize l[k] = y at *
      obtain ⟨yd, yb⟩ := y
      simp only at ca cb y1 y2 y3 y4
      have ca' := (hb.cell (p := ⟨b, off + k * 2, none⟩) hbb).trans ca
      have cb' := (hb.cell (p := ⟨b, off + k * 2 + 1, none⟩) hbb).trans cb
      have hbr : b < wr.heap.size := Nat.lt_of_lt_of_le hbb hb.size
      clear ca cb hr hg
      by_cases h60 : (k : Int) < 60
      · obtain ⟨⟨g1, g2⟩, g3, g4⟩ := T.hb
        have Ta : Two (wr.alloc (.cells #[.int .u8 yd, .int .u8 yb] 31)) P X h s t A' c' := T.below ((Ext.refl _).alloc _).below
        have ha : Below w.heap.size w (wr.alloc (.cells #[.int .u8 yd, .int .u8 yb] 31)) := hb.alloc hb.size _
        have aX : wr.heap.size ≠ X := by have := T.qd.lt; omega
        have aP : wr.heap.size ≠ P := by have := T.pd.lt; omega
        have hwP : w.heap.size ≤ P := by omega
        have ly := low_s yb ⟨y3, y4⟩
        have ls := low_s s ⟨g3, g4⟩
        have QH : ∀ (v : World) (q : Nat) (h s : Int) (t : Bool), Pd v P h s t → Calls Try.prog 16 #[.pointer (some ⟨P, 0, none⟩)] (v.drewN q) fun e w'' => e = .returned (.int .u8 h) ∧ ∃ m, w'' = v.drewN m :=
          fun v q h s t hp => quiet_eq ((pheld_any _ _ _ _ _ (hp.drewN q)).mono fun _ _ hh => ⟨hh.1, hh.2.symm⟩)
        clear T hb
        by_cases e3 : yd % 5 = 3
        · go_upto_region 15 with (go_at_call 10; refine (pput_any _ _ _ _ _ _ Ta.pd).mono ?_; rintro e w1 ⟨rfl, p1, x1⟩)
          have q1 := Ta.qd.other x1 hPX.symm
          have r1 := Ta.rs.other x1 (fun k hk => hk.1)
          have a1 : w1.cell? ⟨wr.heap.size, 1, none⟩ = some (.int .u8 yb) := (x1.cell ⟨wr.heap.size, 1, none⟩ aP).trans (cell_of_row _ _ _ _ _ _ (heap_alloc_new wr _))
          have hb1 := x1.below _ hwP _ ha
          have F := qput_any h A' c' t (bitsL 8 s) yb _ w1 (fun k hk => ⟨by have := p1.lt; omega, by have := q1.lt; omega⟩) r1 y3 g1 g2
          rw [ly.2.2.2] at p1
          have hrow : (if yb % 2 = 1 then bitsL 8 h else bitsL 8 s) = bitsL 8 (sel (decide (yb % 2 = 1)) h s) := by by_cases hh : yb % 2 = 1 <;> simp [hh, sel]
          have hsb : 0 ≤ sel (decide (yb % 2 = 1)) h s ∧ sel (decide (yb % 2 = 1)) h s < 256 := by unfold sel; split <;> omega
          rw [hrow] at F
          generalize sel (decide (yb % 2 = 1)) h s = s' at *
          generalize decide (yb % 2 = 1) = t' at *
          obtain ⟨v0, v1, v2, v3, v4⟩ := q1
          have f0 := v4 0
          have f1 := v4 1
          have f2 := v4 2
          clear hrow ly ls x1 Ta ha r1
          go_upto_region 19 with (go_at_call 11; refine F.mono ?_; rintro e w' ⟨A2, c2, rfl, r2, x2⟩; unfold qv; obtain ⟨os, d, rfl⟩ := more_of x2)
          rw [setQ_more _ _ _ _ _ _ _ _ v0]
          have qm := (Qd.mk v0 v1 v2 v3 v4).below x2
          have T2 : Two (setQ (more w1 os d) X h A2 c2 t') P X h s' t' A2 c2 := ⟨(p1.below x2).other (setQ_ch _ _ _ _ _ _) hPX, qm.set, r2.other (setQ_ch _ _ _ _ _ _) (fun k hk => hk.2), ⟨g1, g2⟩, hsb⟩
          have hb2 : Below w.heap.size w (setQ (more w1 os d) X h A2 c2 t') := (setQ_ch _ _ _ _ _ _).below _ hwX _ (hb1.trans (x2.mono hb1.size))
          generalize setQ (more w1 os d) X h A2 c2 t' = w5 at *
          have c5 := T2.qd.c0
          go_quiet (first | (go_at_call 16; exact QH _ _ _ _ _ T2.pd))
          go_wp2
          go_roundw
          case rel => exact ⟨k + 1, h, s', t', A2, c2, by omega, by go_num, T2.drewN _, hb2.trans (still_below _ _ _)⟩
          case measure => simp [intOf]; omega
        by_cases e4 : yd % 5 = 4
        · go_upto_region 18 with (go_at_call 12; refine (phold_any _ _ _ _ _ _ Ta.pd).mono ?_; rintro e w1 ⟨rfl, p1, x1⟩)
          have q1 := Ta.qd.other x1 hPX.symm
          have r1 := Ta.rs.other x1 (fun k hk => hk.1)
          have a1 : w1.cell? ⟨wr.heap.size, 1, none⟩ = some (.int .u8 yb) := (x1.cell ⟨wr.heap.size, 1, none⟩ aP).trans (cell_of_row _ _ _ _ _ _ (heap_alloc_new wr _))
          have hb1 := x1.below _ hwP _ ha
          have F := qhold_any h A' c' t (bitsL 8 s) yb _ w1 (fun k hk => ⟨by have := p1.lt; omega, by have := q1.lt; omega⟩) r1 y3 y4
          have hrow : (if t = true then bitsL 8 yb else bitsL 8 s) = bitsL 8 (sel t yb s) := by cases t <;> rfl
          have hsb : 0 ≤ sel t yb s ∧ sel t yb s < 256 := by unfold sel; split <;> omega
          rw [hrow] at F
          generalize sel t yb s = s' at *
          obtain ⟨v0, v1, v2, v3, v4⟩ := q1
          have f0 := v4 0
          have f1 := v4 1
          have f2 := v4 2
          clear hrow ly ls x1 Ta ha r1
          go_upto_region 19 with (go_at_call 13; refine F.mono ?_; rintro e w' ⟨A2, c2, rfl, r2, x2⟩; unfold qv; obtain ⟨os, d, rfl⟩ := more_of x2)
          rw [setQ_more _ _ _ _ _ _ _ _ v0]
          have qm := (Qd.mk v0 v1 v2 v3 v4).below x2
          have T2 : Two (setQ (more w1 os d) X yb A2 c2 t) P X yb s' t A2 c2 := ⟨(p1.below x2).other (setQ_ch _ _ _ _ _ _) hPX, qm.set, r2.other (setQ_ch _ _ _ _ _ _) (fun k hk => hk.2), ⟨y3, y4⟩, hsb⟩
          have hb2 : Below w.heap.size w (setQ (more w1 os d) X yb A2 c2 t) := (setQ_ch _ _ _ _ _ _).below _ hwX _ (hb1.trans (x2.mono hb1.size))
          generalize setQ (more w1 os d) X yb A2 c2 t = w5 at *
          have c5 := T2.qd.c0
          go_quiet (first | (go_at_call 16; exact QH _ _ _ _ _ T2.pd))
          go_wp2
          go_roundw
          case rel => exact ⟨k + 1, yb, s', t, A2, c2, by omega, by go_num, T2.drewN _, hb2.trans (still_below _ _ _)⟩
          case measure => simp [intOf]; omega
        · have F := qget_any h A' c' t (s % 2) (bitsL 7 (s / 2)) _ _ (fun k hk => ⟨by have := Ta.pd.lt; omega, by have := Ta.qd.lt; omega⟩) Ta.rs
          have hrow : (if t = true then s % 2 :: bitsL 7 (s / 2) else bitsL 7 (s / 2) ++ [1]) = bitsL 8 (nxt s t) := by
            cases t
            · exact ls.2.1.symm
            · rfl
          have hsb : 0 ≤ nxt s t ∧ nxt s t < 256 := by
            cases t
            · exact ls.2.2.1
            · exact ⟨g3, g4⟩
          rw [hrow] at F
          have G := fun v hv => pget_any P h s t v hv
          rw [ls.1] at G
          generalize nxt s t = s' at *
          obtain ⟨v0, v1, v2, v3, v4⟩ := Ta.qd
          have f0 := v4 0
          have f1 := v4 1
          have f2 := v4 2
          clear hrow ly ls
          go_upto_region 10 with (fail)
          generalize wr.alloc (.cells #[.int .u8 yd, .int .u8 yb] 31) = wa at *
          go_upto_region 11 with (go_at_call 14; refine F.mono ?_; rintro e w' ⟨A2, c2, rfl, r2, x2⟩; unfold qv; obtain ⟨os, d, rfl⟩ := more_of x2)
          rw [setQ_more _ _ _ _ _ _ _ _ v0]
          have qm := (Qd.mk v0 v1 v2 v3 v4).below x2
          have pm := (Ta.pd.below x2).other (setQ_ch _ X h A2 c2 t) hPX
          have qn : Qd (setQ (more wa os d) X h A2 c2 t) X h A2 c2 t := qm.set
          have rn := r2.other (setQ_ch _ X h A2 c2 t) (fun k hk => hk.2)
          have hb2 : Below w.heap.size w (setQ (more wa os d) X h A2 c2 t) := (setQ_ch _ _ _ _ _ _).below _ hwX _ (ha.trans (x2.mono ha.size))
          generalize setQ (more wa os d) X h A2 c2 t = w5 at *
          clear qm r2 x2 F v0 v1 v2 v3 v4 f0 f1 f2 Ta ha
          go_upto_region 19 with (go_at_call 15; refine (G _ pm).mono ?_; rintro e w6 ⟨rfl, p6, x6⟩)
          have T2 : Two w6 P X h s' t A2 c2 := ⟨p6, qn.other x6 hPX.symm, rn.other x6 (fun k hk => hk.1), ⟨g1, g2⟩, hsb⟩
          have hb3 := x6.below _ hwP _ hb2
          clear x6 p6 qn rn hb2 pm
          have hb2 := hb3
          have c5 := T2.qd.c0
          go_quiet (first | (go_at_call 16; exact QH _ _ _ _ _ T2.pd))
          go_wp2
          go_roundw
          case rel => exact ⟨k + 1, h, s', t, A2, c2, by omega, by go_num, T2.drewN _, hb2.trans (still_below _ _ _)⟩
          case measure => simp [intOf]; omega
      · have t2 : (60 : Int) ≤ k := by omega
        go_wp2
        go_ret
        exact ⟨rfl, hb.alloc hb.size _⟩
    · have t1 : ¬ ((k : Int) < n) := by omega
      go_wp2
      go_ret
      exact ⟨rfl, hb⟩

end Go.Proofs.Ytahoebnlihgobaa
