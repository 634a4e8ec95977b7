/- LoopyRounds (walk). No law is claimed here. -/
import Derived.Test.YtdbfdhfdfjdnoaaLy6
import Derived.Deep.DeepCutAuto
namespace Go.Proofs.Ytdbfdhfdfjdnoaa
open Go.RowKit

theorem B4.put_other {v : World} {n m : Nat} {s s' : LS} (h : B4 v n s) (hnm : n ≠ m) : B4 (put4 v m s') n s := by
  have h0 := h.lt
  have h1 := h.c0
  have h2 := h.c1
  have h3 := h.c2
  have h4 := h.c3
  have h5 := h.fz
  have hne : ∀ i j, (⟨m, i, none⟩ : Addr) ≠ ⟨n, j, none⟩ := fun i j e => hnm (by injection e with e1; exact e1.symm)
  unfold put4
  constructor
  · simpa using h0
  · simp [go_sem, *]
  · simp [go_sem, *]
  · simp [go_sem, *]
  · simp [go_sem, *]
  · intro i; simp [go_sem, *]
theorem put4_size (v : World) (n : Nat) (s : LS) : (put4 v n s).heap.size = v.heap.size := by unfold put4; simp

set_option maxRecDepth 100000 in
set_option maxHeartbeats 2000000 in
theorem loopyRounds_walk (v t x0 : Int) (wr0 : Bool) (w : World) (hs : LOk ⟨v, t, x0, wr0⟩) :
    Calls Try.prog 5 #[lv v t x0 wr0] w fun e w' => e = .returned (.bool true) ∧ Below w.heap.size w w' := by
  have FA := awake14_any
  have F1 := lyLook_any v t x0 wr0
  have hi := look_in hs
  have hw : (lookL ⟨v, t, x0, wr0⟩).w = false := rfl
  generalize lookL ⟨v, t, x0, wr0⟩ = s0 at *
  obtain ⟨V, T, X, ww⟩ := s0
  simp only at hw
  subst hw
  obtain ⟨⟨hV1, hV2⟩, hT, hX⟩ := hi
  simp only at hV1 hV2 hT hX
  obtain ⟨c, l, a, d, r, rfl, f⟩ := Fld.of V ⟨hV1, hV2⟩
  unfold ls lv at F1
  have r1 := ext_cell
  have r2 := ext_frozen
  have r3 := ext_setCell
  have r4 := ext_lt
  have r5 := ext_drew
  have r6 := ext_ext
  unfold lv
  have hE : enc c l a d r = enc c l a d r := rfl
  generalize hV : enc c l a d r = V at *
  go_enter Try.func5, Try.ntmps5
  go_upto_region 4 with (first
    | (go_at_call 10; refine (FA _).mono ?_; rintro e w1 ⟨rfl, os, q, rfl⟩)
    | (go_at_call 18; refine (F1 _).mono ?_; rintro e w2 ⟨rfl, os2, q2, rfl⟩))
  have hq : B4 _ _ ⟨V, T, X, false⟩ := (B4.made w ⟨V, T, X, false⟩ 24).ext ⟨os ++ os2, q + q2, rfl⟩
  have hB : Below w.heap.size w _ := ext_below ((Below.refl _ w).alloc (Nat.le_refl _) (.cells #[.int .u16 V, .int .u16 T, .int .u8 X, .bool false] 24)) (by simp) (os ++ os2) (q + q2)
  simp only at hq
  generalize ext (w.alloc (.cells #[.int .u16 V, .int .u16 T, .int .u8 X, .bool false] 24)) (os ++ os2) (q + q2) = W1 at *
  clear F1 FA
  have c0 := hq.c0
  have c1 := hq.c1
  have c2 := hq.c2
  have c3 := hq.c3
  have cl := hq.lt
  have cf := hq.fz
  simp only at c0 c1 c2 c3
  go_cut [3, 4] (fun u3 u4 wx => ∃ (R D : Nat), u3 = .pointer (some ⟨R, 0, none⟩) ∧ u4 = .pointer (some ⟨D, 0, none⟩) ∧ R ≠ D ∧ w.heap.size < R ∧ w.heap.size < D ∧ B4 wx w.heap.size ⟨V, T, X, false⟩ ∧ B4 wx R ⟨V, T, X, false⟩ ∧ B4 wx D ⟨V, T, X, false⟩ ∧ Below w.heap.size w wx)
  case first =>
    go_region
    all_goals
      have hsz : (W1.alloc (.cells #[.int .u16 V, .int .u16 T, .int .u8 X, .bool false] 24)).heap.size = W1.heap.size + 1 := by simp
      have h1 : B4 _ _ ⟨V, T, X, false⟩ := ((B4.made W1 ⟨V, T, X, false⟩ 24).ext ((Ext.refl _).alloc (.cells #[.int .u16 V, .int .u16 T, .int .u8 X, .bool false] 24)))
      have h2 : B4 _ _ ⟨V, T, X, false⟩ := B4.made (W1.alloc (.cells #[.int .u16 V, .int .u16 T, .int .u8 X, .bool false] 24)) ⟨V, T, X, false⟩ 24
      rw [hsz] at h2
      have h3 := hq.ext (((Ext.refl _).alloc (.cells #[.int .u16 V, .int .u16 T, .int .u8 X, .bool false] 24)).alloc (.cells #[.int .u16 V, .int .u16 T, .int .u8 X, .bool false] 24))
      have h4 := (hB.alloc hB.size (.cells #[.int .u16 V, .int .u16 T, .int .u8 X, .bool false] 24)).alloc (by have := hB.size; simp; omega) (.cells #[.int .u16 V, .int .u16 T, .int .u8 X, .bool false] 24)
      have h5 := cl
      clear hq hB c0 c1 c2 c3 cl cf hsz
      go_wp2
      go_meet
      case rel => exact ⟨_, _, rfl, rfl, by omega, by omega, by omega, h3.drewN 1, by first | exact h1.drewN 1 | exact h2.drewN 1, by first | exact h2.drewN 1 | exact h1.drewN 1, h4.drew⟩
  case rest =>
    clear hq hB c0 c1 c2 c3 cl cf
    obtain ⟨R, D, rfl, rfl, hRD, hR, hD, hq, hqR, hqD, hB⟩ := hcut
    generalize hB0 : w.heap.size = B0 at *
    clear hs
    go_upto_region 6 with (fail)
    go_loopw [13] (fun i wr => ∃ (k : Nat) (c' a' : Int), k ≤ 64 ∧ i = .int .i64 k ∧ Fld c' l a' d r ∧ 32 * a' + c' = (32 * a + c + k) % 64 ∧ B4 wr B0 ⟨V, T, X, false⟩ ∧ B4 wr R (fs c' l a' d r T X false) ∧ B4 wr D ⟨V, T, X, false⟩ ∧ Below B0 w wr) (fun i _ => 64 - (intOf i).toNat)
    case atStart =>
      have f1 := f.c
      have f2 := f.a
      refine ⟨0, c, a, by omega, rfl, f, by omega, hq, ?_, hqD, hB⟩
      unfold fs; rw [hV]; exact hqR
    case round =>
      clear hq hqR hqD hB
      obtain ⟨k, c', a', hk, rfl, g, hc, hq, hqR, hqD, hB⟩ := hrel
      by_cases h : k < 64
      · have t1 : (k : Int) < 64 := by omega
        obtain ⟨g1, g2, g3⟩ := rig_f (w := false) g hT hX
        have F4 := fun w => lyRight_any (enc c' l a' d r) T X false w
        rw [show rigL ⟨enc c' l a' d r, T, X, false⟩ = _ from g1] at F4
        rw [hc] at g3
        unfold fs at hqR F4
        unfold ls lv at F4
        clear g1 hc
        have c0 := hqR.c0
        have c1 := hqR.c1
        have c2 := hqR.c2
        have c3 := hqR.c3
        have cl := hqR.lt
        have cf := hqR.fz
        simp only at c0 c1 c2 c3
        generalize enc c' l a' d r = V1 at *
        generalize hV2 : enc (rc c') l (ra c' a') d r = V2 at *
        go_wp2_with (go_at_call 21; refine (F4 _).mono ?_; rintro e w2 ⟨rfl, os, q, rfl⟩)
        go_roundw
        case rel =>
          refine ⟨k + 1, rc c', ra c' a', by omega, by go_num, g2, ?_, (hq.put_other (s' := ⟨V2, T, X, false⟩) (by omega)).ext ⟨os, q, rfl⟩, ?_, (hqD.put_other (s' := ⟨V2, T, X, false⟩) (fun e => hRD e.symm)).ext ⟨os, q, rfl⟩, ?_⟩
          · rw [g3]; push_cast; omega
          · unfold fs; rw [hV2]; exact (hqR.put ⟨V2, T, X, false⟩).ext ⟨os, q, rfl⟩
          · exact ext_below (below_put4 hB (Nat.le_of_lt hR) ⟨V2, T, X, false⟩) (by rw [put4_size]; have := hq.lt; omega) os q
        case measure => simp [intOf]; omega
      · have : k = 64 := by omega
        subst this
        have f1 := f.c
        have f2 := f.a
        have f3 := g.c
        have f4 := g.a
        have e1 : c' = c := by omega
        have e2 : a' = a := by omega
        subst e1
        subst e2
        unfold fs at hqR
        rw [hV] at hqR
        clear g hc hk h f1 f2 f3 f4
        rw [show ((64 : Nat) : Int) = 64 from rfl]
        go_upto_region 10 with (fail)
        go_loopw [18] (fun i wr => ∃ (k : Nat) (l' d' r' : Int), k ≤ 480 ∧ i = .int .i64 k ∧ Fld c' l' a' d' r' ∧ (l < 30 → l' < 30 ∧ 240 * d' + 8 * l' + r' = (240 * d + 8 * l + r + k) % 480) ∧ B4 wr B0 ⟨V, T, X, false⟩ ∧ B4 wr R ⟨V, T, X, false⟩ ∧ B4 wr D (fs c' l' a' d' r' T X false) ∧ Below B0 w wr) (fun i _ => 480 - (intOf i).toNat)
        case atStart =>
          have f1 := f.l
          have f2 := f.d
          have f3 := f.r
          refine ⟨0, l, d, r, by omega, rfl, f, fun hl => ⟨hl, by omega⟩, hq, hqR, ?_, hB⟩
          unfold fs; rw [hV]; exact hqD
        case round =>
          clear hq hqR hqD hB
          obtain ⟨k, l', d', r', hk, rfl, g, hc, hq, hqR, hqD, hB⟩ := hrel
          by_cases h : k < 480
          · have t1 : (k : Int) < 480 := by omega
            obtain ⟨g1, g2, g3⟩ := dow_f (w := false) g hT hX
            have F4 := fun w => lyDown_any (enc c' l' a' d' r') T X false w
            rw [show dowL ⟨enc c' l' a' d' r', T, X, false⟩ = _ from g1] at F4
            unfold fs at hqD F4
            unfold ls lv at F4
            have c0 := hqD.c0
            have c1 := hqD.c1
            have c2 := hqD.c2
            have c3 := hqD.c3
            have cl := hqD.lt
            have cf := hqD.fz
            simp only at c0 c1 c2 c3
            have g4 : l < 30 → dl l' r' < 30 ∧ 240 * dd l' d' r' + 8 * dl l' r' + dr r' = (240 * d + 8 * l + r + (k + 1 : Nat)) % 480 := fun hl => by
              obtain ⟨p1, p2⟩ := hc hl
              obtain ⟨p3, p4⟩ := g3 p1
              exact ⟨p3, by rw [p4, p2]; push_cast; omega⟩
            have G4 : Hid (l < 30 → dl l' r' < 30 ∧ 240 * dd l' d' r' + 8 * dl l' r' + dr r' = (240 * d + 8 * l + r + (k + 1 : Nat)) % 480) := g4
            clear g1 hc g3 g4
            generalize enc c' l' a' d' r' = V1 at *
            generalize hV2 : enc c' (dl l' r') a' (dd l' d' r') (dr r') = V2 at *
            go_wp2_with (go_at_call 23; refine (F4 _).mono ?_; rintro e w2 ⟨rfl, os, q, rfl⟩)
            go_roundw
            case rel =>
              refine ⟨k + 1, dl l' r', dd l' d' r', dr r', by omega, by go_num, g2, G4.out, (hq.put_other (s' := ⟨V2, T, X, false⟩) (by omega)).ext ⟨os, q, rfl⟩, (hqR.put_other (s' := ⟨V2, T, X, false⟩) hRD).ext ⟨os, q, rfl⟩, ?_, ?_⟩
              · unfold fs; rw [hV2]; exact (hqD.put ⟨V2, T, X, false⟩).ext ⟨os, q, rfl⟩
              · exact ext_below (below_put4 hB (Nat.le_of_lt hD) ⟨V2, T, X, false⟩) (by rw [put4_size]; have := hq.lt; omega) os q
            case measure => simp [intOf]; omega
          · have : k = 480 := by omega
            subst this
            rw [show ((480 : Nat) : Int) = 480 from rfl]
            have f1 := f.l
            have f2 := f.d
            have f3 := f.r
            have f4 := g.l
            have f5 := g.d
            have f6 := g.r
            have hVD : ∃ VD, B4 wr D ⟨VD, T, X, false⟩ ∧ (l < 30 → VD = V) := by
              refine ⟨_, hqD, fun hl => ?_⟩
              obtain ⟨p1, p2⟩ := hc hl
              have e1 : l' = l := by omega
              have e2 : d' = d := by omega
              have e3 : r' = r := by omega
              rw [e1, e2, e3, hV]
            obtain ⟨VD, hqD, hl30⟩ := hVD
            have m1 := m31 (V / 32) (by omega)
            rw [← hV, f.is.2.2.1, hV] at m1
            have c0 := hq.c0
            have c1 := hq.c1
            have c2 := hq.c2
            have c3 := hq.c3
            have cl := hq.lt
            have d0 := hqD.c0
            have d1 := hqD.c1
            have d2 := hqD.c2
            have d3 := hqD.c3
            have dl := hqD.lt
            simp only at c0 c1 c2 c3 d0 d1 d2 d3
            clear g hc hk h f1 f2 f3 f4 f5 f6
            rcases (by by_cases e : l < 30; exact .inl e; exact .inr e : l < 30 ∨ ¬ l < 30) with e30 | e30
            all_goals
              first
                | (have hh : V = VD := (hl30 e30).symm; subst hh; clear hl30; go_upto_region 16 with (fail))
                | (clear hl30; go_upto_region 16 with (fail))
              clear c0 c1 c2 c3 cl d0 d1 d2 d3 dl hqD hD m1 e30
              go_loopw [33] (fun i wr => ∃ (k : Nat), k ≤ 64 ∧ i = .int .i64 k ∧ B4 wr B0 ⟨V, T, X, false⟩ ∧ B4 wr R ⟨V, T, X, false⟩ ∧ Below B0 w wr) (fun i _ => 64 - (intOf i).toNat)
              case atStart => exact ⟨0, by omega, rfl, hq, hqR, hB⟩
              case round =>
                clear hq hqR hB
                obtain ⟨k, hk, rfl, hq, hqR, hB⟩ := hrel
                have c0 := hq.c0
                have c1 := hq.c1
                have c2 := hq.c2
                have c3 := hq.c3
                have cl := hq.lt
                have d0 := hqR.c0
                have d1 := hqR.c1
                have d2 := hqR.c2
                have d3 := hqR.c3
                have dl := hqR.lt
                simp only at c0 c1 c2 c3 d0 d1 d2 d3
                by_cases h : k < 64
                · have t1 : (k : Int) < 64 := by omega
                  go_upto_region 20 with (fail)
                  have hqT : B4 _ _ ⟨V, T, X, false⟩ := B4.made wr ⟨V, T, X, false⟩ 24
                  have hq2 := hq.ext ((Ext.refl _).alloc (.cells #[.int .u16 V, .int .u16 T, .int .u8 X, .bool false] 24))
                  have hqR2 := hqR.ext ((Ext.refl _).alloc (.cells #[.int .u16 V, .int .u16 T, .int .u8 X, .bool false] 24))
                  have hB2 := hB.alloc (Nat.le_of_lt cl) (.cells #[.int .u16 V, .int .u16 T, .int .u8 X, .bool false] 24)
                  simp only at hqT
                  generalize wr.alloc (.cells #[.int .u16 V, .int .u16 T, .int .u8 X, .bool false] 24) = W2 at *
                  generalize wr.heap.size = TB at *
                  clear c0 c1 c2 c3 d0 d1 d2 d3 hq hqR hB
                  go_loopw [38] (fun i wr => ∃ (j : Nat) (c1 a1 : Int), j ≤ k ∧ i = .int .i64 j ∧ Fld c1 l a1 d r ∧ 32 * a1 + c1 = (32 * a' + c' + j) % 64 ∧ B4 wr B0 ⟨V, T, X, false⟩ ∧ B4 wr R ⟨V, T, X, false⟩ ∧ B4 wr TB (fs c1 l a1 d r T X false) ∧ Below B0 w wr) (fun i _ => k - (intOf i).toNat)
                  case atStart =>
                    have f1 := f.c
                    have f2 := f.a
                    refine ⟨0, c', a', by omega, rfl, f, by omega, hq2, hqR2, ?_, hB2⟩
                    unfold fs; rw [hV]; exact hqT
                  case round =>
                    clear hq2 hqR2 hqT hB2
                    obtain ⟨j, c1, a1, hj, rfl, g, hc, hq, hqR, hqT, hB⟩ := hrel
                    by_cases hjk : j < k
                    · have t2 : (j : Int) < k := by omega
                      obtain ⟨g1, g2, g3⟩ := rig_f (w := false) g hT hX
                      have F4 := fun w => lyRight_any (enc c1 l a1 d r) T X false w
                      rw [show rigL ⟨enc c1 l a1 d r, T, X, false⟩ = _ from g1] at F4
                      rw [hc] at g3
                      unfold fs at hqT F4
                      unfold ls lv at F4
                      clear g1 hc
                      have b0 := hqT.c0
                      have b1 := hqT.c1
                      have b2 := hqT.c2
                      have b3 := hqT.c3
                      have bl := hqT.lt
                      have bf := hqT.fz
                      simp only at b0 b1 b2 b3
                      generalize enc c1 l a1 d r = V1 at *
                      generalize hV2 : enc (rc c1) l (ra c1 a1) d r = V2 at *
                      go_wp2_with (go_at_call 21; refine (F4 _).mono ?_; rintro e w2 ⟨rfl, os, q, rfl⟩)
                      go_roundw
                      case rel =>
                        refine ⟨j + 1, rc c1, ra c1 a1, by omega, by go_num, g2, ?_, (hq.put_other (s' := ⟨V2, T, X, false⟩) (by omega)).ext ⟨os, q, rfl⟩, (hqR.put_other (s' := ⟨V2, T, X, false⟩) (by omega)).ext ⟨os, q, rfl⟩, ?_, ?_⟩
                        · rw [g3]; push_cast; omega
                        · unfold fs; rw [hV2]; exact (hqT.put ⟨V2, T, X, false⟩).ext ⟨os, q, rfl⟩
                        · exact ext_below (below_put4 hB (by omega) ⟨V2, T, X, false⟩) (by rw [put4_size]; have := hq.lt; omega) os q
                      case measure => simp [intOf]; omega
                    · have hjk2 : j = k := by omega
                      subst hjk2
                      have f1 := f.c
                      have f2 := f.a
                      have b0 := hqT.c0
                      have b1 := hqT.c1
                      have b2 := hqT.c2
                      have b3 := hqT.c3
                      have bl := hqT.lt
                      have c0 := hq.c0
                      have c1' := hq.c1
                      have c2 := hq.c2
                      have c3 := hq.c3
                      have cl := hq.lt
                      unfold fs at b0 b1 b2 b3
                      simp only at b0 b1 b2 b3 c0 c1' c2 c3
                      have key : j ≠ 0 → enc c1 l a1 d r ≠ V := fun hj0 he => by
                        obtain ⟨_, i2, _, i4, _, _⟩ := g.is
                        obtain ⟨_, k2, _, k4, _, _⟩ := f.is
                        rw [he, ← hV, k2] at i2
                        rw [he, ← hV, k4] at i4
                        omega
                      have key0 : j = 0 → enc c1 l a1 d r = V := fun hj0 => by
                        have g1 := g.c
                        have g2 := g.a
                        have e1 : c1 = c' := by omega
                        have e2 : a1 = a' := by omega
                        rw [e1, e2, hV]
                      generalize enc c1 l a1 d r = V1 at *
                      clear hc g hqT hjk f1 f2
                      rcases Nat.eq_zero_or_pos j with hj0 | hj0
                      · have hVV : V = V1 := (key0 hj0).symm
                        subst hVV
                        clear key key0
                        subst hj0
                        rw [show ((0 : Nat) : Int) = 0 from rfl]
                        go_wp2
                        go_roundw
                        case rel => exact ⟨1, by omega, by go_num, hq, hqR, hB⟩
                        case measure => simp [intOf]
                      · have hn := key (by omega)
                        have hn2 : (V1 == V) = false := by simpa using hn
                        have hn3 : decide (V1 = V) = false := by simpa using hn
                        clear key key0
                        go_wp2
                        go_roundw
                        case rel => exact ⟨j + 1, by omega, by go_num, hq, hqR, hB⟩
                        case measure => simp [intOf]; omega
                · go_wp2
                  go_ret
                  exact ⟨rfl, hB0 ▸ hB⟩

end Go.Proofs.Ytdbfdhfdfjdnoaa
