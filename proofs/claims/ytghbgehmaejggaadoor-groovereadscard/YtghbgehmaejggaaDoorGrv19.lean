/- The walk of GrooveReads. No law is claimed here. -/
import Derived.Test.YtghbgehmaejggaaDoorGrv18
import Derived.Test.YtghbgehmaejggaaDoorGrv16
namespace Go.Proofs.YtghbgehmaejggaaDoor
open Go.RowKit

theorem gRd_ok : ∀ (f : Nat) (p : List UInt8) (l : List Bm), l.length + f ≤ 512 → (∀ x ∈ l, x.data.length ≤ 100000) → (gRd f p l).1.length ≤ 512 ∧ ∀ x ∈ (gRd f p l).1, x.data.length ≤ 100000
  | 0, p, l, hl, hd => by rw [gRd]; exact ⟨by omega, hd⟩
  | f + 1, p, l, hl, hd => by
    rw [gRd]
    split
    · exact ⟨by show l.length ≤ 512; omega, hd⟩
    · split
      · exact ⟨by simp, fun x hx => by simp at hx⟩
      · split
        · exact ⟨by simp, fun x hx => by simp at hx⟩
        · refine gRd_ok f _ _ (by rw [List.length_append, List.length_singleton]; omega) (fun x hx => ?_)
          rcases List.mem_append.1 hx with h | h
          · exact hd x h
          · rw [List.mem_singleton.1 h]
            have := sizeN_lt l.length (ahead l l.length)
            simp only [List.length_take]
            unfold sizW
            omega
theorem mad7_two (fs : List (List UInt8)) : 2 ≤ (mad7 fs 0).length := by
  unfold mad7
  have h := diskN_len [75] 0 (fiBs fs fs.length) (fiBs_file _ _)
  rw [List.length_take]; omega
theorem gFull_gt (l : List Bm) (h : 2 ≤ l.length) : 3500 < gFull l := by
  have h1 := gAt_snoc l 0 (by omega)
  have h2 := gAt_mono l 1 l.length (by omega) (Nat.le_refl _)
  have h3 : gAt l 0 = 3500 := by simp [gAt]
  rw [Nat.zero_add] at h1
  unfold gRoom at h1; unfold gFull; omega

set_option maxRecDepth 100000 in
set_option maxHeartbeats 8000000 in
theorem grooveReads_walk (A : Option Addr) (n c : Nat) (xs : List UInt8) (Af : Option Addr) (nf cf : Nat) (fs : List (List UInt8)) (at2 lead : Int) (w : World)
    (hp : Rd bv w w.heap.size A n c xs) (hpc : c ≤ maxLen) (hr : RdX shS w (· < w.heap.size) Af nf cf fs) (hc : cf ≤ maxLen) (hd : ∀ p ∈ fs, p.length ≤ 9223372036854775807) (ha0 : 0 ≤ at2) (ha1 : at2 < 65536) (hl0 : 0 ≤ lead) (hl1 : lead < 256) :
    Calls Tryd.prog 3 #[.slice A n c, .slice Af nf cf, .int .u16 at2, .int .u8 lead] w fun e w' => e = .returned (.bool true) ∧ Below w.heap.size w w' := by
  have hnp : n ≤ 9223372036854775807 := by have := hp.cap; unfold maxLen at hpc; omega
  have hn : nf ≤ 9223372036854775807 := by have := hr.cap; unfold maxLen at hc; omega
  have HD2 := mad7_data fs 0
  have HL18 := mad7_len fs 0
  have HL2 := mad7_two fs
  have FM : ∀ v, Below w.heap.size w v → Calls Tryd.prog 8 #[.slice Af nf cf, .int .u8 0] v (RetB v (mad7 fs 0)) := fun (v : World) (hb : Below w.heap.size w v) => made7_any Af nf cf (· < w.heap.size) fs 0 v (hr.keep (Kp.below hb (fun b h => h)) (fun b h => h)) (fun b h => Nat.lt_of_lt_of_le h hb.size) hn hd (by omega) (by omega)
  generalize mad7 fs 0 = L at *
  have HD6 : Hid (∀ x ∈ L, x.data.length ≤ 60000) := fun x hx => by have := HD2 x hx; omega
  have hFu : gFull L ≤ 65536 := by have h := gAt_le2 L L.length HD2 (Nat.le_refl _); unfold gFull; omega
  have hFg := gFull_gt L HL2
  have hGl := grv_len L
  obtain ⟨K, hK⟩ : ∃ K : Nat, (3500 : Int) - lead = (K : Int) := ⟨(3500 - lead).toNat, by omega⟩
  have hK1 : K ≤ 3500 := by omega
  have hKw : IntKind.i64.wrap ((3500 : Int) - lead) = (K : Int) := by rw [hK]; exact IntWalk.i64_in _ (by omega)
  clear hr hd hn hc HD2 HL2
  go_enter Tryd.func3, Tryd.ntmps3
  go_upto_region 3 with (go_at_call 4; refine (awake7_any _).mono ?_; rintro e w0 ⟨rfl, x0⟩)
  go_wp2_with fail
  refine (FM _ x0).mono ?_
  rintro e w1 ⟨A1, n1, c1, rfl, r1, x1⟩
  have b1 := x0.trans (x1.mono x0.size)
  have hn1 : n1 ≤ 18 := by rw [← r1.len]; exact HL18
  go_wp2_with fail
  refine (own7_any A1 n1 c1 (· < w1.heap.size) L w1 r1 (fun b h => h) (by omega)).mono ?_
  rintro e w2 ⟨A2, n2, c2, rfl, r2, x2⟩
  have b2 := b1.trans (x2.mono b1.size)
  have hn2 : n2 ≤ 18 := by rw [← r2.len]; exact HL18
  go_wp2_with fail
  refine (rlay7_any A2 n2 c2 _ L w2 r2 (fun b h => h) (by omega) HD6).mono ?_
  rintro e w3 ⟨A3, n3, c3, rfl, o3, x3⟩
  have b3 := b2.trans (x3.mono b2.size)
  have hn3 : n3 = gFull L := by rw [← o3.len, hGl]
  have hn3a : 3500 < n3 := by omega
  have hn3b : n3 ≤ 65536 := by omega
  obtain ⟨g3, rfl⟩ := o3.zero (by omega)
  have p3 : RdE bv w3 (some ⟨g3, 0, none⟩) n3 c3 (grvN L) := o3.rd
  have hcap3 := Rd.cap p3
  have pd : RdE bv w3 (some ⟨g3, K, none⟩) (n3 - K) (c3 - K) ((grvN L).drop K) := by have h := Rd.drop p3 K (by omega); rw [Nat.zero_add] at h; exact h
  generalize (grvN L).drop K = Q at *
  clear hn3 hFu hFg hGl p3 o3 r1 r2 x1 x2 x3 b1 b2 x0 FM HD6 HL18
  have f1 : (K : Int) ≤ c3 := by omega
  have f2 : K ≤ c3 := by omega
  have f3 : ¬ (c3 = K) := by omega
  have f4 : (K : Int) ≤ n3 := by omega
  have f5 : K ≤ n3 := by omega
  have f6 : (0 : Int) ≤ (K : Int) := by omega
  go_wp2_with fail
  refine (join_one _ _ (some ⟨g3, K, none⟩) (n3 - K) (c3 - K) Q (RdE.svOne (by simp)) (RdE.alloc pd) (by omega)).mono ?_
  rintro e w4 ⟨A4, n4, c4, rfl, o4, x4⟩
  have b4 : Below w.heap.size w w4 := BlE.below (BlE.alloc b3) x4
  have hn4 : n4 = n3 - K := by rw [← o4.len]; exact Rd.len pd
  have hn4a : 0 < n4 := by omega
  have hn4b : n4 ≤ 65536 := by omega
  clear hn4
  obtain ⟨g4, rfl⟩ := o4.zero (by omega)
  have hbs := b3.size
  have o4w : Own bv w4 w.heap.size 5 (some ⟨g4, 0, none⟩) n4 c4 Q := o4.lower (by simp; omega)
  have hg4 := (o4w.lt g4 rfl)
  clear o4 x4 pd b3 hbs f1 f2 f3 f4 f5 f6 hcap3
  go_wp2_with fail
  refine (cut_any A n c w.heap.size xs 20 w4 (hp.belowLe b4 (Nat.le_refl _)) b4.size hnp (by omega) (by omega)).mono ?_
  rintro e w5 ⟨A5, n5, c5, rfl, o5, x5⟩
  have b5 : BlE w w5 := BlE.below b4 x5
  have o4v := o4w.below x5
  have hn5 : n5 ≤ 20 := by have := o5.len; rw [List.length_take] at this; omega
  have R5 : Rdp bv w5 (fun b => g4 < b ∧ b < w5.heap.size) A5 n5 c5 (xs.take (20 : Int).toNat) := o5.rdp.keep (Kp.refl _ _) (fun b h => ⟨by have := hg4.2; omega, h.2⟩)
  generalize xs.take (20 : Int).toNat = zs at *
  clear o5 x5 o4w b4
  go_wp2
  go_loopw [33] (fun i wr => ∃ (k : Nat) (ys : List UInt8), k ≤ n5 ∧ i = .int .i64 k ∧ Own bv wr w.heap.size 5 (some ⟨g4, 0, none⟩) n4 c4 ys ∧ Rdp bv wr (fun b => g4 < b ∧ b < wr.heap.size) A5 n5 c5 zs ∧ BlE w wr) (fun i _ => n5 - (intOf i).toNat)
  case atStart => exact ⟨0, Q, Nat.zero_le _, rfl, o4v, R5, b5⟩
  case round =>
    clear o4v R5 b5
    obtain ⟨k, ys, hk, rfl, o4v, R5, b5⟩ := hrel
    have hl5 := R5.len
    by_cases hlt : k < n5
    · have hkz : k < zs.length := by omega
      obtain ⟨b, off, rfl, hSb, hcb⟩ := R5.at_ k hkz
      generalize zs[k] = x at *
      unfold bv at hcb
      obtain ⟨j, hj⟩ : ∃ j : Nat, Int.tmod (at2 + (k : Int)) n4 = (j : Int) := ⟨(Int.tmod (at2 + (k : Int)) n4).toNat, by rw [Int.tmod_eq_emod_of_nonneg (by omega)]; have := Int.emod_nonneg (at2 + (k : Int)) (show (n4 : Int) ≠ 0 by omega); omega⟩
      have hj2 : j < n4 := by
        rw [Int.tmod_eq_emod_of_nonneg (by omega)] at hj
        have := Int.emod_lt_of_pos (at2 + (k : Int)) (show (0 : Int) < n4 by omega); omega
      have hj3 : (j : Int) < n4 := by omega
      have hjw : IntKind.i64.wrap (j : Int) = (j : Int) := IntWalk.i64_in _ (by omega)
      have hne : ¬ ((n4 : Int) = 0) := by omega
      have hfz := o4v.frozen j
      have hyl : j < ys.length := by rw [o4v.len]; exact hj2
      have hcy := Own.cellAt o4v (List.getElem?_eq_getElem hyl)
      unfold bv at hcy
      have hg4b := (o4v.lt g4 rfl).2
      go_wp2
      go_roundw
      case rel =>
        exact ⟨k + 1, ys.set j x, by omega, by go_num, o4v.stored j x, R5.keep (Kp.setCell (fun b h => by show b ≠ g4; have := h.1; omega) _) (fun b h => by simpa using h), Below.setCell b5 (by show _ ≤ g4; exact hg4.1) _⟩
      case measure => simp [intOf]; omega
    · obtain ⟨j, hj⟩ : ∃ j : Nat, Int.tmod at2 n4 = (j : Int) := ⟨(Int.tmod at2 n4).toNat, by rw [Int.tmod_eq_emod_of_nonneg (by omega)]; have := Int.emod_nonneg at2 (show (n4 : Int) ≠ 0 by omega); omega⟩
      have hj2 : j < n4 := by
        rw [Int.tmod_eq_emod_of_nonneg (by omega)] at hj
        have := Int.emod_lt_of_pos at2 (show (0 : Int) < n4 by omega); omega
      have hj3 : (j : Int) < n4 := by omega
      have hjw : IntKind.i64.wrap (j : Int) = (j : Int) := IntWalk.i64_in _ (by omega)
      have hne : ¬ ((n4 : Int) = 0) := by omega
      have hne2 : ¬ (n4 = 0) := by omega
      have hne3 : ((n4 : Int) == 0) = false := by rw [beq_eq_false_iff_ne]; omega
      have qE : RdE bv wr (some ⟨g4, 0, none⟩) n4 c4 ys := o4v.rd
      have hcq := Rd.cap qE
      have pE : RdE bv wr A n c xs := RdE.of (hp.belowLe b5 (Nat.le_refl _)) (BlE.sz b5)
      have h1 : (j : Int) ≤ c4 := by omega
      have h2 : j ≤ c4 := by omega
      have h3 : (0 : Int) ≤ (j : Int) := by omega
      have h4 : ¬ (c4 = 0) := by omega
      have h5 : 0 < c4 := by omega
      have h6 : IntKind.i64.wrap at2 = at2 := IntWalk.i64_in _ (by omega)
      have h7 : IntKind.i64.wrap (Int.tmod at2 n4) = (j : Int) := by rw [hj]; exact hjw
      have HC := fun (v : World) (h : RdE bv v A n c xs) => cut_any A n c v.heap.size xs 100 v h (Nat.le_refl _) hnp (by omega) (by omega)
      clear o4v R5 hl5
      go_upto_region 9 with fail
      go_cut [59, 60, 61] (fun v u i wx => ∃ g9 : Nat, v = .slice (some ⟨g9, 0, none⟩) 3 3 ∧ u = .int .i64 3 ∧ i = .int .i64 0 ∧ RdX shS wx (· < wx.heap.size) (some ⟨g9, 0, none⟩) 3 3 [ys, xs.take 100, ys.take j] ∧ BlE w wx)
      case first =>
        go_region_held3 (fun _ => True) (exact trivial)
          (first
          | (go_at_call 9; (refine (HC _ ?_).mono ?_); (focus ((repeat (with_reducible first | exact pE | refine RdE.drew ?_ | refine RdE.alloc ?_)); done)); (rintro e wC ⟨A7, n7, c7, rfl, oC, hbC⟩)))
        all_goals
          have qC : RdE bv wC (some ⟨g4, 0, none⟩) n4 c4 ys := RdE.below (RdE.drew qE) hbC
          have bC : BlE w wC := BlE.below (BlE.drew b5) hbC
          go_wp2
          go_meet
          case rel =>
            refine ⟨wC.heap.size, rfl, rfl, rfl, RdX.madeX shS wC 22 (0, 0) _ [(some ⟨g4, 0, none⟩, n4, c4), (A7, n7, c7), (some ⟨g4, 0, none⟩, j, c4)] _ wC.heap.size 3 _ rfl rfl rfl rfl (by simp) ?_, BlE.alloc bC⟩
            intro jj r x hr hx
            match jj, hr, hx with
            | 0, hr, hx => simp at hr hx; subst hr; subst hx; exact (RdE.alloc qC).rdp
            | 1, hr, hx => simp at hr hx; subst hr; subst hx; exact (RdE.alloc (RdE.own oC)).rdp
            | 2, hr, hx => simp at hr hx; subst hr; subst hx; exact (RdE.alloc (show RdE bv wC _ j c4 (ys.take j) from Rd.take qC j (by omega))).rdp
      case rest =>
        obtain ⟨g9, rfl, rfl, rfl, r9, b9⟩ := hcut
        have hyl := Rd.len qE
        have hl3 : ∀ x ∈ [ys, xs.take 100, ys.take j], x.length ≤ 65536 := fun x hx => by
          simp only [List.mem_cons, List.not_mem_nil, or_false] at hx
          rcases hx with rfl | rfl | rfl
          · omega
          · rw [List.length_take]; omega
          · rw [List.length_take]; omega
        clear HC pE hcq qE b5 h1 h2 h3 hjw hyl
        generalize [ys, xs.take 100, ys.take j] = l3 at *
        have H3 := Lib.hid hl3
        clear hl3
        go_wp2
        go_loopw [61] (fun i wx => ∃ k : Nat, k ≤ 3 ∧ i = .int .i64 k ∧ RdX shS wx (· < wx.heap.size) (some ⟨g9, 0, none⟩) 3 3 l3 ∧ BlE w wx) (fun i _ => 3 - (intOf i).toNat)
        case atStart => exact ⟨0, by omega, rfl, r9, b9⟩
        case round =>
          clear r9 b9
          obtain ⟨k9, hk9, rfl, r9, b9⟩ := hrel
          by_cases hlt9 : k9 < 3
          · have hkl : k9 < l3.length := by rw [r9.len]; exact hlt9
            obtain ⟨b, off, A6, n6, c6, e6, hSb, hcell, hrd⟩ := rdS_at r9 k9 hkl
            obtain ⟨rfl, rfl⟩ : g9 = b ∧ 0 = off := by injection e6 with e6; injection e6 with h1 h2; exact ⟨h1, h2⟩
            rw [Nat.zero_add] at hcell
            have hx := H3.out _ (List.getElem_mem hkl)
            generalize l3[k9] = x at *
            have rE := hrd.rd (B := _) (fun b h => h)
            have hn6 : n6 ≤ 65536 := by rw [← Rd.len rE]; exact hx
            have F1 := read_any A6 n6 c6 _ x _ rE (Nat.le_refl _) (by omega)
            have HO := gRd_ok 512 x [] (by simp) (by simp)
            have F2 := fun (v : World) (h : RdE bv v A6 n6 c6 x) => rread7_any A6 n6 c6 v.heap.size x v h (Nat.le_refl _) (by omega)
            generalize gRd 512 x [] = ans at *
            obtain ⟨al, ae⟩ := ans
            have hal := HO.1
            have HOD : Hid (∀ x ∈ al, x.data.length ≤ 9223372036854775807) := fun y hy => by have := HO.2 y hy; omega
            have hae : ((ae : Int) != (ae : Int)) = false := by simp
            try simp only at hal
            clear HO hrd
            go_upto_region 13 with (go_at_call 10; refine F1.mono ?_; rintro e v1 ⟨B1, m1, d1, rfl, s1, y1⟩)
            have c1' := BlE.below b9 y1
            have r91 := r9.keep (Kp.below y1 (fun b h => h)) (fun b h => Nat.lt_of_lt_of_le h y1.size)
            have F3 := F2 v1 (RdE.below rE y1)
            go_upto_region 14 with (go_at_call 11; refine F3.mono ?_; rintro e v2 ⟨B2, m2, d2, rfl, s2, y2⟩)
            have c2' := BlE.below c1' y2
            have r92 := r91.keep (Kp.below y2 (fun b h => h)) (fun b h => Nat.lt_of_lt_of_le h y2.size)
            have s12 := s1.keep (Kp.below y2 (fun b h => h)) (fun b h => Nat.lt_of_lt_of_le h y2.size)
            have hm1 : m1 ≤ 512 := by rw [← s1.len]; exact hal
            try simp only at s12 s2
            clear F1 F2 F3 s1 r9 r91 c1' b9 rE
            go_wp2_with fail
            refine (own7_any B1 m1 d1 (· < v2.heap.size) al v2 s12 (fun b h => h) (by omega)).mono ?_
            rintro e v3 ⟨B3, m3, d3, rfl, s3, y3⟩
            have hm3 : m3 ≤ 512 := by rw [← s3.len]; exact hal
            have c3' := BlE.below c2' y3
            have r93 := r92.keep (Kp.below y3 (fun b h => h)) (fun b h => Nat.lt_of_lt_of_le h y3.size)
            have s23 := s2.keep (Kp.below y3 (fun b h => h)) (fun b h => Nat.lt_of_lt_of_le h y3.size)
            go_wp2_with fail
            refine (same5_yes B3 B2 m3 d3 m2 d2 _ _ al v3 s3 s23 (by omega) HOD).mono ?_
            rintro e v4 ⟨rfl, hs4⟩
            have c4' := BlE.below c3' (hs4.below _)
            have r94 := r93.keep (Kp.below (hs4.below _) (fun b h => h)) (fun b h => Nat.lt_of_lt_of_le h (hs4.below 0).size)
            go_wp2
            go_roundw
            case rel => exact ⟨k9 + 1, by omega, by go_num, r94, c4'⟩
            case measure => simp [intOf]; omega
          · go_wp2
            go_ret
            exact ⟨rfl, b9⟩

end Go.Proofs.YtghbgehmaejggaaDoor
