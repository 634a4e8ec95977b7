/- The walk of the law ScrollCuts. -/
import Derived.Test.YtkmjndmanpanbaaFrameS
import Derived.Test.YtkmjndmanpanbaaScrL1
namespace Go.Proofs.Ytkmjndmanpanbaa
open Go.RowKit

theorem Try.inforGt : (Try.prog.info? 38).map (fun i => (i.zero, i.size, i.bytes)) = some (some (.agg #[.int .u32 0, .slice none 0 0]), 2, 32) := by kernel_rfl

set_option maxRecDepth 100000 in
set_option maxHeartbeats 8000000 in
theorem scrollCuts_walk (A : Option Addr) (n c : Nat) (wss : List (List Wm)) (z : Int) (w : World) (hr0 : RdX shL w (· < w.heap.size) A n c wss) (hc : c ≤ maxLen) (hq : ∀ ws ∈ wss, plL ws) (hz : 0 ≤ z) (hz2 : z < 65536) :
    Calls Try.prog 5 #[.slice A n c, .int .u16 z] w fun e w' => e = .returned (.bool true) ∧ Below w.heap.size w w' := by
  have hn : n ≤ 9223372036854775807 := by have := hr0.cap; unfold maxLen at hc; omega
  have HL := Lib.hid hr0.len
  have HQ := Lib.hid hq
  clear hq
  obtain ⟨i0, hi, hz0, hz1, hzb⟩ := info_parts Try.inforGt
  obtain ⟨j0, hj, hy0, hy1, hyb⟩ := info_parts Try.infoInt
  go_enter Try.func5, Try.ntmps5
  go_wp2_with fail
  refine (awake3_any _).mono ?_
  rintro e w1 ⟨rfl, hb1⟩
  go_wp2_with fail
  go_loopw [5, 6, 7, 21] (fun vp vw ve i wr => ∃ (k : Nat) (Ap : Option Addr) (np cp : Nat) (Aw : Option Addr) (nw cw : Nat) (rsw : List RawG) (Ae : Option Addr) (ce : Nat) (rse : List Int), k ≤ n ∧ nw ≤ 5 ∧ np ≤ nw * 800 ∧ i = .int .i64 k ∧ vp = .slice Ap np cp ∧ vw = .slice Aw nw cw ∧ ve = .slice Ae nw ce ∧
      Pr (shG .i64 .i64) shI wr w.heap.size 38 3 Aw nw cw rsw (cutG (wss.take k)) Ae nw ce rse (endsL (cutG (wss.take k))) ∧ Rdp bv wr (SE wr Aw Ae) Ap np cp (catF (allC (cutG (wss.take k)))) ∧ Below w.heap.size w wr)
    (fun _ _ _ i _ => n - (intOf i).toNat)
  case atStart => exact ⟨0, none, 0, 0, none, 0, 0, [], none, 0, [], Nat.zero_le _, Nat.zero_le _, Nat.zero_le _, rfl, rfl, rfl, rfl, Pr.empty _ _ _ _ _ _, Rdp.nil, hb1⟩
  case round =>
    obtain ⟨k, Ap, np, cp, Aw, nw, cw, rsw, Ae, ce, rse, hk, hnw, hnp, rfl, rfl, rfl, rfl, hpr, hrp, hb⟩ := hrel
    have hsz := hb.size
    by_cases hlt : k < n
    · have hkx : k < wss.length := by rw [HL.out]; exact hlt
      obtain ⟨b, off, A3, n3, c3, rfl, hSb, hc0, hrw⟩ := rdL_at (hr0.keep (Kp.below hb (fun b h => h)) (fun _ h => h)) k hkx
      have hqk := HQ.out wss[k] (List.getElem_mem hkx)
      have HY := Lib.hid (cutG_yes wss k hkx)
      have HN := Lib.hid (cutG_no wss k hkx)
      have hl3 := hrw.len
      generalize wss[k] = ws at *
      have hn3 : n3 ≤ 9223372036854775807 := by have := hqk.2; omega
      have FF := few_fit A3 n3 c3 _ ws wr hrw (fun b h => by omega) hn3 (fun x hx => ⟨(hqk.1 x hx).1, (hqk.1 x hx).2.1⟩) (fun x hx => (hqk.1 x hx).2.2)
      clear hl3 hqk
      go_wp2_with fail
      refine FF.mono ?_
      rintro e w2 ⟨A4, n4, c4, rs4, A5, c5, rs5, rfl, htw, hb2⟩
      have hs2 := hb2.size
      have hpr2 := hpr.after hb2
      have hrp2 : Rdp bv w2 (SE w2 Aw Ae) Ap np cp (catF (allC (cutG (wss.take k)))) := hrp.keep (Kp.below hb2 (fun b h => h.1)) (fun b h => ⟨by have := h.1; omega, h.2⟩)
      have bel2 := hb.trans (hb2.mono hsz)
      have hl4 : n4 ≤ 8 := by have := htw.one.len; rw [fewN_len] at this; omega
      have HL4 := Lib.hid htw.one.len
      have hofA : ∀ b, wr.heap.size ≤ b → Off Aw b ∧ Off Ae b := fun b h => ⟨hpr.one.off h, hpr.two.off h⟩
      clear FF hrp hpr
      by_cases h5 : k < 5 ∧ 0 < n4
      · obtain ⟨h5, h4⟩ := h5
        have t1 : (k : Int) < 5 := by omega
        have t2 : (0 : Int) < n4 := by omega
        have hne : fewN true ws ≠ [] := fun e => by have := HL4.out; rw [e] at this; simp at this; omega
        have HT := Lib.hid (HY.out h5 hne)
        clear HY HN hne
        have BY := bytes_any k A4 n4 c4 (· < w2.heap.size) (fewN true ws) w2 (htw.one.rd (fun b h => h.2.1) (fun b h => (htw.one.lt b h).2)) (fun b h => h) (by omega) (by omega) (by omega)
          (fun x hx => by have h1 := okW_few ws x hx; have h2 := okW_lt h1.1; exact ⟨h1.1.2, by omega, by omega⟩)
        rw [Int.toNat_natCast] at BY
        go_wp2_with fail
        refine BY.mono ?_
        rintro e w3 ⟨A6, n6, c6, rfl, r6, hb3⟩
        have hs3 := hb3.size
        have hn6 : n6 ≤ 9 := by have h1 := r6.len; have h2 := HL4.out; simp [bytesN, recsN_len] at h1; omega
        have hfl := flen_few k ws
        have HQF : Hid ((bytesN k (fewN true ws)).flatten = catF (gcs k (fewN true ws))) := by show _ = _; rw [bytes_gcs]; rfl
        have JX := join_x A6 n6 c6 _ _ w3 r6 (fun b h => h.2) (by omega) (by rw [HQF.out, catF_len]; omega)
        rw [HQF.out] at JX
        go_wp2_with fail
        refine JX.mono ?_
        rintro e w4 ⟨A7, n7, c7, rfl, r7, hb4⟩
        have hs4 := hb4.size
        have hn7 : n7 ≤ 800 := by rw [← r7.len, catF_len]; exact hfl
        have b24 : Below w2.heap.size w2 w4 := hb3.trans (hb4.mono hs3)
        have hrp4 : Rdp bv w4 (SE w4 Aw Ae) Ap np cp (catF (allC (cutG (wss.take k)))) := hrp2.keep (Kp.below b24 (fun b h => h.1)) (fun b h => ⟨by have := h.1; omega, h.2⟩)
        have hpr4 := hpr2.after b24
        go_wp2_with fail
        refine (join2_any w4 _ Ap A7 np cp n7 c7 w4.heap.size _ _ rfl (hrp4.rd (fun b h => h.1)) r7.rd (Nat.le_refl _) (by omega)).mono ?_
        rintro e w5 ⟨A8, n8, c8, rfl, r8, hb5⟩
        have hs5 := hb5.size
        have HC : Hid (catF (allC (cutG (wss.take k))) ++ catF (gcs k (fewN true ws)) = catF (allC (cutG (wss.take k) ++ [⟨(k : Int), fewN true ws⟩]))) := by
          show _ = _; rw [allC_append, catF_append]; simp [allC]
        rw [HC.out] at r8
        have HN8 : Hid ((n8 : Int) = ((flen (allC (cutG (wss.take k) ++ [⟨(k : Int), fewN true ws⟩])) : Nat) : Int)) := by show _ = _; rw [← r8.len, catF_len]
        have hn8 : n8 ≤ np + 800 := by have h1 := r8.len; rw [← HC.out, List.length_append, hrp4.len, r7.len] at h1; omega
        have hpr5 := hpr4.after hb5
        have b25 : Below w2.heap.size w2 w5 := b24.trans (hb5.mono (by omega))
        have bel5 := bel2.trans (b25.mono (by omega))
        have hofA5 : ∀ b, wr.heap.size ≤ b → b < w5.heap.size → SE w5 Aw Ae b := fun b h1 h2 => ⟨h2, hofA b h1⟩
        have rp5 : Rdp bv w5 (SE w5 Aw Ae) A8 n8 c8 (catF (allC (cutG (wss.take k) ++ [⟨(k : Int), fewN true ws⟩]))) := r8.rdp.keep (Kp.refl _ _) (fun b h => hofA5 b (by have := h.1; omega) h.2)
        have rb5 : RdX (shW .i64 .i64) w5 (SE w5 Aw Ae) A5 n4 c5 (fewN true ws) := by
          have h1 := htw.two.rd (S' := fun b => wr.heap.size ≤ b ∧ b < w2.heap.size) (fun b h => ⟨h.1, h.2.1⟩) (fun b h => htw.two.lt b h)
          rw [few_ref] at h1
          exact h1.keep (Kp.below b25 (fun b h => h.2)) (fun b h => hofA5 b h.1 (by have := h.2; omega))
        have hbase5 : w.heap.size ≤ w5.heap.size := by omega
        clear BY JX hrp2 hpr2 hrp4 hpr4 r6 r7 r8 hofA hofA5 htw
        generalize hP : catF (allC (cutG (wss.take k) ++ [⟨(k : Int), fewN true ws⟩])) = P at rp5
        have HP := Lib.hid hP
        clear hP
        go_wp2_with (first
          | (at_builtin
             refine wpList_push (shG .i64 .i64) _ rfl (.tmp 47) (.tmp 52) 26 rfl w.heap.size 38 i0 _ 32 Try.underlying26 hi hz0 hz1 hzb rfl _ Aw nw cw rsw _ rfl hpr5.one _ _ _ _ _ ⟨(k : Int), A5, n4, c5⟩ ⟨(k : Int), fewN true ws⟩ rfl rfl rfl ⟨rfl, rb5⟩ (fun b h => ⟨h.1, h.2.1⟩) (by simp only [maxLen]; omega) (by omega) hbase5 ?_
             intro g6 c6' w6 hown6 hg6 hat6 hlt6
             have hpr6 := hpr5.push1 hown6 hg6 hat6
             have rp6 := rp5.keep (Pr.kp1 hg6) (Pr.sub1 hat6 hg6.size)
             have hbase6 : w.heap.size ≤ w6.heap.size := by have := hg6.size; omega
             have bel6 := bel5.grown hg6 hbase5 (fun j hj' => (hpr5.one.lt j hj').1))
          | (at_builtin
             refine wpList_push shI _ rfl (.tmp 54) (.tmp 57) 54 rfl w.heap.size 3 j0 _ 8 Try.underlying54 hj hy0 hy1 hyb rfl _ Ae nw ce rse _ rfl hpr6.two _ _ _ _ _ (n8 : Int) (n8 : Int) rfl rfl rfl rfl (fun b h => ⟨h.1, h.2.2⟩) (by simp only [maxLen]; omega) (by omega) hbase6 ?_
             intro g7 c7' w7 hown7 hg7 hat7 hlt7
             have hpr7 := hpr6.push2 hown7 hg7 hat7
             have rp7 := rp6.keep (Pr.kp2 hg7) (Pr.sub2 hat7 hg7.size)
             have bel7 := bel6.grown hg7 hbase6 (fun j hj' => (hpr6.two.lt j hj').1)))
        have hnw5 : nw + 1 ≤ 5 := by
          have h1 := cutG_len (wss.take (k + 1))
          rw [HT.out, List.length_append, hpr5.one.len] at h1
          exact h1
        go_roundw
        case rel =>
          refine ⟨k + 1, A8, n8, c8, _, nw + 1, c6', rsw ++ [⟨(k : Int), A5, n4, c5⟩], _, c7', rse ++ [(n8 : Int)], by omega, hnw5, by omega, by go_num, rfl, rfl, rfl, ?_, ?_, bel7⟩
          · rw [HT.out, endsL_snoc, ← HN8.out]; exact hpr7
          · rw [HT.out, HP.out]; exact rp7
        case measure => simp [intOf]; omega
      · have HT : Hid (cutG (wss.take (k + 1)) = cutG (wss.take k)) := HN.out (by
          rcases Nat.lt_or_ge k 5 with h | h
          · right
            have : n4 = 0 := by omega
            exact List.eq_nil_of_length_eq_zero (by rw [HL4.out]; exact this)
          · left; omega)
        clear HY HN
        rcases Nat.lt_or_ge k 5 with h | h
        · have t1 : (k : Int) < 5 := by omega
          have t2 : decide ((0 : Int) < n4) = false := by simp; omega
          go_wp2
          go_roundw
          case rel =>
            refine ⟨k + 1, Ap, np, cp, Aw, nw, cw, rsw, Ae, ce, rse, by omega, hnw, hnp, by go_num, rfl, rfl, rfl, ?_, ?_, bel2⟩
            · rw [HT.out]; exact hpr2
            · rw [HT.out]; exact hrp2
          case measure => simp [intOf]; omega
        · have t1 : decide ((k : Int) < 5) = false := by simp; omega
          go_wp2
          go_roundw
          case rel =>
            refine ⟨k + 1, Ap, np, cp, Aw, nw, cw, rsw, Ae, ce, rse, by omega, hnw, hnp, by go_num, rfl, rfl, rfl, ?_, ?_, bel2⟩
            · rw [HT.out]; exact hpr2
            · rw [HT.out]; exact hrp2
          case measure => simp [intOf]; omega
    · have hkn : wss.take k = wss := List.take_of_length_le (by rw [HL.out]; omega)
      rw [hkn] at hpr hrp
      have hokG := okG_cut wss
      have hlw := hpr.one.len
      have hle := hpr.two.len
      have hlp := hrp.len
      rw [catF_len] at hlp
      obtain ⟨K, HK, hK⟩ : ∃ K : Nat, Hid (z % ((np : Int) + 1) = (K : Int)) ∧ K ≤ np :=
        ⟨(z % ((np : Int) + 1)).toNat, by show _ = _; have := Int.emod_nonneg z (show (np : Int) + 1 ≠ 0 by omega); omega, by have := Int.emod_lt_of_pos z (show (0 : Int) < (np : Int) + 1 by omega); have := Int.emod_nonneg z (show (np : Int) + 1 ≠ 0 by omega); omega⟩
      obtain ⟨m, hm1, hm2, hm3, hm4⟩ := readL_cut (cutG wss) K hokG (by omega)
      have hends : ∀ j, (h : j < (endsL (cutG wss)).length) → (endsL (cutG wss))[j] = ((flen (allC ((cutG wss).take (j + 1))) : Nat) : Int) := endsL_get (cutG wss)
      have re : RdX shI wr (· < wr.heap.size) Ae nw ce (endsL (cutG wss)) := hpr.two.rd (fun b h => h.1) (fun b h => (hpr.two.lt b h).2)
      have rg : RdX (shG .i64 .i64) wr (· < wr.heap.size) Aw nw cw (cutG wss) := hpr.one.rd (fun b h => h.1) (fun b h => (hpr.one.lt b h).2)
      have HRL := Lib.hid hm4
      have hmw : m ≤ nw := by omega
      have hcw := rg.cap
      have hcp := hrp.cap
      generalize cutG wss = gl at *
      generalize endsL gl = el at *
      have HM2 := Lib.hid hm2
      have HM3 := Lib.hid hm3
      have HE := Lib.hid hends
      have HLE := Lib.hid hle
      have HLW := Lib.hid hlw
      have HOK := Lib.hid hokG
      clear hm2 hm3 hm4 hends hkn hokG hlw hle hlp hpr hm1
      have tz : 0 ≤ z := hz
      go_wp2_with fail
      rw [HK.out]
      go_loop [13] (fun i => ∃ (j : Nat), j ≤ m ∧ i = .int .i64 j) (fun i => nw - (intOf i).toNat)
      case atStart => exact ⟨0, Nat.zero_le _, rfl⟩
      case round =>
        obtain ⟨j, hj, rfl⟩ := hrel
        by_cases hjm : j < m
        · have hjn : j < nw := by omega
          have hje : j < el.length := by rw [HLE.out]; exact hjn
          obtain ⟨eb, eo, rfl, _, hec⟩ := rdI_at re j hje
          have t1 : (j : Int) < nw := by omega
          have hv := HE.out j hje
          have t2 : el[j] ≤ (K : Int) := by rw [hv]; have := HM2.out j hjm; omega
          generalize el[j] = v at *
          clear hv
          go_wp2
          go_round
          case rel => exact ⟨j + 1, by omega, by go_num⟩
          case measure => simp [intOf]; omega
        · obtain rfl : j = m := by omega
          have RD := read_any Ap K cp wr.heap.size _ wr ((hrp.rd (fun b h => h.1)).take K hK) (Nat.le_refl _) (by omega)
          rw [HRL.out] at RD
          by_cases hjn : j < nw
          · have hje : j < el.length := by rw [HLE.out]; exact hjn
            obtain ⟨eb, eo, rfl, hebS, hec⟩ := rdI_at re j hje
            have t1 : (j : Int) < nw := by omega
            have hv := HE.out j hje
            have t2 : ¬ el[j] ≤ (K : Int) := by rw [hv]; have := HM3.out (by rw [HLW.out]; exact hjn); omega
            have t2' : decide (el[j] ≤ (K : Int)) = false := by simpa using t2
            generalize el[j] = v at *
            clear hv
            have tk : (K : Int) ≤ cp := by omega
            have tk' : K ≤ cp := by omega
            have tj : (j : Int) ≤ cw := by omega
            have tj' : j ≤ cw := by omega
            by_cases hj0 : j = 0
            · subst hj0
              rw [Nat.add_zero] at hec
              rw [if_pos rfl] at RD
              go_wp2_with fail
              refine RD.mono ?_
              rintro e w9 ⟨A9, n9, c9, rfl, r9, hb9⟩
              have hs9 := hb9.size
              have hn9 : n9 ≤ 5 := by rw [← r9.len]; simp
              have SY := same3_yes A9 Aw n9 c9 0 cw _ _ _ w9 r9 ((rg.take 0 (Nat.zero_le _)).keep (Kp.below hb9 (fun b h => h)) (fun _ h => h)) (fun b h => h) (fun b h => by omega) (by omega) (fun g hg => by simp at hg)
              go_wp2_with (go_at_call 16; refine SY.mono ?_; rintro e w10 ⟨rfl, hb10⟩)
              go_ret
              exact ⟨rfl, (hb.trans (hb9.mono hsz)).trans (hb10.mono (by omega))⟩
            · have hi : j - 1 < el.length := by rw [HLE.out]; omega
              have hv1 := HE.out (j - 1) hi
              obtain ⟨fb, fo, hfe, hfS, hfc⟩ := rdI_at re (j - 1) hi
              rw [hv1, show j - 1 + 1 = j from by omega] at hfc
              rw [if_neg hj0] at RD
              injection hfe with hfe; injection hfe with hf1 hf2; subst hf1; subst hf2
              generalize flen (allC (gl.take j)) = F at *
              have HFE := Lib.hid hv1
              have x1 : ((j : Int) - 1).toNat = j - 1 := by omega
              have x2 : (0 : Int) ≤ (j : Int) - 1 := by omega
              have x3 : (1 : Int) ≤ (j : Int) := by omega
              have x4 : (j : Int) - 1 < nw := by omega
              have x5 : ((j : Int) == 0) = false := by rw [beq_eq_false_iff_ne]; omega
              have x6 : (0 : Int) < j := by omega
              have x7 : ((F : Int) == (F : Int)) = true := by simp
              clear hv1 hj0
              go_wp2_with fail
              refine RD.mono ?_
              rintro e w9 ⟨A9, n9, c9, rfl, r9, hb9⟩
              have hs9 := hb9.size
              have hn9 : n9 ≤ 5 := by rw [← r9.len]; simp; omega
              have SY := same3_yes A9 Aw n9 c9 j cw _ _ _ w9 r9 ((rg.take j hmw).keep (Kp.below hb9 (fun b h => h)) (fun _ h => h)) (fun b h => h) (fun b h => by omega) (by omega) (fun g hg => okG_okS (HOK.out g (List.mem_of_mem_take hg)))
              go_wp2_with (go_at_call 16; refine SY.mono ?_; rintro e w10 ⟨rfl, hb10⟩; have hfc' : w10.cell? ⟨eb, eo + (j - 1), none⟩ = some (.int .i64 (F : Int)) := (hb10.cell (p := ⟨eb, eo + (j - 1), none⟩) (Nat.lt_of_lt_of_le hfS hs9)).trans ((hb9.cell (p := ⟨eb, eo + (j - 1), none⟩) hfS).trans hfc))
              go_ret
              exact ⟨rfl, (hb.trans (hb9.mono hsz)).trans (hb10.mono (by omega))⟩
          · have t1 : decide ((j : Int) < nw) = false := by simp; omega
            have tk : (K : Int) ≤ cp := by omega
            have tk' : K ≤ cp := by omega
            have tj : (j : Int) ≤ cw := by omega
            have tj' : j ≤ cw := by omega
            by_cases hj0 : j = 0
            · subst hj0
              rw [if_pos rfl] at RD
              go_wp2_with fail
              refine RD.mono ?_
              rintro e w9 ⟨A9, n9, c9, rfl, r9, hb9⟩
              have hs9 := hb9.size
              have hn9 : n9 ≤ 5 := by rw [← r9.len]; simp
              have SY := same3_yes A9 Aw n9 c9 0 cw _ _ _ w9 r9 ((rg.take 0 (Nat.zero_le _)).keep (Kp.below hb9 (fun b h => h)) (fun _ h => h)) (fun b h => h) (fun b h => by omega) (by omega) (fun g hg => by simp at hg)
              go_wp2_with (go_at_call 16; refine SY.mono ?_; rintro e w10 ⟨rfl, hb10⟩)
              go_ret
              exact ⟨rfl, (hb.trans (hb9.mono hsz)).trans (hb10.mono (by omega))⟩
            · have hi : j - 1 < el.length := by rw [HLE.out]; omega
              have hv1 := HE.out (j - 1) hi
              obtain ⟨fb, fo, hfe, hfS, hfc⟩ := rdI_at re (j - 1) hi
              rw [hv1, show j - 1 + 1 = j from by omega] at hfc
              rw [if_neg hj0] at RD
              subst hfe
              generalize flen (allC (gl.take j)) = F at *
              have HFE := Lib.hid hv1
              have x1 : ((j : Int) - 1).toNat = j - 1 := by omega
              have x2 : (0 : Int) ≤ (j : Int) - 1 := by omega
              have x3 : (1 : Int) ≤ (j : Int) := by omega
              have x4 : (j : Int) - 1 < nw := by omega
              have x5 : ((j : Int) == 0) = false := by rw [beq_eq_false_iff_ne]; omega
              have x6 : (0 : Int) < j := by omega
              have x7 : ((F : Int) == (F : Int)) = true := by simp
              clear hv1 hj0
              go_wp2_with fail
              refine RD.mono ?_
              rintro e w9 ⟨A9, n9, c9, rfl, r9, hb9⟩
              have hs9 := hb9.size
              have hn9 : n9 ≤ 5 := by rw [← r9.len]; simp; omega
              have SY := same3_yes A9 Aw n9 c9 j cw _ _ _ w9 r9 ((rg.take j hmw).keep (Kp.below hb9 (fun b h => h)) (fun _ h => h)) (fun b h => h) (fun b h => by omega) (by omega) (fun g hg => okG_okS (HOK.out g (List.mem_of_mem_take hg)))
              go_wp2_with (go_at_call 16; refine SY.mono ?_; rintro e w10 ⟨rfl, hb10⟩; have hfc' : w10.cell? ⟨fb, fo + (j - 1), none⟩ = some (.int .i64 (F : Int)) := (hb10.cell (p := ⟨fb, fo + (j - 1), none⟩) (Nat.lt_of_lt_of_le hfS hs9)).trans ((hb9.cell (p := ⟨fb, fo + (j - 1), none⟩) hfS).trans hfc))
              go_ret
              exact ⟨rfl, (hb.trans (hb9.mono hsz)).trans (hb10.mono (by omega))⟩

end Go.Proofs.Ytkmjndmanpanbaa
