/- The walk of the law ScrollForms. -/
import Derived.Test.YtkmjndmanpanbaaRowE
import Derived.Test.YtkmjndmanpanbaaScrL2
namespace Go.Proofs.Ytkmjndmanpanbaa
open Go.RowKit

set_option maxRecDepth 100000 in
set_option maxHeartbeats 16000000 in
theorem scrollForms_walk (An : Option Addr) (nn cn : Nat) (zs : List Int) (A : Option Addr) (n c : Nat) (wss : List (List Wm)) (w : World) (hrn : Rd (fun z => Value.int .u32 z) w w.heap.size An nn cn zs) (hcn : cn ≤ maxLen) (hzs : ∀ z ∈ zs, (Lit.int .u32 z).wf = true)
    (hr0 : RdX shL w (· < w.heap.size) A n c wss) (hc : c ≤ maxLen) (hq : ∀ ws ∈ wss, plL ws) :
    Calls Try.prog 3 #[.slice An nn cn, .slice A n c] w fun e w' => e = .returned (.bool true) ∧ Below w.heap.size w w' := by
  have hn : n ≤ 9223372036854775807 := by have := hr0.cap; unfold maxLen at hc; omega
  have hnn : nn ≤ 9223372036854775807 := by have := hrn.cap; unfold maxLen at hcn; omega
  have hZ : ∀ z ∈ zs, 0 ≤ z ∧ z < 4294967296 := fun z hz => by have := bounds_u32 (hzs z hz); omega
  have HOKF := Lib.hid (fun k => okG_form zs (wss.take k) hZ)
  have HZ := Lib.hid hZ
  have HL := Lib.hid hr0.len
  have HLN := Lib.hid hrn.len
  have HQ := Lib.hid hq
  clear hq hZ hzs
  obtain ⟨i0, hi, hz0, hz1, hzb⟩ := info_parts Try.inforGt
  go_enter Try.func3, Try.ntmps3
  go_wp2_with fail
  refine (awake3_any _).mono ?_
  rintro e w1 ⟨rfl, hb1⟩
  go_wp2_with fail
  go_loopw [5, 6, 20] (fun vp vw i wr => ∃ (k : Nat) (Ap : Option Addr) (np cp : Nat) (Aw : Option Addr) (nw cw : Nat) (rsw : List RawG), k ≤ n ∧ k ≤ 5 ∧ nw ≤ k ∧ np ≤ k * 800 ∧ i = .int .i64 k ∧ vp = .slice Ap np cp ∧ vw = .slice Aw nw cw ∧
      OE (shG .i64 .i64) wr w.heap.size 38 Aw nw cw rsw (formG zs (wss.take k)) ∧ PE bv wr Aw Ap np cp (catF (allC (formG zs (wss.take k)))) ∧ BlE w wr)
    (fun _ _ i _ => n - (intOf i).toNat)
  case atStart => exact ⟨0, none, 0, 0, none, 0, 0, [], Nat.zero_le _, Nat.zero_le _, Nat.zero_le _, Nat.zero_le _, rfl, rfl, rfl, OwnX.empty _ _ _ _ _, Rdp.nil, hb1⟩
  case round =>
    obtain ⟨k, Ap, np, cp, Aw, nw, cw, rsw, hk, hk5, hnw, hnp, rfl, rfl, rfl, hO, hP, hb⟩ := hrel
    have hsz : w.heap.size ≤ wr.heap.size := hb.size
    by_cases hlt : k < n
    · have hkx : k < wss.length := by rw [HL.out]; exact hlt
      obtain ⟨b, off, A3, n3, c3, rfl, hSb, hc0, hrw⟩ := rdL_at (hr0.keep (Kp.below hb (fun b h => h)) (fun _ h => h)) k hkx
      by_cases h5 : k < 5 ∧ k < nn
      · obtain ⟨h5, hkn⟩ := h5
        have hkz : k < zs.length := by rw [HLN.out]; exact hkn
        obtain ⟨zb, zo, rfl, hzbB, hzc0⟩ := hrn.at_ k hkz
        have hz1' := HZ.out zs[k] (List.getElem_mem hkz)
        have hgd : zs.getD k 0 = zs[k] := by rw [List.getD_eq_getElem?_getD, List.getElem?_eq_getElem hkz]; rfl
        have hqk := HQ.out wss[k] (List.getElem_mem hkx)
        have HY := Lib.hid (formG_yes zs wss k hkx)
        have HN := Lib.hid (formG_no zs wss k hkx)
        rw [hgd] at HY
        generalize wss[k] = ws at *
        generalize zs[k] = z at *
        obtain ⟨hz0', hz2'⟩ := hz1'
        have hl3 := hrw.len
        have hn3 : n3 ≤ 9223372036854775807 := by have := hqk.2; omega
        have FF := few_fit A3 n3 c3 _ ws wr hrw (fun b h => by omega) hn3 (fun x hx => ⟨(hqk.1 x hx).1, (hqk.1 x hx).2.1⟩) (fun x hx => (hqk.1 x hx).2.2)
        have hz : Has wr zb (zo + k) (.int .u32 z) := ⟨by omega, (hb.cell (p := ⟨zb, zo + k, none⟩) hzbB).trans hzc0⟩
        clear hl3 hqk hgd hzc0
        have t1 : decide ((5 : Int) ≤ k) = false := by simp; omega
        have t2 : decide ((nn : Int) ≤ k) = false := by simp; omega
        go_wp2_with fail
        refine FF.mono ?_
        rintro e w2 ⟨A4, n4, c4, rs4, A5, c5, rs5, rfl, htw, hb2⟩
        have hs2 := hb2.size
        have hO2 := hO.below hb2
        have hP2 := hP.below hb2
        have hB2 := hb.below hb2
        have hz2 := hz.below hb2
        have hl4 : n4 ≤ 8 := by have := htw.one.len; rw [fewN_len] at this; omega
        have HL4 := Lib.hid htw.one.len
        have hofA : ∀ b, wr.heap.size ≤ b → Off Aw b := fun b h => OwnX.off hO h
        clear FF hP hO hz
        by_cases h4 : n4 = 0
        · have t4 : ((n4 : Int) == 0) = true := by rw [h4]; rfl
          have HT : Hid (formG zs (wss.take (k + 1)) = formG zs (wss.take k)) := HN.out (List.eq_nil_of_length_eq_zero (by rw [HL4.out]; exact h4))
          clear HY HN h4
          go_wp2
          go_roundw
          case rel => exact ⟨k + 1, Ap, np, cp, Aw, nw, cw, rsw, by omega, by omega, by omega, by omega, by go_num, rfl, rfl, by rw [HT.out]; exact hO2, by rw [HT.out]; exact hP2, hB2⟩
          case measure => simp [intOf]; omega
        · have t4 : ((n4 : Int) == 0) = false := by rw [beq_eq_false_iff_ne]; omega
          have hne : fewN true ws ≠ [] := fun e => by have := HL4.out; rw [e] at this; simp at this; omega
          have HT := Lib.hid (HY.out hne)
          clear HY HN hne h4
          have BY := bytes_any z A4 n4 c4 (· < w2.heap.size) (fewN true ws) w2 (htw.one.rd (fun b h => h.2.1) (fun b h => (htw.one.lt b h).2)) (fun b h => h) (by omega) (by omega) (by omega)
            (fun x hx => by have h1 := okW_few ws x hx; have h2 := okW_lt h1.1; exact ⟨h1.1.2, by omega, by omega⟩)
          have zc2 := hz2.cell
          go_wp2_with fail
          refine BY.mono ?_
          rintro e w3 ⟨A6, n6, c6, rfl, r6, hb3⟩
          have hs3 := hb3.size
          have hn6 : n6 ≤ 9 := by have h1 := r6.len; have h2 := HL4.out; simp [bytesN, recsN_len] at h1; omega
          have hfl := flen_few z.toNat ws
          have HQF : Hid ((bytesN z.toNat (fewN true ws)).flatten = catF (gcs z.toNat (fewN true ws))) := by show _ = _; rw [bytes_gcs]; rfl
          have JX := join_x A6 n6 c6 _ _ w3 r6 (fun b h => h.2) (by omega) (by rw [HQF.out, catF_len]; omega)
          rw [HQF.out] at JX
          clear zc2
          go_wp2_with fail
          refine JX.mono ?_
          rintro e w4 ⟨A7, n7, c7, rfl, r7, hb4⟩
          have hs4 := hb4.size
          have hn7 : n7 ≤ 800 := by rw [← r7.len, catF_len]; exact hfl
          have hz4 := ((hz2.below hb3).below hb4).cell
          have rb2 : RdX (shW .i64 .i64) w2 (fun b => wr.heap.size ≤ b ∧ b < w2.heap.size) A5 n4 c5 (fewN true ws) := by
            have h1 := htw.two.rd (S' := fun b => wr.heap.size ≤ b ∧ b < w2.heap.size) (fun b h => ⟨h.1, h.2.1⟩) (fun b h => htw.two.lt b h)
            rw [few_ref] at h1
            exact h1
          have rb4 : XE (shW .i64 .i64) w4 Aw A5 n4 c5 (fewN true ws) := rb2.keep (Kp.below (hb3.trans (hb4.mono hs3)) (fun b h => h.2)) (fun b h => ⟨by have := h.2; omega, hofA b h.1, off_none _⟩)
          have hO4 := (hO2.below hb3).below hb4
          have hP4 := (hP2.below hb3).below hb4
          have hB4 := (hB2.below hb3).below hb4
          have hQ4 : PE bv w4 Aw A7 n7 c7 (catF (gcs z.toNat (fewN true ws))) := r7.rdp.keep (Kp.refl _ _) (fun b h => ⟨h.2, hofA b (by have := h.1; omega), off_none _⟩)
          clear BY JX r6 hO2 hP2 hB2 htw rb2 hz2
          have XB := xbytes_any z A5 n4 c5 _ (fewN true ws) _ (XE.alloc rb4 (o := (.cells #[.int .u32 z, .slice A5 n4 c5] 38))) (fun b h => h.1) hz0' hz2' hl4
            (fun x hx => by have h1 := okW_few ws x hx; exact ⟨h1.1.2, by omega, h1.2.1⟩)
          rw [HQF.out] at XB
          go_wp2_with fail
          refine XB.mono ?_
          rintro e w5 ⟨A8, n8, c8, rfl, r8, hb5⟩
          have hq5 := (RdE.alloc (PE.rdE hQ4) (o := (.cells #[.int .u32 z, .slice A5 n4 c5] 38))).below hb5
          go_wp2_with fail
          refine (same_yes A7 A8 n7 c7 n8 c8 _ _ _ w5 hq5 r8.rd (by omega)).mono ?_
          rintro e w6 ⟨rfl, hst6⟩
          have hX0 : Has w6 w4.heap.size 0 (.int .u32 z) := ((Has.made (w := w4) (cs := #[.int .u32 z, .slice A5 n4 c5]) (e := 38) (fr := (0, 0)) rfl rfl).below hb5).still hst6
          have hX1 : Has w6 w4.heap.size 1 (.slice A5 n4 c5) := ((Has.made (w := w4) (cs := #[.int .u32 z, .slice A5 n4 c5]) (e := 38) (fr := (0, 0)) rfl rfl).below hb5).still hst6
          have hXo : some w4.heap.size ≠ Aw.map (·.block) := OwnX.off hO4 (Nat.le_refl _)
          have hb56 := hst6.below w5.heap.size
          have rb6 := ((XE.alloc rb4 (o := (.cells #[.int .u32 z, .slice A5 n4 c5] 38))).below hb5).below hb56
          have hO6 := ((OE.alloc hO4 (o := (.cells #[.int .u32 z, .slice A5 n4 c5] 38))).below hb5).below hb56
          have hP6 := ((PE.alloc hP4 (o := (.cells #[.int .u32 z, .slice A5 n4 c5] 38))).below hb5).below hb56
          have hQ6 := ((PE.alloc hQ4 (o := (.cells #[.int .u32 z, .slice A5 n4 c5] 38))).below hb5).below hb56
          have hB6 := ((BlE.alloc hB4 (o := (.cells #[.int .u32 z, .slice A5 n4 c5] 38))).below hb5).below hb56
          have hlo := OE.lo hO6
          have hX0c := hX0.cell
          have hX1c := hX1.cell
          clear XB r7 r8 rb4 hO4 hP4 hQ4 hB4 hq5 hz4 hb56 hst6 hb5
          obtain ⟨g7, c7', _⟩ : ∃ (g c : Nat), True := ⟨0, 0, trivial⟩
          have HCC : Hid (catF (allC (formG zs (wss.take k))) ++ catF (gcs z.toNat (fewN true ws)) = catF (allC (formG zs (wss.take k) ++ [⟨z, fewN true ws⟩]))) := by
            show _ = _; rw [allC_append, catF_append]; simp [allC]
          have HLQ : Hid ((catF (allC (formG zs (wss.take k))) ++ catF (gcs z.toNat (fewN true ws))).length ≤ np + 800) := by
            show _ ≤ _; rw [List.length_append, Rdp.len hP6, Rdp.len hQ6]; omega
          go_wp2_with fail
          go_region_held3 (fun w' => w'.cell? ⟨w4.heap.size, 0, none⟩ = some (.int .u32 z) ∧ w'.cell? ⟨w4.heap.size, 1, none⟩ = some (.slice A5 n4 c5))
            (refine ⟨Has.cell ?_, Has.cell ?_⟩ <;> (repeat (with_reducible first | exact hX0 | exact hX1 | (refine Has.made ?_ rfl; (simp; done)) | refine Has.drew ?_ | refine Has.alloc ?_ | refine Has.below ?_ hbJ | refine Has.grown ?_ hg7 hXo)))
            (first
            | (go_at_call 11; (refine (join_two _ _ Ap A7 np cp n7 c7 (catF (allC (formG zs (wss.take k)))) (catF (gcs z.toNat (fewN true ws))) ?_ ?_ ?_ ?_).mono ?_); (focus (first | (refine PE.rdE (Aw := Aw) ?_; (repeat (with_reducible first | (refine OE.made (T := shG .i64 .i64) (base := w.heap.size) (e := 38) (Aw := Aw) (n := nw) (c := cw) (rs := rsw) (xs := formG zs (wss.take k)) (f := sv) (ys := [(Ap, np, cp), (A7, n7, c7)]) ?_ rfl ?_ rfl; (with_reducible (repeat (with_reducible first | exact hO6 | exact O7 | refine OE.drew ?_ | refine OE.alloc ?_ | refine OE.below ?_ hbJ))); (simp; done)) | (refine OE.made (T := shG .i64 .i64) (base := w.heap.size) (e := 38) (Aw := some ⟨g7, 0, none⟩) (n := nw + 1) (c := c7') (rs := rsw ++ [⟨z, A5, n4, c5⟩]) (xs := formG zs (wss.take k) ++ [⟨z, fewN true ws⟩]) (f := sv) (ys := [(Ap, np, cp), (A7, n7, c7)]) ?_ rfl ?_ rfl; (with_reducible (repeat (with_reducible first | exact hO6 | exact O7 | refine OE.drew ?_ | refine OE.alloc ?_ | refine OE.below ?_ hbJ))); (simp; done)) | refine PE.drew ?_ | refine PE.alloc ?_ | refine PE.below ?_ hbJ | refine PE.grown ?_ hg7 hat7)); done) | (refine PE.rdE (Aw := some ⟨g7, 0, none⟩) ?_; (repeat (with_reducible first | (refine OE.made (T := shG .i64 .i64) (base := w.heap.size) (e := 38) (Aw := Aw) (n := nw) (c := cw) (rs := rsw) (xs := formG zs (wss.take k)) (f := sv) (ys := [(Ap, np, cp), (A7, n7, c7)]) ?_ rfl ?_ rfl; (with_reducible (repeat (with_reducible first | exact hO6 | exact O7 | refine OE.drew ?_ | refine OE.alloc ?_ | refine OE.below ?_ hbJ))); (simp; done)) | (refine OE.made (T := shG .i64 .i64) (base := w.heap.size) (e := 38) (Aw := some ⟨g7, 0, none⟩) (n := nw + 1) (c := c7') (rs := rsw ++ [⟨z, A5, n4, c5⟩]) (xs := formG zs (wss.take k) ++ [⟨z, fewN true ws⟩]) (f := sv) (ys := [(Ap, np, cp), (A7, n7, c7)]) ?_ rfl ?_ rfl; (with_reducible (repeat (with_reducible first | exact hO6 | exact O7 | refine OE.drew ?_ | refine OE.alloc ?_ | refine OE.below ?_ hbJ))); (simp; done)) | refine PE.drew ?_ | refine PE.alloc ?_ | refine PE.below ?_ hbJ | refine PE.grown ?_ hg7 hat7)); done))); (focus (first | (refine PE.rdE (Aw := Aw) ?_; (repeat (with_reducible first | exact hP6 | exact hQ6 | exact PJ | refine PE.drew ?_ | refine PE.alloc ?_ | refine PE.below ?_ hbJ | refine PE.grown ?_ hg7 hat7)); done) | (refine PE.rdE (Aw := some ⟨g7, 0, none⟩) ?_; (repeat (with_reducible first | exact hP6 | exact hQ6 | exact PJ | refine PE.drew ?_ | refine PE.alloc ?_ | refine PE.below ?_ hbJ | refine PE.grown ?_ hg7 hat7)); done))); (focus (first | (refine PE.rdE (Aw := Aw) ?_; (repeat (with_reducible first | exact hP6 | exact hQ6 | exact PJ | refine PE.drew ?_ | refine PE.alloc ?_ | refine PE.below ?_ hbJ | refine PE.grown ?_ hg7 hat7)); done) | (refine PE.rdE (Aw := some ⟨g7, 0, none⟩) ?_; (repeat (with_reducible first | exact hP6 | exact hQ6 | exact PJ | refine PE.drew ?_ | refine PE.alloc ?_ | refine PE.below ?_ hbJ | refine PE.grown ?_ hg7 hat7)); done))); (omega); (rintro e wJ ⟨Ar, nr, cr, rfl, hoJ, hbJ⟩); (first | have hOO := O7 | have hOO := hO6); (have PJ := OE.later hOO (by (repeat (with_reducible first | exact BlE.refl _ | refine BlE.drew ?_ | refine BlE.alloc ?_ | refine BlE.below ?_ hbJ))) hoJ); have hlJ := hoJ.len)
            | ((refine step_pushG _ rfl (.tmp 64) (.tmp 66) 26 rfl w 38 i0 _ 32 Try.underlying26 hi hz0 hz1 hzb rfl Aw nw cw rsw (formG zs (wss.take k)) z A5 n4 c5 (fewN true ws) rfl _ rfl ?_ ?_ ?_ ?_ ?_ ?_ ?_ ?_); (focus (simp only [maxLen]; omega)); (focus omega); (focus ((repeat (with_reducible first | exact hO6 | exact O7 | refine OE.drew ?_ | refine OE.alloc ?_ | refine OE.below ?_ hbJ)); done)); (focus ((repeat (with_reducible first | exact hX0 | exact hX1 | (refine Has.made ?_ rfl; (simp; done)) | refine Has.drew ?_ | refine Has.alloc ?_ | refine Has.below ?_ hbJ | refine Has.grown ?_ hg7 hXo)); done)); (focus ((repeat (with_reducible first | exact hX0 | exact hX1 | (refine Has.made ?_ rfl; (simp; done)) | refine Has.drew ?_ | refine Has.alloc ?_ | refine Has.below ?_ hbJ | refine Has.grown ?_ hg7 hXo)); done)); (focus ((repeat (with_reducible first | exact hB6 | refine BlE.drew ?_ | refine BlE.alloc ?_ | refine BlE.below ?_ hbJ)); done)); (focus ((repeat (with_reducible first | exact rb6 | refine XE.drew ?_ | refine XE.alloc ?_ | refine XE.below ?_ hbJ)); done)); intro g7 c7' w7 O7 hg7 hat7))
          all_goals
            go_wp2
            go_roundw
            case rel =>
              have hnr := HLQ.out
              rw [hlJ] at hnr
              rw [HCC.out] at PJ
              refine ⟨k + 1, Ar, nr, cr, _, nw + 1, c7', rsw ++ [⟨z, A5, n4, c5⟩], by omega, by omega, by omega, by omega, by go_num, rfl, rfl, ?_, ?_, ?_⟩
              · rw [HT.out]; (repeat (with_reducible first | exact O7 | refine OE.drew ?_ | refine OE.alloc ?_ | refine OE.below ?_ hbJ))
              · rw [HT.out]; (repeat (with_reducible first | exact PJ | refine PE.drew ?_ | refine PE.alloc ?_ | refine PE.below ?_ hbJ | refine PE.grown ?_ hg7 hat7))
              · (repeat (with_reducible first | exact hB6 | refine BlE.drew ?_ | refine BlE.alloc ?_ | refine BlE.below ?_ hbJ | refine BlE.grown ?_ hg7 hlo))
            case measure => simp [intOf]; omega
      · have t5 : decide ((5 : Int) ≤ k) = true ∨ (decide ((5 : Int) ≤ k) = false ∧ nn ≤ k) := by
          rcases Nat.lt_or_ge k 5 with h | h
          · right; exact ⟨by simp; omega, by omega⟩
          · left; simp; omega
        have RD := read_any Ap np cp wr.heap.size _ wr (PE.rdE hP) (Nat.le_refl _) (by omega)
        rw [show readL (catF (allC (formG zs (wss.take k)))) = .ok (formG zs (wss.take k)) (flen (allC (formG zs (wss.take k)))) from readL_groups _ (HOKF.out k)] at RD
        have hfl : flen (allC (formG zs (wss.take k))) = np := by rw [← catF_len]; exact Rdp.len hP
        rw [hfl] at RD
        clear hfl
        have t6 : ((np : Int) == (np : Int)) = true := by simp
        rcases t5 with t5 | ⟨t5, t5'⟩
        all_goals
          go_wp2_with fail
          refine RD.mono ?_
          rintro e w9 ⟨A9, n9, c9, rfl, r9, hb9⟩
          have hs9 := hb9.size
          have hn9 : n9 ≤ 5 := by rw [← r9.len, OwnX.len hO]; omega
          have hO9 := hO.below hb9
          have SY := same3_yes A9 Aw n9 c9 nw cw _ (· < w9.heap.size) _ w9 r9 (OwnX.rd hO9 (fun b h => h.1) (fun b h => (OwnX.lt hO9 b h).2)) (fun b h => h) (fun b h => h) (by omega) (fun g hg => okG_okS (HOKF.out k g hg))
          go_wp2_with (go_at_call 16; refine SY.mono ?_; rintro e w10 ⟨rfl, hb10⟩)
          go_ret
          exact ⟨rfl, (hb.below hb9).below hb10⟩
    · have RD := read_any Ap np cp wr.heap.size _ wr (PE.rdE hP) (Nat.le_refl _) (by omega)
      rw [show readL (catF (allC (formG zs (wss.take k)))) = .ok (formG zs (wss.take k)) (flen (allC (formG zs (wss.take k)))) from readL_groups _ (HOKF.out k)] at RD
      have hfl : flen (allC (formG zs (wss.take k))) = np := by rw [← catF_len]; exact Rdp.len hP
      rw [hfl] at RD
      clear hfl
      have t6 : ((np : Int) == (np : Int)) = true := by simp
      go_wp2_with fail
      refine RD.mono ?_
      rintro e w9 ⟨A9, n9, c9, rfl, r9, hb9⟩
      have hs9 := hb9.size
      have hn9 : n9 ≤ 5 := by rw [← r9.len, OwnX.len hO]; omega
      have hO9 := hO.below hb9
      have SY := same3_yes A9 Aw n9 c9 nw cw _ (· < w9.heap.size) _ w9 r9 (OwnX.rd hO9 (fun b h => h.1) (fun b h => (OwnX.lt hO9 b h).2)) (fun b h => h) (fun b h => h) (by omega) (fun g hg => okG_okS (HOKF.out k g hg))
      go_wp2_with (go_at_call 16; refine SY.mono ?_; rintro e w10 ⟨rfl, hb10⟩)
      go_ret
      exact ⟨rfl, (hb.below hb9).below hb10⟩

end Go.Proofs.Ytkmjndmanpanbaa
