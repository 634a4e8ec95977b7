/- Contract of the document's Read (kotatsuref07). No law is claimed here. -/
import Derived.Test.YtghbgehmaejggaaDoorGrv15
import Derived.Test.YtghbgehmaejggaaDoorGrv11
import Derived.Test.YtghbgehmaejggaaDoorBlk9
import Derived.Test.YtghbgehmaejggaaDoorFrameW
namespace Go.Proofs.YtghbgehmaejggaaDoor
open Go.RowKit

theorem RdTo.none {p : List UInt8} {l : List Bm} {r : List Bm × Nat} (h : RdTo p l r) (ht : trimN p = []) : r = (l, 0) := by
  by_cases hl : l.length < 512
  · have := h.open hl; rw [if_pos ht] at this; exact this
  · exact h.full hl

set_option maxRecDepth 100000 in
set_option maxHeartbeats 8000000 in
theorem rread7_any (A : Option Addr) (n c B : Nat) (xs : List UInt8) (w : World) (hr : Rd bv w B A n c xs) (hB : B ≤ w.heap.size) (hn : n ≤ 1099511627776) :
    Calls Tryd.prog 11 #[.slice A n c] w (RetR w (gRd 512 xs [])) := by
  obtain ⟨i0, hi, hz0, hz1, hz2⟩ := info_parts Tryd.infoRBt
  have HP0 : Hid (RdTo xs [] (gRd 512 xs [])) := rfl
  generalize gRd 512 xs [] = ans at *
  go_enter Tryd.func11, Tryd.ntmps11
  go_wp2
  go_loopw [4, 5] (fun v p wr => ∃ (l : List Bm) (Aw : Option Addr) (nw cw : Nat) (rsw : List RawB) (A' : Option Addr) (n' c' : Nat) (ps : List UInt8), v = .slice Aw nw cw ∧ p = .slice A' n' c' ∧ nw ≤ 512 ∧ n' ≤ n ∧ OE shB wr w.heap.size 44 Aw nw cw rsw l ∧ Rd bv w B A' n' c' ps ∧ Hid (fitsB l l.length = true) ∧ Hid (RdTo ps l ans) ∧ Hid (∀ x ∈ l, x.data.length ≤ 100000) ∧ BlE w wr)
    (fun v _ _ => 512 - lenV v)
  case atStart => exact ⟨[], none, 0, 0, [], A, n, c, xs, rfl, rfl, by omega, Nat.le_refl _, OwnX.empty shB w w.heap.size 44 _, hr, rfl, HP0, (fun x hx => by simp at hx), BlE.refl _⟩
  case round =>
    obtain ⟨l, Aw, nw, cw, rsw, A', n', c', ps, rfl, rfl, hnw, hn', hO, hr', HF, HP, HD, hb⟩ := hrel
    have hsz := BlE.sz hb
    have hll := Lib.hid (OwnX.len hO)
    go_wp2
    go_loopw [5] (fun p wx => ∃ (A3 : Option Addr) (n3 c3 : Nat) (ys : List UInt8), p = .slice A3 n3 c3 ∧ n3 ≤ n ∧ Rd bv w B A3 n3 c3 ys ∧ Hid (trimN ys = trimN ps) ∧ wr = wx) (fun p _ => lenV p)
    case atStart => exact ⟨A', n', c', ps, rfl, hn', hr', rfl, rfl⟩
    case round =>
      obtain ⟨A3, n3, c3, ys, rfl, hn3, hr3, HT, rfl⟩ := hrel
      clear hr' hn'
      have hl := hr3.len
      have hcap := hr3.cap
      cases ys with
      | nil =>
        have h0 : n3 = 0 := by simpa using hl.symm
        subst h0
        have HA := HP.out.none (HT.out.symm)
        go_wp2
        go_ret2
        (try rw [HA])
        exact ⟨_, _, _, rfl, OwnX.rd hO (fun b h => h.1) (fun b h => (OwnX.lt hO b h).2), hb⟩
      | cons y ys =>
        have hpos : 0 < n3 := by simp at hl; omega
        obtain ⟨b, off, rfl, hbb, hc0⟩ := hr3.at_ 0 (by simp)
        simp only [List.getElem_cons_zero, Nat.add_zero] at hc0
        unfold bv at hc0
        have hcr : wr.cell? ⟨b, off, none⟩ = some (.int .u8 (y.toNat : Int)) := (Below.cell hb (p := ⟨b, off, none⟩) (Nat.lt_of_lt_of_le hbb hB)).trans hc0
        have t1 : (0 : Int) < (n3 : Int) := by omega
        have t2 : ¬ ((n3 : Int) = 0) := by omega
        have t3 : ((n3 : Int) == 0) = false := by simpa using t2
        have t4 : 1 ≤ n3 := by omega
        have t5 : (1 : Int) ≤ n3 := by omega
        have t6 : 1 ≤ c3 := by omega
        have hl2 : ys.length = n3 - 1 := by simp at hl; omega
        by_cases hy : y = 0
        · subst hy
          have e0 : (((0 : UInt8).toNat : Int)) = 0 := rfl
          rw [e0] at hcr
          have HT2 : Hid (trimN ys = trimN ps) := by have h := HT.out; rw [trimN_zero] at h; exact h
          by_cases hc1 : c3 = 1
          · subst hc1
            have h1 : n3 = 1 := by omega
            subst h1
            have hys : ys = [] := List.eq_nil_of_length_eq_zero (by omega)
            go_wp2
            go_roundw
            case rel => exact ⟨_, _, _, ys, rfl, by omega, rd_none rfl hys, HT2, trivial⟩
            case measure => simp [lenV]
          · have hd1 : Rd bv w B (some ⟨b, off + 1, none⟩) (n3 - 1) (c3 - 1) ys := by
              have h := hr3.drop 1 (by omega); simpa using h
            go_wp2
            go_roundw
            case rel => exact ⟨_, _, _, ys, rfl, by omega, hd1, HT2, trivial⟩
            case measure => simp [lenV]; omega
        · have hyn : ¬ ((y.toNat : Int) = 0) := fun h => hy (by apply UInt8.toNat_inj.1; simpa using h)
          have hyb : ((y.toNat : Int) == 0) = false := by simpa using hyn
          have HTs : Hid (trimN ps = y :: ys) := by show _ = _; rw [← HT.out, trimN_other y ys hy]
          by_cases h512 : nw < 512
          · have t7 : ((nw : Int) == 512) = false := by rw [beq_eq_false_iff_ne]; omega
            have t8 : ¬ ((nw : Int) = 512) := by omega
            have HOP := HP.out.open (by rw [hll.out]; exact h512)
            unfold sizW at HOP
            rw [HTs.out, if_neg (by simp), hll.out] at HOP
            have HOPH := Lib.hid HOP
            have hs := sizeN_lt nw (ahead l nw)
            have hq := kindN_lt nw
            have HFP : Hid (∀ xd : List UInt8, xd.length = sizeN nw (ahead l nw) → fitsB (l ++ [⟨u8N (kindN nw), xd⟩]) (l ++ [(⟨u8N (kindN nw), xd⟩ : Bm)]).length = true) := fun xd h => fits_push (q := kindN nw) HF.out (by rw [hll.out]) (by unfold sizW; rw [hll.out]; exact h)
            have HK := fun w => kind5_any nw w (by omega)
            have HBy := fun A n c B w h h2 => bytes5_any nw A n c B (ahead l nw) w h (by omega) h2
            clear HOP HP HT HTs
            generalize kindN nw = q at *
            go_upto_if 31 with fail
            go_cut [6] (fun v wx => ∃ (A2 : Option Addr) (n2 c2 : Nat), v = .slice A2 n2 c2 ∧ wr = wx ∧ Hid (Calls Tryd.prog 21 #[.int .i64 (nw : Int), .slice A2 n2 c2] wr fun e w' => e = .returned (.int .i64 (sizeN nw (ahead l nw) : Int)) ∧ Still wr w'))
            case first =>
              by_cases hz0' : nw = 0
              · have hg : decide ((nw : Int) > 0) = false := decide_eq_false (by omega)
                go_wp2
                go_meet
                case rel =>
                  refine ⟨none, 0, 0, rfl, rfl, ?_⟩
                  show Calls _ _ _ _ _
                  have h1 := bytes5_any nw none 0 0 0 [] wr Rd.nil (by omega) (by omega) (by omega)
                  subst hz0'
                  exact h1
              · have hg : decide ((nw : Int) > 0) = true := decide_eq_true (by omega)
                have hkl : nw - 1 < l.length := by rw [hll.out]; omega
                obtain ⟨b2, off2, A3, n3, c3, rfl, _, hd0, hd1, hrd⟩ := rdB_at (OwnX.rd hO (S' := (· < wr.heap.size)) (fun b h => h.1) (fun b h => (OwnX.lt hO b h).2)) (nw - 1) hkl
                have ea : (l[nw - 1]'hkl).data = ahead l nw := by
                  unfold ahead; rw [List.getD_eq_getElem?_getD, List.getElem?_eq_getElem hkl]; exact rfl
                have hbig := HD.out _ (List.getElem_mem hkl)
                rw [ea] at hrd hbig
                have hto := told_of_fits (l := l) HF.out
                have hl3 := hrd.len
                have HC := HBy _ _ _ _ wr hrd.toRd (fun h1 h2 => by have := hto (by rw [hll.out]; exact h1) (by rw [hll.out]; exact h2); rw [hll.out] at this; omega) (by omega)
                have hc' : wr.cell? ⟨b2, off2 + (nw - 1) * 2 + 1, none⟩ = some (.slice A3 n3 c3) := hd1
                have hi1 : ((nw : Int) - 1) < nw := by omega
                have hi0 : (0 : Int) ≤ (nw : Int) - 1 := by omega
                have ht3 : ((nw : Int) - 1).toNat = nw - 1 := by omega
                clear hto hl3 hbig ea hrd hd0
                go_wp2
                go_meet
                case rel => exact ⟨A3, n3, c3, rfl, rfl, HC⟩
            case rest =>
              obtain ⟨A2, n2, c2, rfl, rfl, HC⟩ := hcut
              generalize sizeN nw (ahead l nw) = s at *
              clear HBy
              go_upto_region 11 with (go_at_call 21; refine HC.out.mono ?_; rintro e w' ⟨rfl, q', rfl⟩)
              have hO5 := OE.drewN hO (k := q')
              have hB5 := BlE.drewN hb (k := q')
              have hc5 : (wr.drewN q').cell? ⟨b, off, none⟩ = some (.int .u8 (y.toNat : Int)) := hcr
              clear HC hO hb hcr hsz
              generalize wr.drewN q' = W at *
              have hsz := BlE.sz hB5
              by_cases hy8 : y = 128
              · subst hy8
                have e8 : (((128 : UInt8).toNat : Int)) = 128 := rfl
                rw [e8] at hc5
                by_cases hlen : s + 4 ≤ n3
                · have k1 : ¬ ((n3 : Int) < (s : Int) + 4) := by omega
                  cases ys with
                  | nil => simp at hl; omega
                  | cons z zs =>
                  obtain ⟨b', off', e', hbz, hcz0⟩ := hr3.at_ 1 (by simp)
                  simp only [List.getElem_cons_succ, List.getElem_cons_zero] at hcz0
                  obtain ⟨rfl, rfl⟩ : b = b' ∧ off = off' := by injection e' with e'; injection e' with h1 h2; exact ⟨h1, h2⟩
                  unfold bv at hcz0
                  have hcz : W.cell? ⟨b, off + 1, none⟩ = some (.int .u8 (z.toNat : Int)) := (Below.cell hB5 (p := ⟨b, off + 1, none⟩) (Nat.lt_of_lt_of_le hbz hB)).trans hcz0
                  have k2 : (1 : Int) < n3 := by omega
                  by_cases hk : z.toNat = q
                  · subst hk
                    have hnb : ¬ badHead (128 :: z :: zs) z.toNat s := by
                      unfold badHead; rintro (h | h | h)
                      · rw [hl] at h; omega
                      · exact h rfl
                      · exact h rfl
                    have HA0 := HOPH.out
                    rw [if_neg hnb, u8N_of z] at HA0
                    have HAH := Lib.hid HA0
                    have HFP2 := HFP
                    rw [u8N_of z] at HFP2
                    have k3 : ((z.toNat : Int) == (z.toNat : Int)) = true := by simp
                    go_quiet (first | (go_at_call 22; exact quiet_still (HK _)))
                    rename_i nq
                    have hO6 := OE.drewN hO5 (k := nq)
                    have hB6 := BlE.drewN hB5 (k := nq)
                    have hX0 : Has (W.drewN nq) b (off + 1) (.int .u8 (z.toNat : Int)) := ⟨Nat.lt_of_lt_of_le (Nat.lt_of_lt_of_le hbz hB) hsz, hcz⟩
                    clear hO5 hB5 hc5 hcz hcz0 hc0 hsz HA0 HOPH HFP HK hnb k3
                    generalize W.drewN nq = V at *
                    generalize (128 :: z :: zs : List UInt8) = ts at *
                    have hsz := BlE.sz hB6
                    have rV := hr3.belowLe hB6 hB
                    have rS : RdE bv V (some ⟨b, off, none⟩) (s + 2) c3 (ts.take (s + 2)) := RdE.of (rV.take (s + 2) (by omega)) (by omega)
                    have rK : RdE bv V (some ⟨b, off + (s + 2), none⟩) 2 (c3 - (s + 2)) ((ts.drop (s + 2)).take 2) := RdE.of ((rV.drop (s + 2) (by omega)).take 2 (by omega)) (by omega)
                    have rD : RdE bv V (some ⟨b, off + 2, none⟩) s (c3 - 2) ((ts.drop 2).take s) := RdE.of ((rV.drop 2 (by omega)).take s (by omega)) (by omega)
                    have HSum : Hid (goodSum ts s ↔ shortN (ts.take (s + 2)) = takeN ((ts.drop (s + 2)).take 2)) := by
                      show _ ↔ _
                      unfold goodSum
                      have hg : (ts.drop (s + 2)).take 2 = [ts.getD (s + 2) 0, ts.getD (s + 3) 0] := by
                        have h1 : s + 2 < ts.length := by omega
                        have h2 : s + 2 + 1 < ts.length := by omega
                        rw [List.drop_eq_getElem_cons h1, List.drop_eq_getElem_cons h2]
                        have h3 : s + 3 < ts.length := by omega
                        rw [List.getD_eq_getElem?_getD, List.getD_eq_getElem?_getD, List.getElem?_eq_getElem h1, List.getElem?_eq_getElem h3]
                        rfl
                      rw [hg]
                      simp only [takeN, pairN, Nat.mul_zero, Nat.add_zero]
                    have HSh := fun w' (h1 : RdE bv w' (some ⟨b, off, none⟩) (s + 2) c3 (ts.take (s + 2))) => rshort_any (some ⟨b, off, none⟩) (s + 2) c3 w'.heap.size (ts.take (s + 2)) w' h1 (Nat.le_refl _) (by omega)
                    have HTk := fun w' (h1 : RdE bv w' (some ⟨b, off + (s + 2), none⟩) 2 (c3 - (s + 2)) ((ts.drop (s + 2)).take 2)) => rtake_any (some ⟨b, off + (s + 2), none⟩) 2 (c3 - (s + 2)) w'.heap.size ((ts.drop (s + 2)).take 2) w' h1 (by omega)
                    have hS1 := shortN_lt (ts.take (s + 2))
                    have hS2 : takeN ((ts.drop (s + 2)).take 2) < 65536 := by
                      have h := takeN_lt ((ts.drop (s + 2)).take 2)
                      rw [Rd.len rK] at h; exact h
                    have hdl : ((ts.drop 2).take s).length = s := by rw [List.length_take, List.length_drop]; omega
                    have hdr : Hid (n3 = s + 4 → ts.drop (s + 4) = []) := fun h => List.drop_of_length_le (by omega)
                    have hdd : Hid (¬ c3 = s + 4 → Rd bv w B (some ⟨b, off + (s + 4), none⟩) (n3 - (s + 4)) (c3 - (s + 4)) (ts.drop (s + 4))) := fun _ => hr3.drop (s + 4) (by omega)
                    generalize shortN (ts.take (s + 2)) = S1 at *
                    generalize takeN ((ts.drop (s + 2)).take 2) = S2 at *
                    generalize ts.take (s + 2) = tA at *
                    generalize (ts.drop (s + 2)).take 2 = tB at *
                    have b1 : ((s : Int) + 2).toNat = s + 2 := by omega
                    have b2 : ((s : Int) + 4).toNat = s + 4 := by omega
                    have b3 : s + 4 - (s + 2) = 2 := by omega
                    have b4 : (0 : Int) ≤ (s : Int) + 2 := by omega
                    have b5 : (s : Int) + 2 ≤ c3 := by omega
                    have b6 : (s : Int) + 4 ≤ c3 := by omega
                    have b7 : s + 2 ≤ c3 := by omega
                    have b8 : s + 4 ≤ c3 := by omega
                    have b9 : s + 2 ≤ s + 4 := by omega
                    have b10 : (s : Int) + 2 ≤ (s : Int) + 4 := by omega
                    have b11 : ¬ (c3 = s + 2) := by omega
                    have b12 : IntKind.i64.wrap ((s : Int) + 2) = (s : Int) + 2 := IntWalk.i64_in _ (by omega)
                    have b13 : IntKind.i64.wrap ((s : Int) + 4) = (s : Int) + 4 := IntWalk.i64_in _ (by omega)
                    have b14 : (0 : Int) ≤ (s : Int) + 4 := by omega
                    have b15 : IntKind.u64.wrap (S1 : Int) = (S1 : Int) := IntWalk.u64_in _ (by omega)
                    clear rV
                    by_cases hsum : S1 = S2
                    · have j1 : ((S1 : Int) == (S2 : Int)) = true := by rw [hsum]; simp
                      have HA1 := HAH.out
                      rw [if_neg (fun h => h (HSum.out.2 hsum))] at HA1
                      have HA := Lib.hid HA1
                      clear HA1 HAH
                      have HF2 : Hid (fitsB (l ++ [⟨z, (ts.drop 2).take s⟩]) (l ++ [(⟨z, (ts.drop 2).take s⟩ : Bm)]).length = true) := HFP2.out _ hdl
                      have HP2 : Hid (RdTo (ts.drop (s + 4)) (l ++ [⟨z, (ts.drop 2).take s⟩]) ans) := by
                        show gRd _ _ _ = _
                        rw [List.length_append, List.length_singleton, hll.out]; exact HA.out.symm
                      have HD2 : Hid (∀ y ∈ l ++ [(⟨z, (ts.drop 2).take s⟩ : Bm)], y.data.length ≤ 100000) := fun y hy => by
                        rcases List.mem_append.1 hy with h1 | h1
                        · exact HD.out y h1
                        · rw [List.mem_singleton.1 h1]; simp only [hdl]; omega
                      subst hsum
                      go_upto_if 76 with fail
                      go_cut [7, 76] (fun v u wx => v = .int .i64 (s : Int) ∧ u = .bool false ∧ OE shB wx w.heap.size 44 Aw nw cw rsw l ∧ BlE w wx ∧ Has wx b (off + 1) (.int .u8 (z.toNat : Int)) ∧ RdE bv wx (some ⟨b, off + 2, none⟩) s (c3 - 2) ((ts.drop 2).take s))
                      case first =>
                        clear HF2 HP2 HD2 HA HFP2 HSum
                        go_region_held3 (fun _ => True) (exact trivial)
                          (first
                          | (go_at_call 16; (refine (HSh _ ?_).mono ?_); (focus ((repeat (with_reducible first | exact rS | refine RdE.drew ?_ | refine RdE.alloc ?_ | refine RdE.below ?_ hbJ)); done)); (rintro e wJ ⟨rfl, hbJ⟩))
                          | (go_at_call 23; (refine (HTk _ ?_).mono ?_); (focus ((repeat (with_reducible first | exact rK | refine RdE.drew ?_ | refine RdE.alloc ?_ | refine RdE.below ?_ hbJ)); done)); (rintro e wT ⟨rfl, rfl⟩)))
                        all_goals
                          go_wp2
                          go_meet
                          case rel => exact ⟨rfl, by simp, by (repeat (with_reducible first | exact hO6 | refine OE.drew ?_ | refine OE.alloc ?_ | refine OE.below ?_ hbJ)), by (repeat (with_reducible first | exact hB6 | refine BlE.drew ?_ | refine BlE.alloc ?_ | refine BlE.below ?_ hbJ)), by (repeat (with_reducible first | exact hX0 | refine Has.drew ?_ | refine Has.alloc ?_ | refine Has.below ?_ hbJ)), by (repeat (with_reducible first | exact rD | refine RdE.drew ?_ | refine RdE.alloc ?_ | refine RdE.below ?_ hbJ))⟩
                      case rest =>
                        clear hO6 hB6 hX0 rD hsz rS rK HSh HTk
                        obtain ⟨rfl, rfl, hO6, hB6, hX0, rS⟩ := hcut
                        have hsz := BlE.sz hB6
                        have hlo := OE.lo hO6
                        have hX0c := hX0.cell
                        have hXo : some b ≠ Aw.map (·.block) := fun e => by have := (OwnX.lt hO6 b e.symm).1; omega
                        clear HFP2 HA HSum hS1 hS2 b15
                        generalize (ts.drop 2).take s = xd at *
                        have d1 : (2 : Int) ≤ (s : Int) + 2 := by omega
                        have d2 : 2 ≤ s + 2 := by omega
                        have d3 : s + 2 - 2 = s := by omega
                        have d4 : ¬ (c3 = 2) := by omega
                        have d5 : 2 ≤ c3 := by omega
                        have d6 : (2 : Int) ≤ c3 := by omega
                        obtain ⟨g7, c7', A5, n5, c5, _⟩ : ∃ (g c : Nat) (A5 : Option Addr) (n5 c5 : Nat), True := ⟨0, 0, none, 0, 0, trivial⟩
                        by_cases hcc : c3 = s + 4
                        · have hz : n3 - (s + 4) = 0 := by omega
                          have hd0 : ts.drop (s + 4) = [] := List.drop_of_length_le (by have := hr3.len; omega)
                          have hccH := Lib.hid hcc
                          clear hcc hz
                          go_wp2
                          go_region_held3 (fun w' => w'.cell? ⟨b, off + 1, none⟩ = some (.int .u8 (z.toNat : Int)))
                            ((refine Has.cell ?_; (repeat (with_reducible first | exact hX0 | refine Has.drew ?_ | refine Has.alloc ?_ | refine Has.below ?_ hbJ | refine Has.grown ?_ hg7 hXo))))
                            (first
                            | (go_at_call 5; (refine (join_one _ _ (some ⟨b, off + 2, none⟩) s (c3 - 2) xd ?_ ?_ ?_).mono ?_); (focus ((repeat (with_reducible first | (refine RdE.svOne ?_; (simp; done)) | refine RdE.drew ?_ | refine RdE.alloc ?_)); done)); (focus ((repeat (with_reducible first | exact rS | refine RdE.drew ?_ | refine RdE.alloc ?_)); done)); (focus omega); (rintro e wJ ⟨A5, n5, c5, rfl, hoJ, hbJ⟩); (have PJ := OE.later hO6 (by (repeat (with_reducible first | exact BlE.refl _ | refine BlE.drew ?_ | refine BlE.alloc ?_ | refine BlE.below ?_ hbJ))) hoJ); have hlJ := hoJ.len)
                            | ((refine step_pushB _ rfl (.tmp 77) (.tmp 88) 28 rfl w 44 i0 _ 32 Tryd.underlying28 hi hz0 hz1 hz2 rfl Aw nw cw rsw l z A5 n5 c5 xd rfl _ rfl ?_ ?_ ?_ ?_ ?_ ?_ ?_ ?_); (focus (simp only [maxLen]; omega)); (focus omega); (focus ((repeat (with_reducible first | exact hO6 | refine OE.drew ?_ | refine OE.alloc ?_ | refine OE.below ?_ hbJ)); done)); (focus ((repeat (with_reducible first | (refine Has.made ?_ rfl; (simp; done)) | refine Has.drew ?_ | refine Has.alloc ?_ | refine Has.below ?_ hbJ)); done)); (focus ((repeat (with_reducible first | (refine Has.made ?_ rfl; (simp; done)) | refine Has.drew ?_ | refine Has.alloc ?_ | refine Has.below ?_ hbJ)); done)); (focus ((repeat (with_reducible first | exact hB6 | refine BlE.drew ?_ | refine BlE.alloc ?_ | refine BlE.below ?_ hbJ)); done)); (focus ((repeat (with_reducible first | exact PJ | refine PE.drew ?_ | refine PE.alloc ?_ | refine PE.below ?_ hbJ)); done)); intro g7 c7' w7 O7 hg7 hat7))
                          all_goals
                            have hcc := hccH.out
                            go_wp2
                            have fB : BlE w w7 := by (repeat (with_reducible first | exact hB6 | refine BlE.drew ?_ | refine BlE.alloc ?_ | refine BlE.below ?_ hbJ | refine BlE.grown ?_ hg7 hlo))
                            go_roundw
                            case rel => exact ⟨_, _, nw + 1, c7', _, _, _, _, ts.drop (s + 4), rfl, rfl, by omega, by omega, O7, rd_none (by omega) hd0, HF2, HP2, HD2, fB⟩
                            case measure => simp [lenV]; omega
                        · go_wp2
                          go_region_held3 (fun w' => w'.cell? ⟨b, off + 1, none⟩ = some (.int .u8 (z.toNat : Int)))
                            ((refine Has.cell ?_; (repeat (with_reducible first | exact hX0 | refine Has.drew ?_ | refine Has.alloc ?_ | refine Has.below ?_ hbJ | refine Has.grown ?_ hg7 hXo))))
                            (first
                            | (go_at_call 5; (refine (join_one _ _ (some ⟨b, off + 2, none⟩) s (c3 - 2) xd ?_ ?_ ?_).mono ?_); (focus ((repeat (with_reducible first | (refine RdE.svOne ?_; (simp; done)) | refine RdE.drew ?_ | refine RdE.alloc ?_)); done)); (focus ((repeat (with_reducible first | exact rS | refine RdE.drew ?_ | refine RdE.alloc ?_)); done)); (focus omega); (rintro e wJ ⟨A5, n5, c5, rfl, hoJ, hbJ⟩); (have PJ := OE.later hO6 (by (repeat (with_reducible first | exact BlE.refl _ | refine BlE.drew ?_ | refine BlE.alloc ?_ | refine BlE.below ?_ hbJ))) hoJ); have hlJ := hoJ.len)
                            | ((refine step_pushB _ rfl (.tmp 77) (.tmp 88) 28 rfl w 44 i0 _ 32 Tryd.underlying28 hi hz0 hz1 hz2 rfl Aw nw cw rsw l z A5 n5 c5 xd rfl _ rfl ?_ ?_ ?_ ?_ ?_ ?_ ?_ ?_); (focus (simp only [maxLen]; omega)); (focus omega); (focus ((repeat (with_reducible first | exact hO6 | refine OE.drew ?_ | refine OE.alloc ?_ | refine OE.below ?_ hbJ)); done)); (focus ((repeat (with_reducible first | (refine Has.made ?_ rfl; (simp; done)) | refine Has.drew ?_ | refine Has.alloc ?_ | refine Has.below ?_ hbJ)); done)); (focus ((repeat (with_reducible first | (refine Has.made ?_ rfl; (simp; done)) | refine Has.drew ?_ | refine Has.alloc ?_ | refine Has.below ?_ hbJ)); done)); (focus ((repeat (with_reducible first | exact hB6 | refine BlE.drew ?_ | refine BlE.alloc ?_ | refine BlE.below ?_ hbJ)); done)); (focus ((repeat (with_reducible first | exact PJ | refine PE.drew ?_ | refine PE.alloc ?_ | refine PE.below ?_ hbJ)); done)); intro g7 c7' w7 O7 hg7 hat7))
                          all_goals
                            go_wp2
                            have fB : BlE w w7 := by (repeat (with_reducible first | exact hB6 | refine BlE.drew ?_ | refine BlE.alloc ?_ | refine BlE.below ?_ hbJ | refine BlE.grown ?_ hg7 hlo))
                            go_roundw
                            case rel => exact ⟨_, _, nw + 1, c7', _, _, _, _, ts.drop (s + 4), rfl, rfl, by omega, by omega, O7, hdd.out hcc, HF2, HP2, HD2, fB⟩
                            case measure => simp [lenV]; omega
                    · have j1 : ((S1 : Int) == (S2 : Int)) = false := by rw [beq_eq_false_iff_ne]; omega
                      have j2 : ¬ ((S1 : Int) = (S2 : Int)) := by omega
                      have HA := HAH.out
                      rw [if_pos (fun h => hsum (HSum.out.1 h))] at HA
                      go_wp2
                      go_region_held3 (fun _ => True) (exact trivial)
                        (first
                        | (go_at_call 16; (refine (HSh _ ?_).mono ?_); (focus ((repeat (with_reducible first | exact rS | refine RdE.drew ?_ | refine RdE.alloc ?_ | refine RdE.below ?_ hbJ)); done)); (rintro e wJ ⟨rfl, hbJ⟩))
                        | (go_at_call 23; (refine (HTk _ ?_).mono ?_); (focus ((repeat (with_reducible first | exact rK | refine RdE.drew ?_ | refine RdE.alloc ?_ | refine RdE.below ?_ hbJ)); done)); (rintro e wT ⟨rfl, rfl⟩)))
                      all_goals
                        go_wp2
                        go_ret2
                        (try rw [HA])
                        refine ⟨_, _, _, rfl, RdX.nil, ?_⟩
                        show BlE _ _
                        (repeat (with_reducible first | exact hB6 | refine BlE.drew ?_ | refine BlE.alloc ?_ | refine BlE.below ?_ hbJ))
                  · have HA := HOPH.out
                    rw [if_pos (show badHead _ q s from Or.inr (Or.inr (by simpa using hk)))] at HA
                    have k3 : ¬ ((z.toNat : Int) = (q : Int)) := by omega
                    have k4 : ((z.toNat : Int) == (q : Int)) = false := by rw [beq_eq_false_iff_ne]; omega
                    go_quiet (first | (go_at_call 22; exact quiet_still (HK _)))
                    go_wp2
                    go_ret2
                    (try rw [HA])
                    exact ⟨_, _, _, rfl, RdX.nil, BlE.drewN hB5⟩
                · have HA := HOPH.out
                  rw [if_pos (show badHead _ q s from Or.inl (by rw [hl]; omega))] at HA
                  have k1 : ((n3 : Int) < (s : Int) + 4) := by omega
                  go_quiet (fail)
                  go_wp2
                  go_ret2
                  (try rw [HA])
                  exact ⟨_, _, _, rfl, RdX.nil, BlE.drewN hB5⟩
              · have HA := HOPH.out
                rw [if_pos (show badHead _ q s from Or.inr (Or.inl (by simpa using hy8)))] at HA
                have k1 : ¬ ((y.toNat : Int) = 128) := fun h => hy8 (by apply UInt8.toNat_inj.1; show y.toNat = 128; omega)
                have k2 : ((y.toNat : Int) == 128) = false := by rw [beq_eq_false_iff_ne]; exact k1
                go_quiet (fail)
                go_wp2
                go_ret2
                (try rw [HA])
                exact ⟨_, _, _, rfl, RdX.nil, BlE.drewN hB5⟩
          · obtain rfl : nw = 512 := by omega
            have HA := HP.out.full (by rw [hll.out]; exact h512)
            go_wp2
            go_ret2
            (try rw [HA])
            exact ⟨_, _, _, rfl, OwnX.rd hO (fun b h => h.1) (fun b h => (OwnX.lt hO b h).2), hb⟩

end Go.Proofs.YtghbgehmaejggaaDoor
