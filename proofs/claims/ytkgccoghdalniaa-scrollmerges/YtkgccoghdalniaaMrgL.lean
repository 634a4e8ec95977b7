/- The walk of the law ScrollMerges. -/
import Derived.Test.YtkgccoghdalniaaMrgE
import Derived.Test.YtkgccoghdalniaaFrameS
import Derived.Test.YtkgccoghdalniaaFrameB
import Derived.Deep.RegionLaw
namespace Go.Proofs.Ytkgccoghdalniaa
open Go.RowKit

set_option maxRecDepth 100000 in
set_option maxHeartbeats 8000000 in
theorem scrollMerges_walk (Al : Option Addr) (nl cl : Nat) (ws : List Wm) (Af : Option Addr) (nf cf : Nat) (fs : List Bool) (w : World)
    (hl0 : RdX (shW .u8 .u32) w (· < w.heap.size) Al nl cl ws) (hcl : cl ≤ maxLen) (hq : ∀ y ∈ ws, plB y) (hf0 : Rd blv w w.heap.size Af nf cf fs) (hcf : cf ≤ maxLen) (_ht : True) :
    Calls Try.prog 4 #[.slice Al nl cl, .slice Af nf cf] w fun e w' => e = .returned (.bool true) ∧ Below w.heap.size w w' := by
  have hnl : nl ≤ 9223372036854775807 := by have := hl0.cap; unfold maxLen at hcl; omega
  have hnf : nf ≤ 9223372036854775807 := by have := hf0.cap; unfold maxLen at hcf; omega
  have HQ := Lib.hid hq
  clear hq
  go_enter Try.func4, Try.ntmps4
  go_wp2_with fail
  refine (awake3_any _).mono ?_
  rintro e w1 ⟨rfl, hb1⟩
  have FF := few_fit Al nl cl _ ws w1 (hl0.keep (Kp.below hb1 (fun b h => h)) (fun _ h => h)) (fun b h => Nat.lt_of_lt_of_le h hb1.size) hnl (fun x hx => ⟨(HQ.out x hx).1, (HQ.out x hx).2.1⟩) (fun x hx => (HQ.out x hx).2.2)
  go_wp2_with fail
  refine FF.mono ?_
  rintro e w2 ⟨A4, n4, c4, rs4, A5, c5, rs5, rfl, htw, hb2⟩
  clear FF
  have hs1 := hb1.size
  have bl2 : Below w.heap.size w w2 := hb1.trans (hb2.mono hs1)
  have row2 := htw.row
  have hn4 : n4 ≤ 8 := by have := OwnX.len row2; rw [fewN_len] at this; omega
  have HK : okK 0 (fewN true ws) := okK_zero (fun x hx => few_okF HQ.out hx)
  have r2 : Rd blv w2 w.heap.size Af nf cf fs := hf0.belowLe bl2 (Nat.le_refl _)
  clear htw hb1 hb2 hl0 hf0
  generalize fewN true ws = ws1 at *
  generalize w1.heap.size = B at *
  go_wp2_with fail
  go_loopw [25] (fun i wr => ∃ (k : Nat) (rsA : List RawW) (ws2 : List Wm), k ≤ n4 ∧ i = .int .i64 k ∧ Row wr B A4 n4 c4 rsA ws2 ∧ okK k ws2 ∧ Rd blv wr w.heap.size Af nf cf fs ∧ Below w.heap.size w wr)
    (fun i _ => n4 - (intOf i).toNat)
  case atStart => exact ⟨0, _, _, Nat.zero_le _, rfl, row2, HK, r2, bl2⟩
  case round =>
    clear row2 HK r2 bl2
    obtain ⟨k, rsA, ws2, hk, rfl, hrow, hok, hrf, hb⟩ := hrel
    have hsz := hb.size
    by_cases hlt : k < n4
    · obtain ⟨g, rfl, hgB, hgl⟩ := hrow.addr (by omega)
      obtain ⟨A3, n3, c3, x, hx, hrx, c0, c1, c2, hrd⟩ := hrow.get k hlt
      have hpx := (hok k x hx).1
      have f0 := hrow.frozen (k * 3)
      have f1 := hrow.frozen (k * 3 + 1)
      obtain ⟨xs, xa, xd⟩ := x
      simp only at hrx c0 c1 hrd
      have hpx' : 0 ≤ xa ∧ xa < 4294967296 ∧ 1 ≤ xd.length ∧ xd.length ≤ 60 := hpx
      clear hpx
      obtain ⟨hp0, hp1, hp23⟩ := hpx'
      have HD := Lib.hid hp23
      clear hp23
      have hxs := xs.toNat_lt
      have hkN : (k : Int) < (n4 : Int) := by omega
      have hgw : w.heap.size ≤ g := Nat.le_trans hs1 hgB
      have e2 : ((UInt8.ofNat (xs.toNat % 2)).toNat : Int) = (xs.toNat : Int) % 2 := by
        rw [UInt8.toNat_ofNat', Nat.mod_eq_of_lt (show xs.toNat % 2 < 2 ^ 8 by omega)]; exact Int.natCast_emod _ _
      have hs2 : (UInt8.ofNat (xs.toNat % 2)).toNat < 2 := by rw [UInt8.toNat_ofNat', Nat.mod_eq_of_lt (show xs.toNat % 2 < 2 ^ 8 by omega)]; omega
      generalize UInt8.ofNat (xs.toNat % 2) = s2 at *
      have row1 := hrow.set k 0 (k * 3) _ ⟨s2, xa, A3, n3, c3⟩ ⟨s2, xa, xd⟩ (.int .u8 (s2.toNat : Int)) hlt (by omega) (by omega) hrx rfl ⟨rfl, rfl, hrd⟩
      have hr1 : (rsA.set k ⟨s2, xa, A3, n3, c3⟩)[k]? = some ⟨s2, xa, A3, n3, c3⟩ := List.getElem?_set_self (by have := OwnX.lenr hrow; omega)
      have hx1 : (ws2.set k ⟨s2, xa, xd⟩)[k]? = some ⟨s2, xa, xd⟩ := List.getElem?_set_self (by have := OwnX.len hrow; omega)
      have row3 := row1.set k 1 (k * 3 + 1) _ ⟨s2, xa % 200, A3, n3, c3⟩ ⟨s2, xa % 200, xd⟩ (.int .u32 (xa % 200)) hlt (by omega) rfl hr1 rfl ⟨rfl, rfl, (OwnX.ok row1 k _ _ hr1 hx1).2.2⟩
      rw [List.set_set, List.set_set, e2] at row3
      have HR := Lib.hid row3
      have HF : Hid (Rd blv ((wr.setCell ⟨g, k * 3, none⟩ (.int .u8 ((xs.toNat : Int) % 2))).setCell ⟨g, k * 3 + 1, none⟩ (.int .u32 (xa % 200))) w.heap.size Af nf cf fs ∧ Below w.heap.size w ((wr.setCell ⟨g, k * 3, none⟩ (.int .u8 ((xs.toNat : Int) % 2))).setCell ⟨g, k * 3 + 1, none⟩ (.int .u32 (xa % 200)))) :=
        ⟨(hrf.setCell hgw _).setCell hgw _, (hb.setCell hgw _).setCell hgw _⟩
      clear row1 row3 hr1 hx1 hrd hrx e2 c2 hrf hb hrow
      have m1 : (xs.toNat : Int).tmod 2 = (xs.toNat : Int) % 2 := Int.tmod_eq_emod_of_nonneg (by omega)
      have m2 : xa.tmod 200 = xa % 200 := Int.tmod_eq_emod_of_nonneg hp0
      go_upto_region 7 with fail
      go_cut [] (fun wx => ∃ (rsB : List RawW) (a2 : Int), 0 ≤ a2 ∧ a2 < 200 ∧ Row wx B (some ⟨g, 0, none⟩) n4 c4 rsB (ws2.set k ⟨s2, a2, xd⟩) ∧ Rd blv wx w.heap.size Af nf cf fs ∧ Below w.heap.size w wx)
      case first =>
        go_region_law (fail)
        all_goals
          go_wp2_with fail
          go_meet
          case rel => exact ⟨_, xa % 200, by omega, by omega, HR.out.drew, HF.out.1.drew, HF.out.2.drew⟩
      case rest =>
        clear HR HF c0 c1 f0 f1 hp0 hp1 m1 m2
        obtain ⟨rsB, a2, ha0, ha2, hrow, hrf, hb⟩ := hcut
        have hsz := hb.size
        have hok3 : okK (k + 1) (ws2.set k ⟨s2, a2, xd⟩) := okK_set hok _ ⟨ha0, by show a2 < 4294967296; omega, HD.out.1, HD.out.2⟩ ⟨hs2, by show a2 ≤ _; omega⟩
        have HOK := Lib.hid hok3
        have HOK0 := Lib.hid hok
        clear hok3 hok
        by_cases hk0 : 0 < k
        · by_cases hkf : k < nf
          · have hkx : k < fs.length := by rw [hrf.len]; exact hkf
            obtain ⟨bf, off, rfl, hbf, hcf2⟩ := hrf.at_ k hkx
            generalize fs[k] = fl at *
            unfold blv at hcf2
            have t0 : (0 : Int) < (k : Int) := by omega
            have t1 : (k : Int) < (nf : Int) := by omega
            cases fl with
            | false =>
              go_wp2_with fail
              go_roundw
              case rel => exact ⟨k + 1, _, _, by omega, by go_num, hrow, HOK.out, hrf, hb⟩
              case measure => simp [intOf]; omega
            | true =>
              obtain ⟨q, rfl⟩ : ∃ q, k = q + 1 := ⟨k - 1, by omega⟩
              obtain ⟨A6, n6, c6, y, hy, hry, d0, d1, d2, hrdy⟩ := hrow.get q (by omega)
              obtain ⟨A7, n7, c7, z, hz, hrz, z0, z1, z2, hrdz⟩ := hrow.get (q + 1) hlt
              rw [List.getElem?_set_self (by have := OwnX.len hrow; simp at this; omega)] at hz
              injection hz with hz
              subst hz
              have hpy := HOK.out q y hy
              obtain ⟨ys, ya, yd⟩ := y
              have hpy1 : (0 ≤ ya ∧ ya < 4294967296 ∧ 1 ≤ yd.length ∧ yd.length ≤ 60) ∧ (q < q + 1 + 1 → ys.toNat < 2 ∧ ya ≤ 199 + 60 * (q : Int)) := hpy
              simp only at hry d0 d1 hrdy hrz z0 z1 hrdz
              obtain ⟨⟨hy0, hy1, hy2, hy3⟩, hy4⟩ := hpy1
              obtain ⟨hy4, hy5⟩ := hy4 (by omega)
              have hn6 : yd.length = n6 := hrdy.len
              have hn6' : n6 ≤ 60 := by omega
              have g0 := hrow.frozen ((q + 1) * 3)
              have g1 := hrow.frozen ((q + 1) * 3 + 1)
              have e3 : IntKind.i64.wrap (q : Int) = (q : Int) := IntWalk.i64_in _ (by omega)
              have e4 : IntKind.u32.wrap (n6 : Int) = (n6 : Int) := wrap_uns .u32 rfl n6 (by show n6 < 2 ^ 32; omega)
              have e5 : IntKind.u32.wrap (ya + (n6 : Int)) = ya + (n6 : Int) := IntWalk.u32_in _ (by omega)
              have row1 := hrow.set (q + 1) 0 ((q + 1) * 3) _ ⟨ys, a2, A7, n7, c7⟩ ⟨ys, a2, xd⟩ (.int .u8 (ys.toNat : Int)) hlt (by omega) (by omega) hrz rfl ⟨rfl, rfl, hrdz⟩
              have hr1 : (rsB.set (q + 1) ⟨ys, a2, A7, n7, c7⟩)[q + 1]? = some ⟨ys, a2, A7, n7, c7⟩ := List.getElem?_set_self (by have := OwnX.lenr hrow; omega)
              have hx1 : ((ws2.set (q + 1) ⟨s2, a2, xd⟩).set (q + 1) ⟨ys, a2, xd⟩)[q + 1]? = some ⟨ys, a2, xd⟩ := List.getElem?_set_self (by have := OwnX.len hrow; omega)
              have row3 := row1.set (q + 1) 1 ((q + 1) * 3 + 1) _ ⟨ys, ya + (n6 : Int), A7, n7, c7⟩ ⟨ys, ya + (n6 : Int), xd⟩ (.int .u32 (ya + (n6 : Int))) hlt (by omega) rfl hr1 rfl ⟨rfl, rfl, (OwnX.ok row1 (q + 1) _ _ hr1 hx1).2.2⟩
              rw [List.set_set, List.set_set, List.set_set] at row3
              have HR := Lib.hid row3
              have HF : Hid (Rd blv ((wc.setCell ⟨g, (q + 1) * 3, none⟩ (.int .u8 (ys.toNat : Int))).setCell ⟨g, (q + 1) * 3 + 1, none⟩ (.int .u32 (ya + (n6 : Int)))) w.heap.size (some ⟨bf, off, none⟩) nf cf fs ∧ Below w.heap.size w ((wc.setCell ⟨g, (q + 1) * 3, none⟩ (.int .u8 (ys.toNat : Int))).setCell ⟨g, (q + 1) * 3 + 1, none⟩ (.int .u32 (ya + (n6 : Int))))) :=
                ⟨(hrf.setCell hgw _).setCell hgw _, (hb.setCell hgw _).setCell hgw _⟩
              have HO : Hid (okK (q + 1 + 1) (ws2.set (q + 1) ⟨ys, ya + (n6 : Int), xd⟩)) := okK_set HOK0.out _ ⟨by simp only; omega, by simp only; omega, HD.out.1, HD.out.2⟩ ⟨hy4, by simp only; omega⟩
              clear row1 row3 hr1 hx1 hrdy hrdz hry hrz z2 hrf hb hrow hy hpy hn6
              have e7 : IntKind.i64.wrap (((q + 1 : Nat) : Int) - 1) = (q : Int) := by rw [show (((q + 1 : Nat) : Int) - 1) = (q : Int) from by omega]; exact e3
              have hq00 : (0 : Int) ≤ (q : Int) + 1 := by omega
              have hqN : (q : Int) < (n4 : Int) := by omega
              have hqN1 : (q : Int) + 1 < (n4 : Int) := by omega
              go_upto_region 9 with fail
              go_region_law (fail)
              all_goals
                go_wp2_with fail
                go_roundw
                case rel => exact ⟨q + 1 + 1, _, _, by omega, by go_num, HR.out.drew, HO.out, HF.out.1.drew, HF.out.2.drew⟩
                case measure => simp [intOf]; omega
          · have t0 : (0 : Int) < (k : Int) := by omega
            have t1 : decide ((k : Int) < (nf : Int)) = false := by simp; omega
            go_wp2_with fail
            go_roundw
            case rel => exact ⟨k + 1, _, _, by omega, by go_num, hrow, HOK.out, hrf, hb⟩
            case measure => simp [intOf]; omega
        · have t0 : decide ((0 : Int) < (k : Int)) = false := by simp; omega
          go_wp2_with fail
          go_roundw
          case rel => exact ⟨k + 1, _, _, by omega, by go_num, hrow, HOK.out, hrf, hb⟩
          case measure => simp [intOf]; omega
    · have hkn : k = n4 := by omega
      have hlen := OwnX.len hrow
      have HA := okK_all (ws := ws2) (by rw [hlen, ← hkn]; exact hok) (by omega)
      have HMi := Lib.hid (Mi.all_of HA (by omega))
      have HPx : Hid (∀ x ∈ ws2, okP x) := fun x hx => by
        obtain ⟨j, hj, rfl⟩ := List.getElem_of_mem hx
        have h := (hok j _ (List.getElem?_eq_getElem hj)).1
        exact ⟨h.1, h.2.1, Nat.le_trans h.2.2.2 (by omega)⟩
      have AL1 : Hid (allA zz ws2 = true) := by
        show _ = _
        unfold allA; rw [List.all_eq_true]; exact fun x hx => (HA x hx).1
      have HLw := Lib.hid hlen
      clear hok hrf HA hkn hk hlen
      go_upto_region 11 with fail
      go_cut [8] (fun v wx => ∃ (g8 : Nat) (ss : List (Option Addr × Nat × Nat)), v = .slice (some ⟨g8, 0, none⟩) 2 2 ∧ RdE sv wx (some ⟨g8, 0, none⟩) 2 2 ss ∧ Rds wx wx.heap.size ss zz ∧ BlE wr wx)
      case first =>
        have hmk : ∀ v, (Instr.makeSlice 23 (.int .i64 1000) (.int .i64 1000)).run Try.prog v = .ok (.slice (some ⟨v.heap.size, 0, none⟩) 1000 1000) (v.alloc (.cells (zerosB 1000) 5)) := Try.mkB .i64 1000 (by omega)
        go_region_law (fail)
        all_goals
          go_wp2_with fail
          go_meet
          case rel =>
            refine ⟨_, _, rfl, RdE.drew (RdE.svPair (by simp)), rds_two ?_ ?_, ?_⟩
            · (repeat (first | (refine RdE.zerosB ?_; (first | rfl | (simp; done))) | refine RdE.alloc ?_ | refine RdE.drew ?_))
            · (repeat (first | (refine RdE.zerosB ?_; (first | rfl | (simp; done))) | refine RdE.alloc ?_ | refine RdE.drew ?_))
            · (repeat (first | exact BlE.refl _ | refine BlE.drew ?_ | refine BlE.alloc ?_))
      case rest =>
        obtain ⟨g8, ss, rfl, hsd, hrs, hbx⟩ := hcut
        have hmono : ∀ (v v' : World) (C : Nat), Rds v C ss zz → Below v.heap.size v v' → C ≤ v.heap.size → Rds v' v'.heap.size ss zz := fun v v' C h hb' hC => ⟨h.1, fun j s ys h1 h2 => ((h.2 j s ys h1 h2).belowLe hb' hC).more (Nat.le_trans hC hb'.size)⟩
        have rowc := hrow.below hbx
        have szx := Below.size hbx
        have blc : Below w.heap.size w wc := hb.trans (Below.mono hbx hsz)
        have hrw := OwnX.rd rowc (S' := (· < wc.heap.size)) (fun b h => h.2.1) (fun b h => (OwnX.lt rowc b h).2)
        have FM := merge_any A4 n4 c4 (· < wc.heap.size) ws2 wc hrw (fun b h => h) (by omega) HPx
        clear hrow hb hbx hrw
        go_wp2_with fail
        refine FM.mono ?_
        rintro e w5 ⟨A6, n6, c6, rfl, r6, hb5⟩
        clear FM
        have HL6 := Lib.hid r6.len
        have hn6 : n6 ≤ n4 := by rw [← HL6.out, ← HLw.out]; exact HMi.out.len
        have row5 := rowc.below hb5
        have sd5 := RdE.below hsd hb5
        have rs5 := hmono wc w5 _ hrs hb5 (Nat.le_refl _)
        have bl5 : Below w.heap.size w w5 := blc.trans (hb5.mono (by omega))
        have sz5 := hb5.size
        have hrw5 := OwnX.rd row5 (S' := (· < w5.heap.size)) (fun b h => h.2.1) (fun b h => (OwnX.lt row5 b h).2)
        have AP1 := apply_any (some ⟨g8, 0, none⟩) 2 2 w5.heap.size ss zz A4 n4 c4 (· < w5.heap.size) ws2 w5 sd5 rs5 (Nat.le_refl _) hrw5 (fun b h => h) (by omega) (by omega)
          (fun xs hx => by rcases zz_mem hx with rfl; rw [List.length_replicate]; omega) (fun x hx => ⟨(HPx.out x hx).1, (HPx.out x hx).2.1, Nat.le_trans (HPx.out x hx).2.2 (by omega)⟩)
        clear rowc hsd hrs blc hrw5
        go_wp2_with fail
        refine AP1.mono ?_
        rintro e w6 h6
        clear AP1
        rcases h6 with ⟨h1, _⟩ | ⟨_, A7, c7, ss7, rfl, gr7, hb6⟩
        · rw [AL1.out] at h1; cases h1
        have sz6 := hb6.size
        have sd6 := RdE.below sd5 hb6
        have rs6 := hmono w5 w6 _ rs5 hb6 (Nat.le_refl _)
        have bl6 : Below w.heap.size w w6 := bl5.trans (hb6.mono (by omega))
        have r66 := r6.keep (Kp.below hb6 (fun b h => h.2)) (S' := (· < w6.heap.size)) (fun b h => Nat.lt_of_lt_of_le h.2 hb6.size)
        have HPm : Hid (∀ x ∈ mgN ws2, okP x) := mgN_plain HPx.out
        have AP2 := apply_any (some ⟨g8, 0, none⟩) 2 2 w6.heap.size ss zz A6 n6 c6 (· < w6.heap.size) (mgN ws2) w6 sd6 rs6 (Nat.le_refl _) r66 (fun b h => h) (by omega) (by omega)
          (fun xs hx => by rcases zz_mem hx with rfl; rw [List.length_replicate]; omega) (fun x hx => ⟨(HPm.out x hx).1, (HPm.out x hx).2.1, Nat.le_trans (HPm.out x hx).2.2 (by omega)⟩)
        clear row5 sd5 rs5 bl5 sd6 rs6 hb5 hmono r6
        rw [show zz.length = 2 from rfl] at gr7 ⊢
        go_wp2_with fail
        refine AP2.mono ?_
        rintro e w7 h7
        clear AP2
        rcases h7 with ⟨h1, _⟩ | ⟨_, A8, c8, ss8, rfl, gr8, hb7⟩
        · rw [HMi.out.all] at h1; cases h1
        rw [show zz.length = 2 from rfl] at gr8 ⊢
        rw [HMi.out.app] at gr8
        have sz7 := hb7.size
        have gr77 := gr7.below hb7
        have r7 := r66.keep (Kp.below hb7 (fun b h => h)) (S' := (· < w7.heap.size)) (fun b h => Nat.lt_of_lt_of_le h hb7.size)
        have bl7 : Below w.heap.size w w7 := bl6.trans (hb7.mono (by omega))
        have HZL : Hid (∀ xs ∈ applyN zz ws2, xs.length = 1000) := zz_lens (applyN_lens AL1.out (fun x hx => (HPx.out x hx).1))
        have hne : 0 < n4 → 0 < n6 := fun h => by
          rw [← HL6.out]
          exact List.length_pos_iff.2 (HMi.out.ne (by intro e; have := HLw.out; rw [e] at this; simp at this; omega))
        have sz7x : w.heap.size ≤ w7.heap.size := bl7.size
        clear gr7 hb6 hb7 r66 bl6
        generalize applyN zz ws2 = zss at *
        go_upto_region 15 with fail
        go_cut [132] (fun v wx => v = .bool false ∧ wx = w7)
        case first =>
          have tA : decide ((n4 : Int) < (n6 : Int)) = false := by simp; omega
          have tA2 : decide (n4 < n6) = false := by simp; omega
          by_cases hz : 0 < n4
          · have h6 := hne hz
            have tB : ((n6 : Int) == 0) = false := by simp; omega
            have tC : decide ((n6 : Int) = 0) = false := by simp; omega
            have tD : decide (n6 = 0) = false := by simp; omega
            have tE : (0 : Int) < (n4 : Int) := by omega
            go_wp2_with fail
            go_meet
            case rel => exact ⟨rfl, rfl⟩
          · have tB : decide ((0 : Int) < (n4 : Int)) = false := by simp; omega
            have tC : decide (0 < n4) = false := by simp; omega
            go_wp2_with fail
            go_meet
            case rel => exact ⟨rfl, rfl⟩
        case rest =>
          obtain ⟨rfl, hw⟩ := hcut
          rw [hw]
          clear hw wc
          go_wp2_with fail
          go_loopw [135] (fun i wr => ∃ (k : Nat), k ≤ n6 ∧ i = .int .i64 k ∧ Below w7.heap.size w7 wr)
            (fun i _ => n6 - (intOf i).toNat)
          case atStart => exact ⟨0, Nat.zero_le _, rfl, Below.refl _ _⟩
          case round =>
            obtain ⟨k, hk, rfl, hbr⟩ := hrel
            by_cases hlt : k < n6
            · have hkx : k < (mgN ws2).length := by rw [HL6.out]; exact hlt
              have rr := r7.keep (Kp.below hbr (fun b h => h)) (S' := (· < wr.heap.size)) (fun b h => Nat.lt_of_lt_of_le h hbr.size)
              have hright : okA zz (mgN ws2)[k] = true := by
                have h := HMi.out.all; unfold allA at h; rw [List.all_eq_true] at h; exact h _ (List.getElem_mem hkx)
              have hPk := HPm.out _ (List.getElem_mem hkx)
              obtain ⟨b, off, A3, n3, c3, rfl, hbl, c0, c1, c2, hrd⟩ := rdW_at rr k hkx
              have HXk : Hid ((mgN ws2)[k]? = some (mgN ws2)[k]) := List.getElem?_eq_getElem hkx
              have hl3 := hrd.len
              have hszr := hbr.size
              generalize (mgN ws2)[k] = x at *
              obtain ⟨xs, xa, xd⟩ := x
              simp only at c0 c1 hl3
              have hPk' : 0 ≤ xa ∧ xa < 4294967296 ∧ xd.length ≤ 4096 := hPk
              clear hPk
              obtain ⟨hp0, hp1, hp2⟩ := hPk'
              have hn3 : n3 ≤ 4096 := by omega
              have hR : Hid (rightB (xs.toNat : Int) xa n3 = true) := by
                show _ = _
                unfold okA at hright
                rw [Bool.and_eq_true] at hright
                rw [← hl3]; exact hright.1
              have HL3 := Lib.hid hl3
              clear hright hl3 hp2 hrd
              have hxs := xs.toNat_lt
              have hkN : (k : Int) < (n6 : Int) := by omega
              go_upto_region 20 with fail
              have k0 : (wr.alloc (.cells #[.int .u8 (xs.toNat : Int), .int .u32 xa, .slice A3 n3 c3] 44)).cell? ⟨wr.heap.size, 0, none⟩ = some (.int .u8 (xs.toNat : Int)) := box_cell (Below.refl _ _) 0
              have k1 : (wr.alloc (.cells #[.int .u8 (xs.toNat : Int), .int .u32 xa, .slice A3 n3 c3] 44)).cell? ⟨wr.heap.size, 1, none⟩ = some (.int .u32 xa) := box_cell (Below.refl _ _) 1
              have k2 : (wr.alloc (.cells #[.int .u8 (xs.toNat : Int), .int .u32 xa, .slice A3 n3 c3] 44)).cell? ⟨wr.heap.size, 2, none⟩ = some (.slice A3 n3 c3) := box_cell (Below.refl _ _) 2
              have hsW : (wr.alloc (.cells #[.int .u8 (xs.toNat : Int), .int .u32 xa, .slice A3 n3 c3] 44)).heap.size = wr.heap.size + 1 := by simp
              have hbW : Below w7.heap.size w7 (wr.alloc (.cells #[.int .u8 (xs.toNat : Int), .int .u32 xa, .slice A3 n3 c3] 44)) := hbr.alloc hszr _
              have rW := rr.keep (Kp.alloc (fun b h => h) (.cells #[.int .u8 (xs.toNat : Int), .int .u32 xa, .slice A3 n3 c3] 44)) (S' := (· < (wr.alloc (.cells #[.int .u8 (xs.toNat : Int), .int .u32 xa, .slice A3 n3 c3] 44)).heap.size)) (fun b h => by simp; omega)
              clear c0 c1 c2 rr hbr
              generalize wr.alloc (.cells #[.int .u8 (xs.toNat : Int), .int .u32 xa, .slice A3 n3 c3] 44) = Wb at *
              have hL1 : wr.heap.size < Wb.heap.size := by omega
              generalize wr.heap.size = L at *
              have q3 : ∀ n', (mP Wb n').cell? ⟨L, 0, none⟩ = some (.int .u8 (xs.toNat : Int)) := fun n' => mP_cell hL1 k0 n'
              have q4 : ∀ n', (mP Wb n').cell? ⟨L, 1, none⟩ = some (.int .u32 xa) := fun n' => mP_cell hL1 k1 n'
              have q5 : ∀ n', (mP Wb n').cell? ⟨L, 2, none⟩ = some (.slice A3 n3 c3) := fun n' => mP_cell hL1 k2 n'
              have Q : ∀ n', Calls Try.prog 15 #[.agg #[.int .u8 (xs.toNat : Int), .int .u32 xa, .slice A3 n3 c3]] (mP Wb n') (fun e w' => e = .returned (.bool true) ∧ ∃ m, w' = mP Wb m) := fun n' =>
                Calls.more_q ((wright_any (xs.toNat : Int) xa A3 n3 c3 (mP Wb n') (by omega) (by omega) hp0 hp1 (by omega)).mono fun e w' h => ⟨by rw [h.1, hR.out], h.2⟩)
              clear k0 k1 k2
              by_cases hk0 : 0 < k
              · obtain ⟨q, rfl⟩ : ∃ q, k = q + 1 := ⟨k - 1, by omega⟩
                have hqx : q < (mgN ws2).length := by omega
                have HXq : Hid ((mgN ws2)[q]? = some (mgN ws2)[q]) := List.getElem?_eq_getElem hqx
                have hPq := HPm.out _ (List.getElem_mem hqx)
                obtain ⟨b', off', A5', n5, c5', e9, hbl', d0, d1, d2, hrdq⟩ := rdW_at rW q hqx
                injection e9 with e9; injection e9 with e9 e10; subst e9; subst e10
                have hl5 := hrdq.len
                generalize (mgN ws2)[q] = y at *
                obtain ⟨ys, ya, yd⟩ := y
                simp only at d0 d1 hl5
                have hPq' : 0 ≤ ya ∧ ya < 4294967296 ∧ yd.length ≤ 4096 := hPq
                clear hPq hrdq
                obtain ⟨hy0, hy1, hy2⟩ := hPq'
                have hap := HMi.out.apart q _ _ HXq.out HXk.out
                simp only at hap
                rw [hl5] at hap hy2
                have hyR : ya + (n5 : Int) ≤ 65536 := by
                  have h := HMi.out.all; unfold allA at h; rw [List.all_eq_true] at h
                  have h2 := h _ (List.mem_of_getElem? HXq.out)
                  unfold okA at h2
                  rw [Bool.and_eq_true] at h2
                  have h3 := (rightB_true.1 h2.1).2.2.2.2
                  simp only at h3
                  rw [hl5] at h3; exact h3
                have hys := ys.toNat_lt
                have e3 : IntKind.i64.wrap (q : Int) = (q : Int) := IntWalk.i64_in _ (by omega)
                have e7 : IntKind.i64.wrap (((q + 1 : Nat) : Int) - 1) = (q : Int) := by rw [show (((q + 1 : Nat) : Int) - 1) = (q : Int) from by omega]; exact e3
                have e4 : IntKind.u32.wrap (n5 : Int) = (n5 : Int) := wrap_uns .u32 rfl n5 (by show n5 < 2 ^ 32; omega)
                have e5 : IntKind.u32.wrap (ya + (n5 : Int)) = ya + (n5 : Int) := IntWalk.u32_in _ (by omega)
                have hq00 : (0 : Int) ≤ (q : Int) + 1 := by omega
                have hq01 : (0 : Int) < (q : Int) + 1 := by omega
                have hqN : (q : Int) < (n6 : Int) := by omega
                have hqN1 : (q : Int) + 1 < (n6 : Int) := by omega
                have q0 : ∀ n', (mP Wb n').cell? ⟨b, off + q * 3, none⟩ = some (.int .u8 (ys.toNat : Int)) := fun n' => mP_cell hbl' d0 n'
                have q1 : ∀ n', (mP Wb n').cell? ⟨b, off + q * 3 + 1, none⟩ = some (.int .u32 ya) := fun n' => mP_cell hbl' d1 n'
                have q2 : ∀ n', (mP Wb n').cell? ⟨b, off + q * 3 + 2, none⟩ = some (.slice A5' n5 c5') := fun n' => mP_cell hbl' d2 n'
                clear d0 d1 d2
                by_cases hse : ys = xs
                · subst hse
                  have hap2 : ¬ ya + (n5 : Int) = xa := fun e => hap ⟨rfl, e⟩
                  have t2 : (ya + (n5 : Int) == xa) = false := by simpa using hap2
                  have t3 : decide (ya + (n5 : Int) = xa) = false := by simpa using hap2
                  clear hap hap2
                  refine wp_region_more (by kernel_rfl) (by kernel_rfl) ?_
                  repeat (go_big_quiet_step (first | (go_at_call 15; exact Q _)))
                  refine wpQuiet_nil ?_
                  intro w9 hw'
                  have hb9 : BlE Wb w9 := by obtain ⟨nq, rfl⟩ := hw'; exact mP_below Wb nq
                  clear hw' q0 q1 q2 q3 q4 q5 Q
                  go_wp2_with fail
                  go_roundw
                  case rel => exact ⟨q + 1 + 1, by omega, by go_num, hbW.trans (Below.mono hb9 (by omega))⟩
                  case measure => simp [intOf]; omega
                · have h1' : ¬ ys.toNat = xs.toNat := fun e => hse (UInt8.toNat_inj.1 e)
                  have t1 : ((ys.toNat : Int) == (xs.toNat : Int)) = false := by simp; omega
                  have t4 : decide ((ys.toNat : Int) = (xs.toNat : Int)) = false := by simp; omega
                  have t5 : decide (ys.toNat = xs.toNat) = false := by simp; omega
                  clear hap h1' hse
                  refine wp_region_more (by kernel_rfl) (by kernel_rfl) ?_
                  repeat (go_big_quiet_step (first | (go_at_call 15; exact Q _)))
                  refine wpQuiet_nil ?_
                  intro w9 hw'
                  have hb9 : BlE Wb w9 := by obtain ⟨nq, rfl⟩ := hw'; exact mP_below Wb nq
                  clear hw' q0 q1 q2 q3 q4 q5 Q
                  go_wp2_with fail
                  go_roundw
                  case rel => exact ⟨q + 1 + 1, by omega, by go_num, hbW.trans (Below.mono hb9 (by omega))⟩
                  case measure => simp [intOf]; omega
              · have t0 : decide ((0 : Int) < (k : Int)) = false := by simp; omega
                have t1 : decide (0 < k) = false := by simp; omega
                refine wp_region_more (by kernel_rfl) (by kernel_rfl) ?_
                repeat (go_big_quiet_step (first | (go_at_call 15; exact Q _)))
                refine wpQuiet_nil ?_
                intro w9 hw'
                have hb9 : BlE Wb w9 := by obtain ⟨nq, rfl⟩ := hw'; exact mP_below Wb nq
                clear hw' q3 q4 q5 Q
                go_wp2_with fail
                go_roundw
                case rel => exact ⟨k + 1, by omega, by go_num, hbW.trans (Below.mono hb9 (by omega))⟩
                case measure => simp [intOf]; omega
            · have bl9 := bl7.trans (hbr.mono sz7x)
              obtain ⟨g1, A0, n0, c0, A1, n1, c1, x0, x1, rfl, k0, k1, hz, v0, v1⟩ := (gr77.below hbr).two
              obtain ⟨g2, B0, m0, d0, B1, m1, d1, y0, y1, rfl, k2, k3, hz2, u0, u1⟩ := (gr8.below hbr).two
              rw [hz] at hz2
              injection hz2 with hz2 hz3
              injection hz3 with hz3
              subst hz2; subst hz3
              have hx0 := HZL.out x0 (by rw [hz]; simp)
              have hx1 := HZL.out x1 (by rw [hz]; simp)
              have hn0 : n0 = 1000 := by rw [← v0.len, hx0]
              have hn1 : n1 = 1000 := by rw [← v1.len, hx1]
              have hn0' : n0 ≤ 9223372036854775807 := by omega
              have hn1' : n1 ≤ 9223372036854775807 := by omega
              have FQ0 := fun (q : Nat) => quiet_still (same_yes A0 B0 n0 c0 m0 d0 _ _ x0 _ (v0.drewN q) (u0.drewN q) hn0')
              have FQ1 := fun (q : Nat) => quiet_still (same_yes A1 B1 n1 c1 m1 d1 _ _ x1 _ (v1.drewN q) (u1.drewN q) hn1')
              clear v0 v1 u0 u1 hn0 hn1 gr77 gr8 r7 hz hx0 hx1
              go_wp2_with fail
              go_quiet (first | (go_at_call_of 16 (Value.slice A0 n0 c0); exact FQ0 _) | (go_at_call_of 16 (Value.slice A1 n1 c1); exact FQ1 _))
              go_wp2
              go_ret
              exact ⟨rfl, bl9.trans (Still.below ⟨_, rfl⟩ _)⟩

end Go.Proofs.Ytkgccoghdalniaa
