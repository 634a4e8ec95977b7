/- The walk of the law ScrollApplies. -/
import Derived.Test.YtnkagonbkaecfaaDuo
import Derived.Deep.RegionLaw
namespace Go.Proofs.Ytnkagonbkaecfaa
open Go.RowKit

theorem own_zeros {w : World} {base : Nat} {A : Option Addr} {m c : Nat} (h : w.ownsRow base 5 1 (.slice A m c) m (madeCells (Value.int .u8 0).cells (m * 1)).toList) : Own bv w base 5 A m c (List.replicate m 0) := by
  refine ⟨?_, by simp⟩
  have e : (madeCells (Value.int .u8 0).cells (m * 1)).toList = (List.replicate m (0 : UInt8)).map bv := by
    show (madeCells #[.int .u8 0] (m * 1)).toList = _
    rw [toList_madeCells_one, Nat.mul_one, List.map_replicate]
    rfl
  rw [e] at h
  exact h

theorem adj_plain {xss : List (List UInt8)} {ws : List Wm} (h : ∀ x ∈ ws, 0 ≤ x.pl ∧ x.pl < 4294967296 ∧ x.data.length ≤ 60) {x : Wm} (hx : x ∈ ws.map (adjW xss)) : 0 ≤ x.pl ∧ x.pl < 4294967296 ∧ x.data.length ≤ 60 := by
  rw [List.mem_map] at hx
  obtain ⟨y, hy, rfl⟩ := hx
  have := h y hy
  unfold adjW
  split
  · exact this
  · generalize ((xss.getD (y.side.toNat % xss.length) []).length : Int) = m
    have hm : 0 < max m 1 := by omega
    have h1 := Int.emod_nonneg y.pl (show max m 1 ≠ 0 by omega)
    have h2 : y.pl % max m 1 ≤ y.pl := by
      by_cases hlt : y.pl < max m 1
      · rw [Int.emod_eq_of_lt this.1 hlt]; exact Int.le_refl _
      · have := Int.emod_lt_of_pos y.pl hm; omega
    exact ⟨h1, by simp only; omega, this.2.2⟩
theorem few_plain {ws : List Wm} (h : ∀ y ∈ ws, plB y) {x : Wm} (hx : x ∈ fewN false ws) : 0 ≤ x.pl ∧ x.pl < 4294967296 ∧ x.data.length ≤ 60 := by
  unfold fewN at hx
  rw [List.mem_mapIdx] at hx
  obtain ⟨i, hi, rfl⟩ := hx
  have := h _ (List.mem_of_mem_take (List.getElem_mem hi))
  unfold fixW
  rw [if_neg (by decide)]
  exact ⟨this.1, this.2.1, by simp; omega⟩

set_option maxRecDepth 100000 in
set_option maxHeartbeats 8000000 in
theorem scrollApplies_walk (As : Option Addr) (ns cs : Nat) (xs : List UInt8) (Al : Option Addr) (nl cl : Nat) (ws : List Wm) (raw : Bool) (w : World) (hr0 : Rd bv w w.heap.size As ns cs xs) (hcs : cs ≤ maxLen)
    (hl0 : RdX (shW .u8 .u32) w (· < w.heap.size) Al nl cl ws) (hcl : cl ≤ maxLen) (hq : ∀ y ∈ ws, plB y) :
    Calls Try.prog 6 #[.slice As ns cs, .slice Al nl cl, .bool raw] w fun e w' => e = .returned (.bool true) ∧ Below w.heap.size w w' := by
  have hn : ns ≤ 9223372036854775807 := by have := hr0.cap; unfold maxLen at hcs; omega
  have hnl : nl ≤ 9223372036854775807 := by have := hl0.cap; unfold maxLen at hcl; omega
  have HL := Lib.hid hr0.len
  have HQ := Lib.hid hq
  clear hq
  obtain ⟨i0, hi, hz0, hz1, hz2⟩ := info_parts Try.infoU8
  obtain ⟨j0, hj, hy0, hy1, hy2⟩ := info_parts Try.infoBs
  go_enter Try.func6, Try.ntmps6
  go_wp2_with fail
  refine (awake3_any _).mono ?_
  rintro e w1 ⟨rfl, hb1⟩
  go_wp2_with fail
  go_loopw [7, 27] (fun v i wr => ∃ (k : Nat) (A6 : Option Addr) (n6 c6 : Nat) (ss : List (Option Addr × Nat × Nat)), k ≤ ns ∧ n6 ≤ 8 ∧ i = .int .i64 k ∧ v = .slice A6 n6 c6 ∧ Grid wr w.heap.size A6 n6 c6 ss (sidesN (xs.take k)) ∧ Below w.heap.size w wr)
    (fun _ i _ => ns - (intOf i).toNat)
  case atStart => exact ⟨0, none, 0, 0, [], Nat.zero_le _, Nat.zero_le _, rfl, rfl, Grid.empty _ _, hb1⟩
  case round =>
    obtain ⟨k, A6, n6, c6, ss, hk, hn6, rfl, rfl, hgr, hb⟩ := hrel
    have hsz := hb.size
    by_cases hlt : k < ns
    · have hkx : k < xs.length := by rw [HL.out]; exact hlt
      obtain ⟨b, off, rfl, hbB, hc0⟩ := hr0.at_ k hkx
      have hc : wr.cell? ⟨b, off + k, none⟩ = some (bv xs[k]) := (hb.cell (p := ⟨b, off + k, none⟩) hbB).trans hc0
      clear hc0
      by_cases h8 : k < 8
      · have HT := Lib.hid (sidesN_snoc xs k hkx h8)
        have hl6 : n6 ≤ k := by
          have := hgr.len; rw [sidesN_len] at this; simp at this; omega
        generalize xs[k] = x at *
        unfold bv at hc
        have hx := x.toNat_lt
        have t8 : decide ((k : Int) < 8) = true := by simp; omega
        go_wp2_with (first
          | (at_make
             refine wpList_make_full _ rfl _ _ 25 rfl w.heap.size 5 i0 _ 1 Try.underlying25 hi hz0 hz1 .u8 .u8 _ _ x.toNat rfl rfl rfl rfl (by rw [hz2]; omega) (by simp only [maxLen]; omega) hsz ?_
             intro w2 hown2 hg2
             have ho2 := own_zeros hown2
             have bl2 : Below wr.heap.size wr w2 := (Below.refl _ _).grown hg2 (Nat.le_refl _) (by simp)
             have gr2 := hgr.below bl2
             have hs2 := bl2.size
             clear hown2 hg2)
          | (at_builtin
             refine wpList_push shV _ rfl (.tmp 34) (.tmp 37) 32 rfl w.heap.size 25 j0 _ 24 Try.underlying32 hj hy0 hy1 hy2 rfl (fun _ => False) A6 n6 c6 ss _ rfl (gr2.row.toX _) _ _ _ _ _ (some ⟨wr.heap.size, 0, none⟩, x.toNat, x.toNat) (some ⟨wr.heap.size, 0, none⟩, x.toNat, x.toNat) rfl rfl rfl rfl (fun b h => h.elim) (by simp only [maxLen]; omega) (by omega) (by omega) ?_
             intro g6 c7 w6 hown6 hg6 hat6 hlt6))
        have gr6 : Grid w6 w.heap.size (some ⟨g6, 0, none⟩) (n6 + 1) c7 (ss ++ [(some ⟨wr.heap.size, 0, none⟩, x.toNat, x.toNat)]) (sidesN (xs.take k) ++ [List.replicate x.toNat 0]) :=
          gr2.pushed hown6.toO hg6 ho2 (fun q hq j t hj e => by
            have h1 : q = wr.heap.size := by simpa using hq.symm
            have hjl : j < n6 := by
              rcases Nat.lt_or_ge j n6 with h | h
              · exact h
              · rw [List.getElem?_eq_none (by rw [hgr.slen]; exact h)] at hj; cases hj
            have h2 := (hgr.each j t _ hj (List.getElem?_eq_getElem (by rw [hgr.len]; exact hjl))).ltA q e.symm
            omega)
        go_roundw
        case rel => exact ⟨k + 1, _, n6 + 1, c7, _, by omega, by omega, by go_num, rfl, by rw [HT.out]; exact gr6, (hb.trans (bl2.mono hsz)).grown hg6 (by omega) (fun q hq => (gr2.row.ltA q hq).1)⟩
        case measure => simp [intOf]; omega
      · have HT := Lib.hid (sidesN_stop xs k (by omega))
        generalize xs[k] = x at *
        unfold bv at hc
        have t8 : decide ((k : Int) < 8) = false := by simp; omega
        go_wp2
        go_roundw
        case rel => exact ⟨k + 1, A6, n6, c6, ss, by omega, hn6, by go_num, rfl, by rw [HT.out]; exact hgr, hb⟩
        case measure => simp [intOf]; omega
    · have hgr' : Grid wr w.heap.size A6 n6 c6 ss (sidesN xs) := by
        rw [List.take_of_length_le (l := xs) (by rw [HL.out]; omega)] at hgr; exact hgr
      clear hgr
      have FF := few_raw Al nl cl _ ws wr (hl0.keep (Kp.below hb (fun b h => h)) (fun _ h => h)) (fun b h => by omega) hnl (fun x hx => ⟨(HQ.out x hx).1, (HQ.out x hx).2.1⟩) (fun x hx => (HQ.out x hx).2.2)
      go_wp2_with fail
      refine FF.mono ?_
      rintro e w2 ⟨A4, n4, c4, rs4, A5, c5, rs5, rfl, htw, hb2⟩
      clear FF
      have hs2 := hb2.size
      have duo0 := htw.duo
      have gr2 := hgr'.below hb2
      have bl2 := hb.trans (hb2.mono hsz)
      have hn4 : n4 ≤ 8 := by have := htw.one.len; rw [fewN_len] at this; omega
      have HP : Hid (∀ x ∈ fewN false ws, 0 ≤ x.pl ∧ x.pl < 4294967296 ∧ x.data.length ≤ 60) := fun x hx => few_plain HQ.out hx
      have HX : Hid (∀ ys ∈ sidesN xs, ys.length ≤ 255 ∧ ∀ x ∈ ys, x = 0) := fun ys hy => sidesN_mem hy
      clear htw hgr'
      have hB := hsz
      generalize fewN false ws = ws1 at *
      generalize sidesN xs = xss at *
      generalize wr.heap.size = B at *
      have HLX := Lib.hid gr2.len
      clear hb2 hb hs2
      go_upto_if 46 with fail
      go_cut [12, 13] (fun v12 v13 wx => ∃ rsA rsB ws2, Duo wx B A4 n4 c4 rsA A5 c5 rsB ws2 (ws2.map refW) ∧ (∀ x ∈ ws2, 0 ≤ x.pl ∧ x.pl < 4294967296 ∧ x.data.length ≤ 60) ∧ Grid wx w.heap.size A6 n6 c6 ss xss ∧ Below w.heap.size w wx)
      case first =>
        cases raw with
        | true =>
          go_wp2_with fail
          go_meet
          case rel => exact ⟨_, _, _, duo0, HP.out, gr2, bl2⟩
        | false =>
          go_wp2_with fail
          go_loopw [49] (fun i wr => ∃ (k : Nat) (rsA rsB : List RawW), k ≤ n4 ∧ i = .int .i64 k ∧ Duo wr B A4 n4 c4 rsA A5 c5 rsB (adjN xss ws1 k) ((adjN xss ws1 k).map refW) ∧ Grid wr w.heap.size A6 n6 c6 ss xss ∧ Below w.heap.size w wr)
            (fun i _ => n4 - (intOf i).toNat)
          case atStart => exact ⟨0, _, _, Nat.zero_le _, rfl, by rw [adjN_zero]; exact duo0, gr2, bl2⟩
          case round =>
            clear duo0 gr2 bl2
            obtain ⟨k, rsA, rsB, hk, rfl, hduo, hgr, hb⟩ := hrel
            have hsz := hb.size
            have HLW := Lib.hid (hduo.one.len)
            by_cases hlt : k < n4
            · have hkw : k < ws1.length := by rw [← adjN_len xss ws1 k, HLW.out]; exact hlt
              obtain ⟨ga, A3, n3, c3, rfl, hga, hgl, hra, hc0, hc1, hrd⟩ := hduo.one.atW k hlt
              obtain ⟨gb, A7, n7, c7, rfl, hgb, hgbl, hrb, hd0, hd1, hrd2⟩ := hduo.two.atW k hlt
              have hba : gb ≠ ga := off_some.1 (hduo.sep gb rfl)
              have fa0 := hduo.one.frozen (k * 3)
              have fa1 := hduo.one.frozen (k * 3 + 1)
              have fb0 := hduo.two.frozen (k * 3)
              have fb1 := hduo.two.frozen (k * 3 + 1)
              simp only [List.getElem_map] at hrb hd0 hd1 hrd2
              rw [adjN_at xss ws1 k hkw] at hra hc0 hc1 hrd hrb hd0 hd1 hrd2
              have HSE : Hid ((adjN xss ws1 k).set k ws1[k] = adjN xss ws1 k) := by
                show _ = _
                have : (adjN xss ws1 k).set k ((adjN xss ws1 k)[k]'(by rw [adjN_len]; exact hkw)) = adjN xss ws1 k := List.set_getElem_self _
                rw [adjN_at xss ws1 k hkw] at this; exact this
              have HST := Lib.hid (adjN_step xss ws1 k hkw)
              have hpx := HP.out ws1[k] (List.getElem_mem hkw)
              have HAT : Hid (((adjN xss ws1 k).map refW)[k]? = some (refW ws1[k])) := by
                show _ = _
                rw [List.getElem?_map, List.getElem?_eq_getElem (by rw [adjN_len]; exact hkw), adjN_at xss ws1 k hkw]; rfl
              generalize ws1[k] = x at *
              obtain ⟨sd, pl, dt⟩ := x
              simp only at hra hc0 hc1 hrd hpx
              simp only [refW] at hrb hd0 hd1 hrd2
              obtain ⟨hp0, hp1, hp2⟩ := hpx
              have hkN : (k : Int) < (n4 : Int) := by omega
              have hsd := sd.toNat_lt
              go_upto_if 55 with fail
              go_cut [] (fun wx => ∃ (rsA2 : List RawW) (sd2 : UInt8) (pl2 : Int), adjW xss ⟨sd, pl, dt⟩ = ⟨sd2, pl2, dt⟩ ∧ 0 ≤ pl2 ∧ pl2 < 4294967296 ∧ Duo wx B (some ⟨ga, 0, none⟩) n4 c4 rsA2 (some ⟨gb, 0, none⟩) c5 rsB ((adjN xss ws1 k).set k ⟨sd2, pl2, dt⟩) ((adjN xss ws1 k).map refW) ∧ Grid wx w.heap.size A6 n6 c6 ss xss ∧ Below w.heap.size w wx)
              case first =>
                by_cases h6 : n6 = 0
                · have HA : Hid (adjW xss ⟨sd, pl, dt⟩ = ⟨sd, pl, dt⟩) := adjW_none (by rw [HLX.out]; exact h6) _
                  have hds : Duo wr B (some ⟨ga, 0, none⟩) n4 c4 rsA (some ⟨gb, 0, none⟩) c5 rsB ((adjN xss ws1 k).set k ⟨sd, pl, dt⟩) ((adjN xss ws1 k).map refW) := by
                    rw [HSE.out]; exact hduo
                  subst h6
                  go_wp2_with fail
                  go_meet
                  case rel => exact ⟨_, _, _, HA.out, hp0, hp1, hds, hgr, hb⟩
                · have t6 : (0 : Int) < (n6 : Int) := by omega
                  have t6' : 0 < n6 := by omega
                  have w6 : IntKind.u8.wrap (n6 : Int) = (n6 : Int) := wrap_uns .u8 rfl n6 (by show n6 < 2 ^ 8; omega)
                  go_upto_region 18 with fail
                  have hs2 : sd.toNat % n6 < n6 := Nat.mod_lt _ t6'
                  have e2 : ((sd.toNat : Int) % (n6 : Int)) = ((UInt8.ofNat (sd.toNat % n6)).toNat : Int) := by
                    rw [UInt8.toNat_ofNat', Nat.mod_eq_of_lt (show sd.toNat % n6 < 2 ^ 8 by omega)]; exact (Int.natCast_emod _ _).symm
                  have HE : Hid ((UInt8.ofNat (sd.toNat % n6)).toNat = sd.toNat % n6) := by
                    show _ = _
                    rw [UInt8.toNat_ofNat', Nat.mod_eq_of_lt (show sd.toNat % n6 < 2 ^ 8 by omega)]
                  have HA0 : Hid (adjW xss ⟨sd, pl, dt⟩ = ⟨UInt8.ofNat (sd.toNat % n6), pl % (max ((xss.getD (sd.toNat % n6) []).length : Int) 1), dt⟩) := by
                    show _ = _
                    unfold adjW; rw [HLX.out, if_neg h6]
                  simp only [e2]
                  clear e2
                  have hs2' : (UInt8.ofNat (sd.toNat % n6)).toNat < n6 := by rw [HE.out]; exact hs2
                  rw [← HE.out] at HA0
                  generalize UInt8.ofNat (sd.toNat % n6) = sd2 at *
                  have hst := (hduo.one.own.stored (k * 3) (.int .u8 (sd2.toNat : Int))).2
                  have duo1 := hduo.set1 k 0 (k * 3) _ ⟨sd2, pl, A3, n3, c3⟩ ⟨sd2, pl, dt⟩ (.int .u8 (sd2.toNat : Int)) hlt (by omega) (by omega) hra rfl ⟨rfl, rfl, hrd⟩
                  have gr1 := hgr.kept hst (fun q hq _ => by injection hq with hq; subst hq; exact ⟨_, hduo.one.ty rfl, by decide, by decide⟩)
                  have c0 : (wr.setCell ⟨ga, k * 3, none⟩ (.int .u8 (sd2.toNat : Int))).cell? ⟨ga, k * 3, none⟩ = some (.int .u8 (sd2.toNat : Int)) := World.cell?_setCell_same _ _ _ hc0
                  have c1 : (wr.setCell ⟨ga, k * 3, none⟩ (.int .u8 (sd2.toNat : Int))).cell? ⟨ga, k * 3 + 1, none⟩ = some (.int .u32 pl) := (World.cell?_setCell_other _ _ _ _ (fun e => by injection e with e1 e2; omega)).trans hc1
                  have bl1 : Below w.heap.size w (wr.setCell ⟨ga, k * 3, none⟩ (.int .u8 (sd2.toNat : Int))) := hb.setCell (by show _ ≤ ga; omega) _
                  have hra1 : (rsA.set k ⟨sd2, pl, A3, n3, c3⟩)[k]? = some ⟨sd2, pl, A3, n3, c3⟩ := List.getElem?_set_self (by have := hduo.one.lenr; omega)
                  have f1 := duo1.one.frozen (k * 3 + 1)
                  generalize wr.setCell ⟨ga, k * 3, none⟩ (.int .u8 (sd2.toNat : Int)) = W1 at *
                  clear hc0 hc1 hd0 hd1 hrd hrd2 hra hrb fa0 fa1 fb0 fb1 hduo hgr hb hst
                  obtain ⟨g6, rfl⟩ := gr1.row.zero t6'
                  obtain ⟨t, hts, hot⟩ := gr1.at_ sd2.toNat hs2'
                  have hcT := gr1.row.rd.at_ sd2.toNat (by rw [gr1.slen]; exact hs2')
                  obtain ⟨b', o', e1, _, hcT⟩ := hcT
                  injection e1 with e1; injection e1 with e1 e2; subst e1; subst e2
                  rw [Nat.zero_add] at hcT
                  have hte : ss[sd2.toNat]'(by rw [gr1.slen]; exact hs2') = t := by rw [List.getElem?_eq_getElem (by rw [gr1.slen]; exact hs2')] at hts; injection hts
                  rw [hte] at hcT
                  have hlx : (xss.getD sd2.toNat []).length = t.2.1 := by
                    rw [← hot.len, List.getD_eq_getElem?_getD, List.getElem?_eq_getElem (by rw [gr1.len]; exact hs2')]; rfl
                  have hm255 : (xss.getD sd2.toNat []).length ≤ 255 := by
                    rw [List.getD_eq_getElem?_getD, List.getElem?_eq_getElem (by rw [gr1.len]; exact hs2')]
                    exact (HX.out _ (List.getElem_mem _)).1
                  rw [hlx] at HA0 hm255
                  clear hte hlx hot hts
                  obtain ⟨At, nt, ct⟩ := t
                  unfold sv at hcT
                  simp only at hcT HA0 hm255
                  have w7 : IntKind.u32.wrap (nt : Int) = (nt : Int) := wrap_uns .u32 rfl nt (by show nt < 2 ^ 32; omega)
                  have hs3 : (sd2.toNat : Int) < (n6 : Int) := by omega
                  have q6 : (if (nt : Int) < 1 then (1 : Int) else (nt : Int)) = max (nt : Int) 1 := by split <;> omega
                  have hM0 : max (nt : Int) 1 ≠ 0 := by omega
                  have hM1 : 0 < max (nt : Int) 1 := by omega
                  generalize max (nt : Int) 1 = M at *
                  have q7 : pl.tmod M = pl % M := Int.tmod_eq_emod_of_nonneg hp0
                  have q8 : 0 ≤ pl % M := Int.emod_nonneg _ hM0
                  have q9 : pl % M ≤ pl := by
                    by_cases hlt : pl < M
                    · rw [Int.emod_eq_of_lt hp0 hlt]; exact Int.le_refl _
                    · have := Int.emod_lt_of_pos pl hM1; omega
                  have HA1 : Hid (adjW xss ⟨sd, pl, dt⟩ = ⟨sd2, pl % M, dt⟩) := by show _ = _; rw [HA0.out, UInt8.ofNat_toNat]
                  have hrd1 := (duo1.one.ok k _ _ hra1 (List.getElem?_set_self (by rw [adjN_len]; exact hkw))).2.2
                  have hst1 := (duo1.one.own.stored (k * 3 + 1) (.int .u32 (pl % M))).2
                  have duo2 := (duo1.set1 k 1 (k * 3 + 1) _ ⟨sd2, pl % M, A3, n3, c3⟩ ⟨sd2, pl % M, dt⟩ (.int .u32 (pl % M)) hlt (by omega) rfl hra1 rfl ⟨rfl, rfl, hrd1⟩).below (Below.refl _ _).drew
                  have gr2 := (gr1.kept hst1 (fun q hq _ => by injection hq with hq; subst hq; exact ⟨_, duo1.one.ty rfl, by decide, by decide⟩)).below (Below.refl _ _).drew
                  have bl2 : Below w.heap.size w (W1.setCell ⟨ga, k * 3 + 1, none⟩ (.int .u32 (pl % M))).drew := (bl1.setCell (by show _ ≤ ga; omega) _).drew
                  rw [List.set_set, List.set_set] at duo2
                  have HD := Lib.hid duo2
                  clear duo2 duo1 gr1 bl1 hst1 hrd1 HA0
                  go_region_law (fail)
                  all_goals
                    go_wp2_with fail
                    go_meet
                    exact ⟨_, _, _, HA1.out, q8, by omega, HD.out, gr2, bl2⟩
              case rest =>
                obtain ⟨rsA2, sd2, pl2, hA, hq0, hq1, hduo2, hgr2, hb2⟩ := hcut
                have HA := Lib.hid hA
                clear hA hduo hgr hb hc0 hc1 hd0 hd1 hrd hrd2 hra hrb fa0 fa1 fb0 fb1 hp0 hp1 hga hgl hgb hgbl hsd
                have hal : k < ((adjN xss ws1 k).set k ⟨sd2, pl2, dt⟩).length := by simp; rw [adjN_len]; exact hkw
                obtain ⟨ga', A3', n3', c3', e1, hga, hgl, hra, hc0, hc1, hrdA⟩ := hduo2.one.atW k hlt
                injection e1 with e1; injection e1 with e1; subst e1
                obtain ⟨gb', A7', n7', c7', e1, hgb, hgbl, hrb, hd0, hd1, hrd2⟩ := hduo2.two.atW k hlt
                injection e1 with e1; injection e1 with e1; subst e1
                have hx2 : ((adjN xss ws1 k).set k ⟨sd2, pl2, dt⟩)[k]'hal = ⟨sd2, pl2, dt⟩ := List.getElem_set_self _
                have hy2 : ((adjN xss ws1 k).map refW)[k]'(by simp; rw [adjN_len]; exact hkw) = refW ⟨sd, pl, dt⟩ := by
                  have := HAT.out
                  rw [List.getElem?_eq_getElem (by simp; rw [adjN_len]; exact hkw)] at this
                  injection this
                rw [hx2] at hra hc0 hc1
                rw [hy2] at hrb hd0 hd1 hrd2
                simp only [refW] at hra hc0 hc1 hrb hd0 hd1 hrd2
                have fb0 := hduo2.two.frozen (k * 3)
                have fb1 := hduo2.two.frozen (k * 3 + 1)
                have hsd2 := sd2.toNat_lt
                have q6 : (if (100000 : Int) < pl2 then (100000 : Int) else pl2) = min pl2 100000 := by split <;> omega
                have m0 : 0 ≤ min pl2 100000 := by omega
                have m1 : min pl2 100000 ≤ 100000 := by omega
                have HRF : Hid (refW ⟨sd2, pl2, dt⟩ = ⟨sd2, min pl2 100000, dt⟩) := rfl
                have ty2 := hduo2.two.ty (k := gb) rfl
                have hst := (hduo2.two.own.stored (k * 3) (.int .i64 (sd2.toNat : Int))).2
                have hB2 : w.heap.size ≤ gb := by omega
                have duo3 := hduo2.set2 k 0 (k * 3) _ ⟨sd2, min pl 100000, A7', n7', c7'⟩ ⟨sd2, min pl 100000, dt⟩ (.int .i64 (sd2.toNat : Int)) hlt (by omega) (by omega) hrb rfl ⟨rfl, rfl, hrd2⟩
                have gr3 := hgr2.kept hst (fun q hq _ => by injection hq with hq; subst hq; exact ⟨_, ty2, by decide, by decide⟩)
                have bl3 : Below w.heap.size w (wc.setCell ⟨gb, k * 3, none⟩ (.int .i64 (sd2.toNat : Int))) := hb2.setCell hB2 _
                have hrb1 : (rsB.set k ⟨sd2, min pl 100000, A7', n7', c7'⟩)[k]? = some ⟨sd2, min pl 100000, A7', n7', c7'⟩ := List.getElem?_set_self (by have := hduo2.two.lenr; omega)
                have hrd3 := (duo3.two.ok k _ _ hrb1 (List.getElem?_set_self (by simp; rw [adjN_len]; exact hkw))).2.2
                have hst1 := (duo3.two.own.stored (k * 3 + 1) (.int .i64 (min pl2 100000))).2
                have duo4 := duo3.set2 k 1 (k * 3 + 1) _ ⟨sd2, min pl2 100000, A7', n7', c7'⟩ ⟨sd2, min pl2 100000, dt⟩ (.int .i64 (min pl2 100000)) hlt (by omega) rfl hrb1 rfl ⟨rfl, rfl, hrd3⟩
                have gr4 := gr3.kept hst1 (fun q hq _ => by injection hq with hq; subst hq; exact ⟨_, duo3.two.ty rfl, by decide, by decide⟩)
                have bl4 := bl3.setCell (p := ⟨gb, k * 3 + 1, none⟩) hB2 (.int .i64 (min pl2 100000))
                rw [List.set_set, List.set_set, ← HRF.out, ← List.map_set, ← HA.out, HST.out] at duo4
                have HD := Lib.hid duo4
                have HG := Lib.hid gr4
                have HB4 := Lib.hid bl4
                clear duo3 duo4 gr3 gr4 bl3 bl4 hst hst1 hrd3 hrb1 hrd2 hrb hra ty2 hrdA hduo2 hgr2
                have kp : ∀ (W : World) (i : Nat) (u : Value), (W.cell? ⟨ga, k * 3, none⟩ = some (.int .u8 (sd2.toNat : Int)) ∧ W.cell? ⟨ga, k * 3 + 1, none⟩ = some (.int .u32 pl2)) →
                    ((W.setCell ⟨gb, i, none⟩ u).cell? ⟨ga, k * 3, none⟩ = some (.int .u8 (sd2.toNat : Int)) ∧ (W.setCell ⟨gb, i, none⟩ u).cell? ⟨ga, k * 3 + 1, none⟩ = some (.int .u32 pl2)) := fun W i u h =>
                  ⟨(World.cell?_setCell_other _ _ _ _ (fun e => by injection e with e1; exact hba e1)).trans h.1, (World.cell?_setCell_other _ _ _ _ (fun e => by injection e with e1; exact hba e1)).trans h.2⟩
                have HK := Lib.hid kp
                clear kp
                generalize min pl2 100000 = mb at *
                have wmb : IntKind.i64.wrap mb = mb := IntWalk.i64_in _ (by omega)
                have wsd : IntKind.i64.wrap (sd2.toNat : Int) = (sd2.toNat : Int) := IntWalk.i64_in _ (by omega)
                go_upto_region 19 with fail
                go_region_held3 (fun w' => w'.cell? ⟨ga, k * 3, none⟩ = some (.int .u8 (sd2.toNat : Int)) ∧ w'.cell? ⟨ga, k * 3 + 1, none⟩ = some (.int .u32 pl2))
                  (first | exact ⟨hc0, hc1⟩ | exact HK.out _ _ _ ⟨hc0, hc1⟩ | exact HK.out _ _ _ (HK.out _ _ _ ⟨hc0, hc1⟩))
                  (fail)
                all_goals
                  go_wp2
                  go_roundw
                  case measure => simp [intOf]; omega
                  case rel => exact ⟨_, _, _, ⟨k + 1, by omega, by go_num, ⟨_, _, HD.out.below (Below.refl _ _).drew⟩, HG.out.below (Below.refl _ _).drew, HB4.out.drew⟩, rfl, rfl, rfl⟩
            · have hduo' : Duo wr B A4 n4 c4 rsA A5 c5 rsB (ws1.map (adjW xss)) ((ws1.map (adjW xss)).map refW) := by
                rw [adjN_all xss ws1 k (by rw [← adjN_len xss ws1 k, HLW.out]; omega)] at hduo; exact hduo
              go_wp2_with fail
              go_meet
              case rel => exact ⟨_, _, _, hduo', fun x hx => adj_plain HP.out hx, hgr, hb⟩
      case rest =>
        obtain ⟨rsA, rsB, ws2, hduo, hp, hgr, hb⟩ := hcut
        have HP2 := Lib.hid hp
        clear hp duo0 gr2 bl2 HP
        have hsz := hb.size
        have AP := apply_any A6 n6 c6 wc.heap.size ss xss A4 n4 c4 (· < wc.heap.size) ws2 wc hgr.row.rd hgr.rds (Nat.le_refl _) (hduo.one.rd (fun b h => h.2.1) (fun b h => (hduo.one.lt b h).2)) (fun b h => h) (by omega) (by omega)
          (fun ys hy => by have := (HX.out ys hy).1; omega) (fun x hx => by have := HP2.out x hx; exact ⟨this.1, this.2.1, by omega⟩)
        go_wp2_with fail
        refine AP.mono ?_
        rintro e w3 h3
        obtain ⟨A8, c8, ss8, rfl, r8, rs8, hb3⟩ := h3.out
        clear AP h3
        have gr3 := hgr.below hb3
        have duo3 := hduo.below hb3
        have hs3 := hb3.size
        have AX := xapply_any A6 n6 c6 w3.heap.size ss xss A5 n4 c5 (· < w3.heap.size) (ws2.map refW) w3 gr3.row.rd gr3.rds (Nat.le_refl _) (duo3.two.rd (fun b h => h.2.1) (fun b h => (duo3.two.lt b h).2)) (fun b h => h) (by omega) (by omega)
          (fun ys hy => by have := (HX.out ys hy).1; omega) (fun x hx => by
            rw [List.mem_map] at hx
            obtain ⟨y, hy, rfl⟩ := hx
            have := HP2.out y hy
            unfold refW
            exact ⟨by simp only; omega, by simp only; omega, by simp only; omega⟩)
        go_wp2_with fail
        refine AX.mono ?_
        rintro e w4 h4
        have h4' := h4.out
        rw [outN_ref, allA_ref] at h4'
        obtain ⟨A9, c9, ss9, rfl, r9, rs9, hb4⟩ := h4'
        clear AX h4
        have hle := outN_le (xss := xss) (ws := ws2) (M := 255) (fun x hx => (HP2.out x hx).1) (fun ys hy => (HX.out ys hy).1)
        have hm8 := hle.1
        have HZ := Lib.hid hle.2
        rw [HLX.out] at hm8
        clear hle
        have gr4 := gr3.below hb4
        have bl4 : Below w.heap.size w w4 := (hb.trans (hb3.mono hsz)).trans (hb4.mono (by omega))
        have r8' := r8.belowLe hb4 (Nat.le_refl _)
        have rs8' : Rds w4 w3.heap.size ss8 (outN xss ws2) := ⟨rs8.1, fun j s ys h1 h2 => (rs8.2 j s ys h1 h2).belowLe hb4 (Nat.le_refl _)⟩
        clear r8 rs8 hduo duo3 hgr gr3 HP2
        generalize allA xss ws2 = ok at *
        generalize outN xss ws2 = zss at *
        have HM : ∃ m, zss.length = m := ⟨_, rfl⟩
        obtain ⟨m, hm⟩ := HM
        have HML := Lib.hid hm
        rw [hm] at hm8 r8' r9
        simp only [hm]
        clear hm
        have hbb : (ok != ok) = false := by cases ok <;> rfl
        have hmm : ((m : Int) != (m : Int)) = false := by simp
        have hs4 := hb4.size
        go_wp2_with fail
        go_loopw [131] (fun i wr => ∃ (k : Nat), k ≤ m ∧ i = .int .i64 k ∧ Below w4.heap.size w4 wr)
          (fun i _ => m - (intOf i).toNat)
        case atStart => exact ⟨0, Nat.zero_le _, rfl, Below.refl _ _⟩
        case round =>
          obtain ⟨k, hk, rfl, hbr⟩ := hrel
          by_cases hlt : k < m
          · have hkz : k < zss.length := by rw [HML.out]; exact hlt
            have hk8 : k < ss8.length := by rw [r8'.len]; exact hlt
            have hk9 : k < ss9.length := by rw [r9.len]; exact hlt
            obtain ⟨b, off, rfl, hbB, hc0⟩ := r8'.at_ k hk8
            obtain ⟨b', off', rfl, hbB', hc0'⟩ := r9.at_ k hk9
            have hc : wr.cell? ⟨b, off + k, none⟩ = some (sv ss8[k]) := (hbr.cell (p := ⟨b, off + k, none⟩) (by show b < _; omega)).trans hc0
            have hc' : wr.cell? ⟨b', off' + k, none⟩ = some (sv ss9[k]) := (hbr.cell (p := ⟨b', off' + k, none⟩) hbB').trans hc0'
            have v1 := (rs8'.2 k _ _ (List.getElem?_eq_getElem hk8) (List.getElem?_eq_getElem hkz)).belowLe hbr (by omega)
            have v2 := (rs9.2 k _ _ (List.getElem?_eq_getElem hk9) (List.getElem?_eq_getElem hkz)).belowLe hbr (Nat.le_refl _)
            have hmx := HZ.out zss[k] (List.getElem_mem hkz)
            have hl1 := v1.len
            clear hc0 hc0'
            generalize ss8[k] = t at *
            generalize ss9[k] = t' at *
            generalize zss[k] = zs at *
            obtain ⟨A2, n2, c2⟩ := t
            obtain ⟨A2', n2', c2'⟩ := t'
            unfold sv at hc hc'
            simp only at hc hc' hl1 v1 v2
            have hn2 : n2 ≤ 9223372036854775807 := by omega
            have hkM : (k : Int) < (m : Int) := by omega
            clear hl1 hmx
            go_wp2_with fail
            go_quiet (first | (go_at_call 13; exact quiet_still (same_yes A2 A2' n2 c2 n2' c2' _ _ zs _ (v1.drewN _) (v2.drewN _) hn2)))
            go_wp2
            go_roundw
            case rel => exact ⟨k + 1, by omega, by go_num, hbr.trans (Still.below ⟨_, rfl⟩ _)⟩
            case measure => simp [intOf]; omega
          · clear r8' rs8' r9 rs9
            have gr5 := gr4.below hbr
            have bl5 : Below w.heap.size w wr := bl4.trans (hbr.mono (by omega))
            clear gr4 bl4
            go_wp2_with fail
            go_loopw [147] (fun i wq => ∃ (k : Nat), k ≤ n6 ∧ i = .int .i64 k ∧ wq = wr)
              (fun i _ => n6 - (intOf i).toNat)
            case atStart => exact ⟨0, Nat.zero_le _, rfl, rfl⟩
            case round =>
              obtain ⟨q, hq, rfl, rfl⟩ := hrel
              by_cases hlt : q < n6
              · have hqs : q < ss.length := by rw [gr5.slen]; exact hlt
                have hqx : q < xss.length := by rw [HLX.out]; exact hlt
                obtain ⟨b, off, rfl, hbB, hc⟩ := gr5.row.rd.at_ q hqs
                have v1 := gr5.rds.2 q _ _ (List.getElem?_eq_getElem hqs) (List.getElem?_eq_getElem hqx)
                have hz := (HX.out xss[q] (List.getElem_mem hqx)).2
                have hmx := (HX.out xss[q] (List.getElem_mem hqx)).1
                have hl1 := v1.len
                generalize ss[q] = t at *
                generalize xss[q] = zs at *
                obtain ⟨A2, n2, c2⟩ := t
                unfold sv at hc
                simp only at hc hl1 v1
                have HL1 := Lib.hid hl1
                have HZ1 := Lib.hid hz
                have hn2 : n2 ≤ 255 := by omega
                clear hl1 hz hmx
                have hqM : (q : Int) < (n6 : Int) := by omega
                go_wp2_with fail
                go_loopw [153] (fun i wq' => ∃ (k : Nat), k ≤ n2 ∧ i = .int .i64 k ∧ wq' = wr)
                  (fun i _ => n2 - (intOf i).toNat)
                case atStart => exact ⟨0, Nat.zero_le _, rfl, rfl⟩
                case round =>
                  obtain ⟨p, hp, rfl, rfl⟩ := hrel
                  by_cases hlt : p < n2
                  · have hpx : p < zs.length := by rw [HL1.out]; exact hlt
                    obtain ⟨b5, off5, rfl, _, hc5⟩ := v1.at_ p hpx
                    have hz5 : zs[p] = 0 := HZ1.out _ (List.getElem_mem hpx)
                    rw [hz5] at hc5
                    have hc6 : _ = some (Value.int .u8 0) := hc5
                    clear hc5 hz5
                    go_wp2
                    go_roundw
                    case rel => exact ⟨p + 1, by omega, by go_num, trivial⟩
                    case measure => simp [intOf]; omega
                  · go_wp2
                    go_roundw
                    case rel => exact ⟨q + 1, by omega, by go_num, trivial⟩
                    case measure => simp [intOf]; omega
              · go_wp2
                go_ret
                exact ⟨rfl, bl5⟩

end Go.Proofs.Ytnkagonbkaecfaa
