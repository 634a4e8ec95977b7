/- Blocks that are laid (walk). No law is claimed here. -/
import Derived.Test.YtbfibikbhnbinaaDoorGrv15
namespace Go.Proofs.YtbfibikbhnbinaaDoor
open Go.RowKit

theorem disk_data2 (sign : List UInt8) (side : UInt8) (fs : List (List Bm)) (h : ∀ x ∈ fs.flatten, x.data.length ≤ 200) : ∀ x ∈ diskN sign side fs, x.data.length ≤ 200 := by
  intro x hx
  unfold diskN at hx
  simp only [List.cons_append, List.nil_append, List.mem_cons] at hx
  rcases hx with rfl | rfl | hx
  · simp [dheadN_len]
  · simp
  · exact h x hx
theorem mad7_data (fs : List (List UInt8)) (less : Nat) : ∀ x ∈ mad7 fs less, x.data.length ≤ 200 := fun x hx => disk_data2 _ _ _ (fiBs_data _ _) x (List.mem_of_mem_take hx)
theorem mad7_len (fs : List (List UInt8)) (less : Nat) : (mad7 fs less).length ≤ 18 := by
  unfold mad7
  have h := diskN_len [75] 0 (fiBs fs fs.length) (fiBs_file _ _)
  rw [fiBs_len] at h
  rw [List.length_take]; omega
theorem mad7_rgt (fs : List (List UInt8)) (less : Nat) : rgtB (mad7 fs less) = true := by
  refine rgt_of_fits (Nat.le_trans (mad7_len fs less) (by omega)) ?_
  unfold mad7
  rw [fitsB_take _ _ _ (by rw [List.length_take]; omega)]
  exact fitsB_mono (fits_diskN _ _ _ (fiBs_file _ _)) (by rw [List.length_take]; omega)
theorem gAt_le2 (l : List Bm) (k : Nat) (h : ∀ x ∈ l, x.data.length ≤ 200) (hk : k ≤ l.length) : gAt l k ≤ 3500 + k * 324 := by
  induction k with
  | zero => simp [gAt]
  | succ k ih =>
    have hk' : k < l.length := by omega
    rw [gAt_snoc l k hk']
    have h1 := h l[k] (List.getElem_mem hk')
    have h2 := ih (by omega)
    unfold gRoom
    omega
/-- what lies at a block's place -/
theorem grv_drop (l : List Bm) (k : Nat) (hk : k < l.length) : ∃ rest, (grvN l).drop (gAt l k) = gBlk l[k] ++ rest := by
  refine ⟨((l.drop (k + 1)).map gBlk).flatten, ?_⟩
  have e : grvN l = (List.replicate 3500 0 ++ ((l.take k).map gBlk).flatten) ++ (gBlk l[k] ++ ((l.drop (k + 1)).map gBlk).flatten) := by
    unfold grvN
    conv => lhs; rw [← List.take_append_drop k l, List.drop_eq_getElem_cons hk, List.map_append, List.flatten_append, List.map_cons, List.flatten_cons]
    simp only [List.append_assoc]
  rw [e, List.drop_left' (gFront_len l k)]
theorem grv_at (l : List Bm) (k : Nat) (hk : k < l.length) : (grvN l)[gAt l k]? = some 128 ∧ (grvN l)[gAt l k + 1]? = some l[k].kind ∧ ((grvN l).drop (gAt l k + 2)).take l[k].data.length = l[k].data := by
  obtain ⟨rest, h⟩ := grv_drop l k hk
  rw [gBlk_cons] at h
  refine ⟨?_, ?_, ?_⟩
  · have := congrArg (·[0]?) h; simpa using this
  · have := congrArg (·[1]?) h; simpa using this
  · rw [← List.drop_drop, h]
    simp only [List.drop_succ_cons, List.drop_zero]
    exact List.take_left

set_option maxRecDepth 100000 in
set_option maxHeartbeats 4000000 in
theorem grooveLays_walk (A : Option Addr) (n c : Nat) (fs : List (List UInt8)) (less : Int) (w : World) (hr : RdX shS w (· < w.heap.size) A n c fs) (hc : c ≤ maxLen) (hd : ∀ p ∈ fs, p.length ≤ 9223372036854775807) (hl0 : 0 ≤ less) (hl1 : less < 256) :
    Calls Tryd.prog 3 #[.slice A n c, .int .u8 less] w fun e w' => e = .returned (.bool true) ∧ Below w.heap.size w w' := by
  have hn : n ≤ 9223372036854775807 := by have := hr.cap; unfold maxLen at hc; omega
  have HD2 := mad7_data fs less.toNat
  have HL18 := mad7_len fs less.toNat
  have HR := mad7_rgt fs less.toNat
  have FM := fun (v : World) (hb : Below w.heap.size w v) => made7_any A n c (· < w.heap.size) fs less v (hr.keep (Kp.below hb (fun b h => h)) (fun b h => h)) (fun b h => Nat.lt_of_lt_of_le h hb.size) hn hd hl0 hl1
  generalize mad7 fs less.toNat = L at *
  have HD : Hid (∀ x ∈ L, x.data.length ≤ 100000) := fun x hx => by have := HD2 x hx; omega
  have HD6 : Hid (∀ x ∈ L, x.data.length ≤ 60000) := fun x hx => by have := HD2 x hx; omega
  have hFu : gFull L ≤ 65536 := by have h := gAt_le2 L L.length HD2 (Nat.le_refl _); unfold gFull; omega
  have HG : Hid (gRd 512 (grvN L) [] = (L, 0)) := read_grv _ HR
  have HGL : Hid ((grvN L).length = gFull L) := by show _ = _; rw [← gPart_full, gPart_len _ _ (Nat.le_refl _)]
  have HAT : Hid (∀ k (hk : k < L.length), gAt L k + (124 + L[k].data.length) ≤ gFull L ∧ (grvN L)[gAt L k]? = some 128 ∧ (grvN L)[gAt L k + 1]? = some L[k].kind ∧ ((grvN L).drop (gAt L k + 2)).take L[k].data.length = L[k].data) := fun k hk => ⟨by have h1 := gAt_snoc L k hk; have h2 := gAt_mono L (k + 1) L.length (by omega) (Nat.le_refl _); unfold gRoom at h1; unfold gFull; omega, grv_at L k hk⟩
  clear hr hd hn hc
  go_enter Tryd.func3, Tryd.ntmps3
  go_upto_region 3 with (go_at_call 6; refine (awake7_any _).mono ?_; rintro e w0 ⟨rfl, x0⟩)
  go_upto_region 4 with (go_at_call 7; refine (FM _ x0).mono ?_; rintro e w1 ⟨A1, n1, c1, rfl, r1, x1⟩)
  have b1 := x0.trans (x1.mono x0.size)
  have hn1 : n1 ≤ 18 := by rw [← r1.len]; exact HL18
  have HN1 := Lib.hid r1.len
  have FL := lay_yes A1 n1 c1 _ L w1 r1 (fun b h => h) (by omega) HD HR hFu
  clear FM x0 x1
  go_upto_region 5 with (go_at_call 8; refine FL.mono ?_; rintro e w2 ⟨A2, n2, c2, rfl, o2, x2⟩)
  have hn2 : n2 = gFull L := by rw [← o2.len, HGL.out]
  have HN2 := Lib.hid hn2
  have hn2b : n2 ≤ 65536 := by rw [hn2]; exact hFu
  have r2 := r1.keep (Kp.below x2 (fun b h => h)) (fun b h => Nat.lt_of_lt_of_le h x2.size)
  have p2 : RdE bv w2 A2 n2 c2 (grvN L) := o2.rd
  have b2 := b1.trans (x2.mono b1.size)
  have FR := read_any A2 n2 c2 w2.heap.size (grvN L) w2 p2 (Nat.le_refl _) (by omega)
  rw [HG.out] at FR
  clear o2 x2 FL r1 hn2
  go_upto_region 6 with (go_at_call 9; refine FR.mono ?_; rintro e w3 ⟨A3, n3, c3, rfl, r3, x3⟩)
  have r2' := r2.keep (Kp.below x3 (fun b h => h)) (fun b h => Nat.lt_of_lt_of_le h x3.size)
  have p3 := RdE.below p2 x3
  have b3 := b2.trans (x3.mono b2.size)
  have hn3 : n3 ≤ 18 := by rw [← r3.len]; exact HL18
  have FO := own7_any A1 n1 c1 (· < w3.heap.size) L w3 r2' (fun b h => h) (by omega)
  clear FR x3 r2 p2 b2
  go_wp2_with fail
  refine FO.mono ?_
  rintro e w4 ⟨A4, n4, c4, rfl, r4, x4⟩
  have r24 := r2'.keep (Kp.below x4 (fun b h => h)) (fun b h => Nat.lt_of_lt_of_le h x4.size)
  have r34 := r3.keep (Kp.below x4 (fun b h => h)) (fun b h => Nat.lt_of_lt_of_le h x4.size)
  have p4 := RdE.below p3 x4
  have b4 := b3.trans (x4.mono b3.size)
  have hn4 : n4 ≤ 18 := by rw [← r4.len]; exact HL18
  go_wp2_with fail
  refine (rlay7_any A4 n4 c4 _ L w4 r4 (fun b h => h) (by omega) HD6).mono ?_
  rintro e w5 ⟨A5, n5, c5, rfl, o5, x5⟩
  have r25 := r24.keep (Kp.below x5 (fun b h => h)) (fun b h => Nat.lt_of_lt_of_le h x5.size)
  have r35 := r34.keep (Kp.below x5 (fun b h => h)) (fun b h => Nat.lt_of_lt_of_le h x5.size)
  have p5 := RdE.below p4 x5
  have b5 := b4.trans (x5.mono b4.size)
  go_wp2_with fail
  refine (same_yes A2 A5 n2 c2 n5 c5 _ _ (grvN L) w5 p5 o5.rd (by omega)).mono ?_
  rintro e w6 ⟨rfl, hs6⟩
  have r26 := r25.keep (Kp.below (hs6.below _) (fun b h => h)) (fun b h => Nat.lt_of_lt_of_le h (hs6.below 0).size)
  have r36 := r35.keep (Kp.below (hs6.below _) (fun b h => h)) (fun b h => Nat.lt_of_lt_of_le h (hs6.below 0).size)
  have p6 := RdE.still p5 hs6
  have b6 := b5.trans (hs6.below _)
  go_wp2_with fail
  refine (bsame_yes A3 A1 n3 c3 n1 c1 _ _ L w6 r36 r26 (fun b h => h) (fun b h => h) (by omega)).mono ?_
  rintro e w7 ⟨rfl, x7⟩
  have r27 := r26.keep (Kp.below x7 (fun b h => h)) (fun b h => Nat.lt_of_lt_of_le h x7.size)
  have p7 := RdE.below p6 x7
  have b7 := b6.trans (x7.mono b6.size)
  go_wp2_with fail
  refine (full_any A1 n1 c1 _ L w7 r27 (fun b h => h) (by omega) HD).mono ?_
  rw [← HN2.out]
  rintro e w8 ⟨rfl, x8⟩
  have r28 := r27.keep (Kp.below x8 (fun b h => h)) (fun b h => Nat.lt_of_lt_of_le h x8.size)
  have p8 := RdE.below p7 x8
  have b8 := b7.trans (x8.mono b7.size)
  clear r2' r24 r25 r26 r27 r3 r34 r35 r36 p3 p4 p5 p6 p7 b1 b3 b4 b5 b6 b7 x4 x5 hs6 x7 x8 r4 o5 FO
  have FP := places_any A1 n1 c1 _ L w8 r28 (fun b h => h) (by omega) HD
  go_wp2_with (go_at_call 15; refine FP.mono ?_; rintro e w9 ⟨Ap, np, cp, rfl, op, x9⟩; have hnp : n1 = np := (by rw [← op.len, gPl_len]); subst hnp)
  have r29 := r28.keep (Kp.below x9 (fun b h => h)) (fun b h => Nat.lt_of_lt_of_le h x9.size)
  have p9 := RdE.below p8 x9
  have b9 := b8.trans (x9.mono b8.size)
  have Pl : RdE iv w9 Ap n1 cp (gPl L n1) := op.rd
  clear FP r28 p8 b8 op x9
  go_loopw [64] (fun i wr => ∃ (k : Nat), k ≤ n1 ∧ i = .int .i64 k ∧ Still w9 wr) (fun i _ => n1 - (intOf i).toNat)
  case atStart => exact ⟨0, Nat.zero_le _, rfl, 0, rfl⟩
  case round =>
    obtain ⟨k, hk, rfl, hst⟩ := hrel
    by_cases hlt : k < n1
    · have hkx : k < L.length := by rw [HN1.out]; exact hlt
      obtain ⟨hF, h128, hkind, hdat⟩ := HAT.out k hkx
      have rW := r29.keep (Kp.below (hst.below _) (fun b h => h)) (fun b h => Nat.lt_of_lt_of_le h (hst.below 0).size)
      obtain ⟨b, off, A7, n7, c7, rfl, hSb, hc0, hc1, hrd⟩ := rdB_at rW k hkx
      have pW := RdE.still p9 hst
      have lW := RdE.still Pl hst
      obtain ⟨gp, op, rfl, _, hcp⟩ := Rd.at_ lW k (by rw [gPl_len]; exact hlt)
      have egp : (gPl L n1)[k]'(by rw [gPl_len]; exact hlt) = ((gAt L k + 1 : Nat) : Int) := by simp [gPl]
      rw [egp] at hcp
      unfold iv at hcp
      obtain ⟨b2, off2, rfl⟩ := Rd.some_of pW (by have := HN2.out; omega)
      have hlp : Hid ((grvN L).length = n2) := Rd.len pW
      have k1 := (rd_cell pW (gAt L k) (by rw [hlp.out, HN2.out]; omega)).2
      have k2 := (rd_cell pW (gAt L k + 1) (by rw [hlp.out, HN2.out]; omega)).2
      obtain ⟨_, e1⟩ := List.getElem_of_getElem? h128
      obtain ⟨_, e2⟩ := List.getElem_of_getElem? hkind
      rw [e1] at k1
      rw [e2] at k2
      unfold bv at k1 k2
      have e3 : (((128 : UInt8).toNat : Int)) = 128 := rfl
      rw [e3] at k1
      have hl7 := hrd.len
      rw [hl7] at hF hdat
      rw [← HN2.out] at hF
      have hcap := Rd.cap pW
      have rS : RdE bv wr (some ⟨b2, off2 + (gAt L k + 2), none⟩) n7 (c2 - (gAt L k + 2)) L[k].data := by
        have h := (Rd.drop pW (gAt L k + 2) (by omega)).take n7 (by omega)
        rw [hdat] at h; exact h
      have rD : RdE bv wr A7 n7 c7 L[k].data := hrd.rd (fun b h => h)
      have hst0 : gAt L k ≤ 65536 := by omega
      clear e1 e2 h128 hkind hdat hrd egp lW pW rW hlp hl7
      generalize gAt L k = st at *
      obtain ⟨z1, hz1⟩ : ∃ z1, z1 = st + 1 := ⟨_, rfl⟩
      rw [show st + 2 = z1 + 1 from by omega] at rS
      rw [← hz1] at hcp k2
      have FS : ∀ j, Calls Tryd.prog 10 #[.slice (some ⟨b2, off2 + (z1 + 1), none⟩) n7 (c2 - (z1 + 1)), .slice A7 n7 c7] (wr.drewN j) fun e w'' => e = .returned (.bool true) ∧ ∃ m, w'' = wr.drewN m :=
        fun j => quiet_still (same_yes _ _ _ _ _ _ _ _ _ _ (RdE.drewN rS) (RdE.drewN rD) (by omega))
      generalize L[k] = X at *
      obtain ⟨x, xd⟩ := X
      simp only at *
      have t0 : (z1 : Int) - 1 = (st : Int) := by omega
      have t1 : (k : Int) < n1 := by omega
      have t2 : (z1 : Int) < n2 := by omega
      have t3 : z1 < n2 := by omega
      have t4 : (st : Int) < n2 := by omega
      have t5 : st < n2 := by omega
      have t6 : (z1 : Int) + 1 ≤ (z1 : Int) + 1 + n7 := by omega
      have t7 : (z1 : Int) + 1 + n7 ≤ c2 := by omega
      have t8 : ((z1 : Int) + 1).toNat = z1 + 1 := by omega
      have t9 : ((z1 : Int) + 1 + n7).toNat = z1 + 1 + n7 := by omega
      have u1 : ¬ c2 = z1 + 1 := by omega
      have u2 : z1 + 1 + n7 ≤ c2 := by omega
      have u3 : z1 + 1 ≤ z1 + 1 + n7 := by omega
      have u4 : z1 + 1 + n7 - (z1 + 1) = n7 := by omega
      have u5 : (0 : Int) ≤ (z1 : Int) + 1 := by omega
      have u6 : IntKind.i64.wrap ((z1 : Int) + 1) = (z1 : Int) + 1 := IntWalk.i64_in _ (by omega)
      have u7 : IntKind.i64.wrap ((z1 : Int) + 1 + n7) = (z1 : Int) + 1 + n7 := IntWalk.i64_in _ (by omega)
      have u8 : k < n1 := hlt
      clear hF rS rD hz1
      go_upto_region 14 with (fail)
      go_quiet (first | (go_at_call 10; exact FS _))
      go_wp2
      go_roundw
      case rel => exact ⟨k + 1, by omega, by go_num, hst.more _⟩
      case measure => simp [intOf]; omega
    · have t1 : ¬ ((k : Int) < n1) := by omega
      go_wp2
      go_ret
      exact ⟨rfl, b9.trans (hst.below _)⟩

end Go.Proofs.YtbfibikbhnbinaaDoor
