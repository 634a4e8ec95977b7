/- The contract of the reference's Apply. No law is claimed here. -/
import Derived.Test.YtnkagonbkaecfaaScrP2
namespace Go.Proofs.Ytnkagonbkaecfaa
open Go.RowKit

theorem lay_nil (xs : List UInt8) (p : Nat) : lay xs p [] = xs := by simp [lay]
theorem lay_get (xs ys : List UInt8) (p : Nat) (h : p + ys.length ≤ xs.length) (i : Nat) : (lay xs p ys)[i]? = if p ≤ i ∧ i < p + ys.length then ys[i - p]? else xs[i]? := by
  unfold lay
  have hm : (xs.take p).length = p := by simp; omega
  rcases Nat.lt_or_ge i p with hi | hi
  · rw [List.getElem?_append_left (by omega), if_neg (by omega), List.getElem?_take, if_pos hi]
  · rw [List.getElem?_append_right (by omega), hm]
    rcases Nat.lt_or_ge i (p + ys.length) with hj | hj
    · rw [List.getElem?_append_left (by omega), if_pos ⟨hi, hj⟩]
    · rw [List.getElem?_append_right (by omega), if_neg (by omega), List.getElem?_drop]
      congr 1; omega
theorem lay_set (xs ys : List UInt8) (p k : Nat) (h : p + ys.length ≤ xs.length) (hk : k < ys.length) : (lay xs p (ys.take k)).set (p + k) ys[k] = lay xs p (ys.take (k + 1)) := by
  have l1 : (ys.take k).length = k := by simp; omega
  have l2 : (ys.take (k + 1)).length = k + 1 := by simp; omega
  have h1 : (lay xs p (ys.take k)).length = xs.length := lay_len _ _ _ (by omega)
  apply List.ext_getElem?
  intro i
  rw [List.getElem?_set, h1, lay_get _ _ _ (by omega), lay_get _ _ _ (by omega), l1, l2]
  split
  · rename_i e
    subst e
    rw [if_pos (by omega), if_pos (by omega), show p + k - p = k from by omega, List.getElem?_take, if_pos (by omega), List.getElem?_eq_getElem hk]
  · by_cases hc : p ≤ i ∧ i < p + k
    · rw [if_pos hc, if_pos (by omega), List.getElem?_take, List.getElem?_take, if_pos (by omega), if_pos (by omega)]
    · rw [if_neg hc, if_neg (by omega)]

set_option maxRecDepth 100000 in
set_option maxHeartbeats 4000000 in
theorem xapply_any (As : Option Addr) (ns cs B : Nat) (ss : List (Option Addr × Nat × Nat)) (xss : List (List UInt8)) (Al : Option Addr) (nl cl : Nat) (S : Nat → Prop) (ws : List Wm) (w : World)
    (hr : Rd sv w B As ns cs ss) (hrs : Rds w B ss xss) (hB : B ≤ w.heap.size) (hw : RdX (shW .i64 .i64) w S Al nl cl ws) (hS : ∀ b, S b → b < w.heap.size) (hns : ns ≤ 1000) (hnl : nl ≤ 1000)
    (hls : Hid (∀ xs ∈ xss, xs.length ≤ 1099511627776)) (hpl : Hid (∀ x ∈ ws, 0 ≤ x.pl ∧ x.pl ≤ 100000 ∧ x.data.length ≤ 1099511627776)) :
    Calls Try.prog 21 #[.slice As ns cs, .slice Al nl cl] w (RetAp w xss ws) := by
  have HL := Lib.hid hw.len
  have HLS := Lib.hid hrs.1
  have HLr := Lib.hid hr.len
  have HLX : Hid (xss.length = ns) := by show _ = _; rw [← HLS.out, HLr.out]
  obtain ⟨i0, hi, hz0, hz1, hz2⟩ := info_parts Try.infoBs
  go_enter Try.func21, Try.ntmps21
  go_wp2
  go_loopw [6, 15] (fun v i wr => ∃ (k : Nat) (A6 : Option Addr) (c6 : Nat) (ss2 : List (Option Addr × Nat × Nat)), k ≤ ns ∧ i = .int .i64 k ∧ v = .slice A6 k c6 ∧ Grid wr w.heap.size A6 k c6 ss2 (xss.take k) ∧ Below w.heap.size w wr)
    (fun _ i _ => ns - (intOf i).toNat)
  case atStart => exact ⟨0, none, 0, [], Nat.zero_le _, rfl, rfl, Grid.empty _ _, Below.refl _ _⟩
  case round =>
    obtain ⟨k, A6, c6, ss2, hk, rfl, rfl, hgr, hb⟩ := hrel
    have hsz := hb.size
    by_cases hlt : k < ns
    · have hkx : k < xss.length := by rw [HLX.out]; exact hlt
      have hks : k < ss.length := by rw [HLr.out]; exact hlt
      obtain ⟨b, off, rfl, hbB, hc0⟩ := hr.at_ k hks
      have hc : wr.cell? ⟨b, off + k, none⟩ = some (sv ss[k]) := (hb.cell (p := ⟨b, off + k, none⟩) (Nat.lt_of_lt_of_le hbB hB)).trans hc0
      have hrk := (hrs.2 k _ _ (List.getElem?_eq_getElem hks) (List.getElem?_eq_getElem hkx)).belowLe hb hB
      have hmx := hls.out xss[k] (List.getElem_mem hkx)
      have HC := Lib.hid (List.take_succ_eq_append_getElem hkx)
      have hlk := hrk.len
      clear hc0
      generalize ss[k] = t at *
      generalize xss[k] = xs at *
      obtain ⟨A2, n2, c2⟩ := t
      unfold sv at hc
      simp only at hc hlk hrk
      rw [hlk] at hmx
      clear hlk
      go_wp2_with fail
      refine (join1_any wr _ A2 n2 c2 B xs rfl hrk (by omega) hmx).mono ?_
      rintro e w5 ⟨A5, n5, c5, rfl, ho5, hb5⟩
      have gr5 := hgr.below hb5
      have bl5 : Below w.heap.size w w5 := hb.trans (hb5.mono hsz)
      have hs5 := bl5.size
      go_wp2_with (at_builtin
                   refine wpList_push shV _ rfl (.tmp 19) (.tmp 23) 32 rfl w.heap.size 25 i0 _ 24 Try.underlying32 hi hz0 hz1 hz2 rfl (fun _ => False) A6 k c6 ss2 _ rfl (gr5.row.toX _) _ _ _ _ _ (A5, n5, c5) (A5, n5, c5) rfl rfl rfl rfl (fun b h => h.elim) (by simp only [maxLen]; omega) (by omega) (by omega) ?_
                   intro g6 c7 w6 hown6 hg6 hat6 hlt6)
      have gr6 : Grid w6 w.heap.size (some ⟨g6, 0, none⟩) (k + 1) c7 (ss2 ++ [(A5, n5, c5)]) (xss.take k ++ [xs]) :=
        gr5.pushed hown6.toO hg6 (ho5.lower hsz) (fun q hq j t hj e => by
          have h1 := (ho5.ltA q hq).1
          have hjl : j < k := by
            rcases Nat.lt_or_ge j k with h | h
            · exact h
            · rw [List.getElem?_eq_none (by rw [hgr.slen]; exact h)] at hj; cases hj
          have h2 := (hgr.each j t _ hj (List.getElem?_eq_getElem (by rw [hgr.len]; exact hjl))).ltA q e.symm
          omega)
      go_roundw
      case rel => exact ⟨k + 1, _, c7, _, by omega, by go_num, rfl, by rw [HC.out]; exact gr6, bl5.grown hg6 (by omega) (fun q hq => (gr5.row.ltA q hq).1)⟩
      case measure => simp [intOf]; omega
    · obtain rfl : k = ns := by omega
      have hgr' : Grid wr w.heap.size A6 k c6 ss2 (applyN xss (ws.take 0)) := by
        rw [List.take_of_length_le (by rw [HLX.out]; omega)] at hgr; exact hgr
      clear hlt hk
      go_wp2
      go_loopw [28] (fun i wr => ∃ (q : Nat), q ≤ nl ∧ i = .int .i64 q ∧ Grid wr w.heap.size A6 k c6 ss2 (applyN xss (ws.take q)) ∧ allA xss (ws.take q) = true ∧ Below w.heap.size w wr)
        (fun i _ => nl - (intOf i).toNat)
      case atStart => exact ⟨0, Nat.zero_le _, rfl, hgr', rfl, hb⟩
      case round =>
        clear hgr' hgr
        obtain ⟨q, hq, rfl, hgr, hall, hb⟩ := hrel
        have HA := Lib.hid hall
        clear hall
        have hsz := hb.size
        by_cases hlt : q < nl
        · have hkx : q < ws.length := by rw [HL.out]; exact hlt
          obtain ⟨b, off, A3, n3, c3, rfl, hSb, hd0, hd1, hd2, hrd⟩ := rdW_at hw q hkx
          have hc0 := (hb.cell (p := ⟨b, off + q * 3, none⟩) (hS b hSb)).trans hd0
          have hc1 := (hb.cell (p := ⟨b, off + q * 3 + 1, none⟩) (hS b hSb)).trans hd1
          have hc2 := (hb.cell (p := ⟨b, off + q * 3 + 2, none⟩) (hS b hSb)).trans hd2
          clear hd0 hd1 hd2
          have hpx := hpl.out ws[q] (List.getElem_mem hkx)
          have HT := Lib.hid (applyN_snoc xss ws q hkx)
          have HTA := Lib.hid (allA_snoc xss ws q hkx)
          have HN : Hid (okA xss ws[q] = false → allA xss ws = false) := allA_no q hkx
          have HLE := Lib.hid (applyN_lens HA.out (fun x hx => (hpl.out x (List.mem_of_mem_take hx)).1))
          have hl3 := hrd.len
          generalize ws[q] = x at *
          obtain ⟨xs, xa, xd⟩ := x
          simp only at hc0 hc1 hpx hrd hl3
          obtain ⟨hp0, hp1, hp2⟩ := hpx
          rw [hl3] at hp2
          have HO : Hid (okA xss ⟨xs, xa, xd⟩ = (rightB (xs.toNat : Int) xa n3 && fitB xss xs.toNat xa n3)) := by show _ = _; unfold okA; rw [hl3]
          have HL3 := Lib.hid hl3
          clear hl3
          have hxs := xs.toNat_lt
          have hbA : Below w.heap.size w (wr.alloc (.cells #[.int .i64 (xs.toNat : Int), .int .i64 xa, .slice A3 n3 c3] 59)) := hb.alloc hsz _
          have hgA : Grid (wr.alloc (.cells #[.int .i64 (xs.toNat : Int), .int .i64 xa, .slice A3 n3 c3] 59)) w.heap.size A6 k c6 ss2 (applyN xss (ws.take q)) := hgr.below ((Below.refl _ _).alloc (Nat.le_refl _) _)
          have k0 : (wr.alloc (.cells #[.int .i64 (xs.toNat : Int), .int .i64 xa, .slice A3 n3 c3] 59)).cell? ⟨wr.heap.size, 0, none⟩ = some (.int .i64 (xs.toNat : Int)) := box_cell (Below.refl _ _) 0
          have k1 : (wr.alloc (.cells #[.int .i64 (xs.toNat : Int), .int .i64 xa, .slice A3 n3 c3] 59)).cell? ⟨wr.heap.size, 1, none⟩ = some (.int .i64 xa) := box_cell (Below.refl _ _) 1
          have k2 : (wr.alloc (.cells #[.int .i64 (xs.toNat : Int), .int .i64 xa, .slice A3 n3 c3] 59)).cell? ⟨wr.heap.size, 2, none⟩ = some (.slice A3 n3 c3) := box_cell (Below.refl _ _) 2
          have hsA : wr.heap.size < (wr.alloc (.cells #[.int .i64 (xs.toNat : Int), .int .i64 xa, .slice A3 n3 c3] 59)).heap.size := by simp
          have hbx : w.heap.size ≤ wr.heap.size := hsz
          have hty : Ty (wr.alloc (.cells #[.int .i64 (xs.toNat : Int), .int .i64 xa, .slice A3 n3 c3] 59)) wr.heap.size 59 := ⟨_, _, heap_alloc_new wr _⟩
          go_wp2
          generalize wr.alloc (.cells #[.int .i64 (xs.toNat : Int), .int .i64 xa, .slice A3 n3 c3] 59) = W at *
          generalize wr.heap.size = bx at *
          have e1 : IntKind.i64.wrap (xa + (n3 : Int)) = xa + (n3 : Int) := IntWalk.i64_in _ (by omega)
          cases hR : rightB (xs.toNat : Int) xa n3 with
          | false =>
            have HF : Hid (allA xss ws = false) := HN.out (by rw [HO.out, hR]; rfl)
            have XR : ∀ w, Calls Try.prog 24 #[.agg #[.int .i64 (xs.toNat : Int), .int .i64 xa, .slice A3 n3 c3]] w fun e w' => e = .returned (.bool false) ∧ Below w.heap.size w w' := fun w => by
              have := xright_any (xs.toNat : Int) xa A3 n3 c3 w (by omega) hp0 hp1 hp2
              rw [hR] at this; exact this
            clear hR
            refine wp_region_held_drew (S := fun w' => w'.cell? ⟨bx, 0, none⟩ = some (.int .i64 (xs.toNat : Int)) ∧ w'.cell? ⟨bx, 1, none⟩ = some (.int .i64 xa) ∧ w'.cell? ⟨bx, 2, none⟩ = some (.slice A3 n3 c3)) (by kernel_rfl) ⟨k0, k1, k2⟩ (fun hHeld => ?_)
            refine wpAnyH_take (i := 0) (oi := ⟨some 32, _, _, _, _, _⟩) (v := ?_) rfl (by kernel_rfl) (by kernel_rfl) (by kernel_rfl) (fun _ _ _ h => h) (Or.inl ⟨by rfl, ?_⟩) (by assumption) ?_
            rotate_left
            focus (intro w hSw; (try dsimp only at hSw); go_simp; try with_reducible rfl)
            try simp only [Act.put, List.setIfInBounds_toArray, List.set_cons_zero, List.set_cons_succ]
            refine wpAnyH_ready (rs := [1]) (by kernel_rfl) (by simp) ?_
            refine AllReadyH.cons (o := ⟨some 33, _, _, _, _, _⟩) rfl (fun K hK => ?_) AllReadyH.nil
            go_simp
            refine (XR _).mono ?_
            rintro e w9 ⟨rfl, hb9⟩
            go_wp2_with fail
            refine hK.out _ _ ⟨(hb9.cell (p := ⟨bx, 0, none⟩) hsA).trans k0, (hb9.cell (p := ⟨bx, 1, none⟩) hsA).trans k1, (hb9.cell (p := ⟨bx, 2, none⟩) hsA).trans k2⟩ (fun hHeld => ?_)
            clear hK K
            try simp only [Act.put, List.setIfInBounds_toArray, List.set_cons_zero, List.set_cons_succ]
            refine wpAnyH_take (i := 2) (oi := ⟨some 34, _, _, _, _, _⟩) (v := ?_) rfl (by kernel_rfl) (by kernel_rfl) (by kernel_rfl) (fun _ _ _ h => h) (Or.inl ⟨by rfl, ?_⟩) (by assumption) ?_
            rotate_left
            focus (intro w hSw; (try dsimp only at hSw); go_simp; try with_reducible rfl)
            try simp only [Act.put, List.setIfInBounds_toArray, List.set_cons_zero, List.set_cons_succ]
            refine wpAnyH_take (i := 3) (oi := ⟨some 35, _, _, _, _, _⟩) (v := ?_) rfl (by kernel_rfl) (by kernel_rfl) (by kernel_rfl) (fun _ _ _ h => h) (Or.inl ⟨by rfl, ?_⟩) (by assumption) ?_
            rotate_left
            focus (intro w hSw; (try dsimp only at hSw); go_simp; try with_reducible rfl)
            try simp only [Act.put, List.setIfInBounds_toArray, List.set_cons_zero, List.set_cons_succ]
            refine wpAnyH_take (i := 4) (oi := ⟨some 36, _, _, _, _, _⟩) (v := undef) rfl (by kernel_rfl) (by kernel_rfl) (by kernel_rfl) (fun _ _ _ h => h) (Or.inr ⟨by rfl, rfl⟩) (by assumption) ?_
            try simp only [Act.put, List.setIfInBounds_toArray, List.set_cons_zero, List.set_cons_succ]
            refine wpAnyH_take (i := 5) (oi := ⟨some 37, _, _, _, _, _⟩) (v := undef) rfl (by kernel_rfl) (by kernel_rfl) (by kernel_rfl) (fun _ _ _ h => h) (Or.inr ⟨by rfl, rfl⟩) (by assumption) ?_
            try simp only [Act.put, List.setIfInBounds_toArray, List.set_cons_zero, List.set_cons_succ]
            refine wpAnyH_take (i := 6) (oi := ⟨some 38, _, _, _, _, _⟩) (v := undef) rfl (by kernel_rfl) (by kernel_rfl) (by kernel_rfl) (fun _ _ _ h => h) (Or.inr ⟨by rfl, rfl⟩) (by assumption) ?_
            try simp only [Act.put, List.setIfInBounds_toArray, List.set_cons_zero, List.set_cons_succ]
            refine wpAnyH_take (i := 7) (oi := ⟨some 39, _, _, _, _, _⟩) (v := undef) rfl (by kernel_rfl) (by kernel_rfl) (by kernel_rfl) (fun _ _ _ h => h) (Or.inr ⟨by rfl, rfl⟩) (by assumption) ?_
            try simp only [Act.put, List.setIfInBounds_toArray, List.set_cons_zero, List.set_cons_succ]
            refine wpAnyH_take (i := 8) (oi := ⟨some 40, _, _, _, _, _⟩) (v := undef) rfl (by kernel_rfl) (by kernel_rfl) (by kernel_rfl) (fun _ _ _ h => h) (Or.inr ⟨by rfl, rfl⟩) (by assumption) ?_
            try simp only [Act.put, List.setIfInBounds_toArray, List.set_cons_zero, List.set_cons_succ]
            refine wpAnyH_take (i := 9) (oi := ⟨some 41, _, _, _, _, _⟩) (v := ?_) rfl (by kernel_rfl) (by kernel_rfl) (by kernel_rfl) (fun _ _ _ h => h) (Or.inl ⟨by rfl, ?_⟩) (by assumption) ?_
            rotate_left
            focus (intro w hSw; (try dsimp only at hSw); go_simp; try with_reducible rfl)
            try simp only [Act.put, List.setIfInBounds_toArray, List.set_cons_zero, List.set_cons_succ]
            refine wpAnyH_take (i := 10) (oi := ⟨some 42, _, _, _, _, _⟩) (v := ?_) rfl (by kernel_rfl) (by kernel_rfl) (by kernel_rfl) (fun _ _ _ h => h) (Or.inl ⟨by rfl, ?_⟩) (by assumption) ?_
            rotate_left
            focus (intro w hSw; (try dsimp only at hSw); go_simp; try with_reducible rfl)
            try simp only [Act.put, List.setIfInBounds_toArray, List.set_cons_zero, List.set_cons_succ]
            refine wpAnyH_take (i := 11) (oi := ⟨some 43, _, _, _, _, _⟩) (v := undef) rfl (by kernel_rfl) (by kernel_rfl) (by kernel_rfl) (fun _ _ _ h => h) (Or.inr ⟨by rfl, rfl⟩) (by assumption) ?_
            try simp only [Act.put, List.setIfInBounds_toArray, List.set_cons_zero, List.set_cons_succ]
            refine wpAnyH_take (i := 12) (oi := ⟨some 44, _, _, _, _, _⟩) (v := undef) rfl (by kernel_rfl) (by kernel_rfl) (by kernel_rfl) (fun _ _ _ h => h) (Or.inr ⟨by rfl, rfl⟩) (by assumption) ?_
            try simp only [Act.put, List.setIfInBounds_toArray, List.set_cons_zero, List.set_cons_succ]
            refine wpAnyH_take (i := 13) (oi := ⟨some 45, _, _, _, _, _⟩) (v := undef) rfl (by kernel_rfl) (by kernel_rfl) (by kernel_rfl) (fun _ _ _ h => h) (Or.inr ⟨by rfl, rfl⟩) (by assumption) ?_
            try simp only [Act.put, List.setIfInBounds_toArray, List.set_cons_zero, List.set_cons_succ]
            refine wpAnyH_take (i := 14) (oi := ⟨some 46, _, _, _, _, _⟩) (v := undef) rfl (by kernel_rfl) (by kernel_rfl) (by kernel_rfl) (fun _ _ _ h => h) (Or.inr ⟨by rfl, rfl⟩) (by assumption) ?_
            try simp only [Act.put, List.setIfInBounds_toArray, List.set_cons_zero, List.set_cons_succ]
            refine wpAnyH_take (i := 15) (oi := ⟨some 47, _, _, _, _, _⟩) (v := undef) rfl (by kernel_rfl) (by kernel_rfl) (by kernel_rfl) (fun _ _ _ h => h) (Or.inr ⟨by rfl, rfl⟩) (by assumption) ?_
            try simp only [Act.put, List.setIfInBounds_toArray, List.set_cons_zero, List.set_cons_succ]
            refine wpAnyH_take (i := 16) (oi := ⟨some 48, _, _, _, _, _⟩) (v := undef) rfl (by kernel_rfl) (by kernel_rfl) (by kernel_rfl) (fun _ _ _ h => h) (Or.inr ⟨by rfl, rfl⟩) (by assumption) ?_
            try simp only [Act.put, List.setIfInBounds_toArray, List.set_cons_zero, List.set_cons_succ]
            refine wpAnyH_take (i := 17) (oi := ⟨some 49, _, _, _, _, _⟩) (v := undef) rfl (by kernel_rfl) (by kernel_rfl) (by kernel_rfl) (fun _ _ _ h => h) (Or.inr ⟨by rfl, rfl⟩) (by assumption) ?_
            try simp only [Act.put, List.setIfInBounds_toArray, List.set_cons_zero, List.set_cons_succ]
            refine wpAnyH_take (i := 18) (oi := ⟨some 50, _, _, _, _, _⟩) (v := undef) rfl (by kernel_rfl) (by kernel_rfl) (by kernel_rfl) (fun _ _ _ h => h) (Or.inr ⟨by rfl, rfl⟩) (by assumption) ?_
            try simp only [Act.put, List.setIfInBounds_toArray, List.set_cons_zero, List.set_cons_succ]
            refine wpAnyH_take (i := 19) (oi := ⟨some 51, _, _, _, _, _⟩) (v := undef) rfl (by kernel_rfl) (by kernel_rfl) (by kernel_rfl) (fun _ _ _ h => h) (Or.inr ⟨by rfl, rfl⟩) (by assumption) ?_
            try simp only [Act.put, List.setIfInBounds_toArray, List.set_cons_zero, List.set_cons_succ]
            refine wpAnyH_take (i := 20) (oi := ⟨some 52, _, _, _, _, _⟩) (v := undef) rfl (by kernel_rfl) (by kernel_rfl) (by kernel_rfl) (fun _ _ _ h => h) (Or.inr ⟨by rfl, rfl⟩) (by assumption) ?_
            try simp only [Act.put, List.setIfInBounds_toArray, List.set_cons_zero, List.set_cons_succ]
            refine wpAnyH_take (i := 21) (oi := ⟨some 53, _, _, _, _, _⟩) (v := undef) rfl (by kernel_rfl) (by kernel_rfl) (by kernel_rfl) (fun _ _ _ h => h) (Or.inr ⟨by rfl, rfl⟩) (by assumption) ?_
            try simp only [Act.put, List.setIfInBounds_toArray, List.set_cons_zero, List.set_cons_succ]
            refine wpAnyH_take (i := 22) (oi := ⟨some 54, _, _, _, _, _⟩) (v := undef) rfl (by kernel_rfl) (by kernel_rfl) (by kernel_rfl) (fun _ _ _ h => h) (Or.inr ⟨by rfl, rfl⟩) (by assumption) ?_
            try simp only [Act.put, List.setIfInBounds_toArray, List.set_cons_zero, List.set_cons_succ]
            refine wpAnyH_take (i := 23) (oi := ⟨some 55, _, _, _, _, _⟩) (v := undef) rfl (by kernel_rfl) (by kernel_rfl) (by kernel_rfl) (fun _ _ _ h => h) (Or.inr ⟨by rfl, rfl⟩) (by assumption) ?_
            try simp only [Act.put, List.setIfInBounds_toArray, List.set_cons_zero, List.set_cons_succ]
            refine wpAnyH_take (i := 24) (oi := ⟨some 56, _, _, _, _, _⟩) (v := ?_) rfl (by kernel_rfl) (by kernel_rfl) (by kernel_rfl) (fun _ _ _ h => h) (Or.inl ⟨by rfl, ?_⟩) (by assumption) ?_
            rotate_left
            focus (intro w hSw; (try dsimp only at hSw); go_simp; try with_reducible rfl)
            try simp only [Act.put, List.setIfInBounds_toArray, List.set_cons_zero, List.set_cons_succ]
            refine wpAnyH_done (by kernel_rfl) ?_ _
            all_goals
              go_wp2
              go_ret2
              exact .inl ⟨HF.out, rfl, hbA.trans ((Below.refl _ _).drew.trans (hb9.mono hbA.size))⟩
          | true =>
            have XR : ∀ w, Calls Try.prog 24 #[.agg #[.int .i64 (xs.toNat : Int), .int .i64 xa, .slice A3 n3 c3]] w fun e w' => e = .returned (.bool true) ∧ Below w.heap.size w w' := fun w => by
              have := xright_any (xs.toNat : Int) xa A3 n3 c3 w (by omega) hp0 hp1 hp2
              rw [hR] at this; exact this
            have HR := Lib.hid hR
            clear hR
            by_cases hsn : xs.toNat < k
            · have hgn : xs.toNat < (applyN xss (ws.take q)).length := by rw [hgA.len]; exact hsn
              obtain ⟨t, hts, hot⟩ := hgA.at_ xs.toNat hsn
              have hlt2 : (xss.getD xs.toNat []).length = t.2.1 := by
                rw [← lens_getD xss _ HLE.out, ← hot.len, List.getD_eq_getElem?_getD, List.getElem?_eq_getElem hgn]; rfl
              have HG : Hid (putN (applyN xss (ws.take q)) ⟨xs, xa, xd⟩ = (applyN xss (ws.take q)).set xs.toNat (lay ((applyN xss (ws.take q))[xs.toNat]'hgn) xa.toNat xd)) := by
                show _ = _
                unfold putN
                simp only
                rw [List.getD_eq_getElem?_getD, List.getElem?_eq_getElem hgn]; rfl
              have HS0 : Hid ((applyN xss (ws.take q)).set xs.toNat ((applyN xss (ws.take q))[xs.toNat]'hgn) = applyN xss (ws.take q)) := List.set_getElem_self hgn
              obtain ⟨g6, hA6⟩ := hgA.row.zero (by omega)
              subst hA6
              have hcT := hgA.row.rd.at_ xs.toNat (by rw [hgA.slen]; exact hsn)
              obtain ⟨b', o', e2, _, hcT⟩ := hcT
              injection e2 with e2; injection e2 with e2 e3; subst e2; subst e3
              rw [Nat.zero_add] at hcT
              have hte : ss2[xs.toNat]'(by rw [hgA.slen]; exact hsn) = t := by rw [List.getElem?_eq_getElem (by rw [hgA.slen]; exact hsn)] at hts; injection hts
              rw [hte] at hcT
              have HFT : Hid (fitB xss xs.toNat xa n3 = decide (xa + (n3 : Int) ≤ (t.2.1 : Int))) := by
                show _ = _; unfold fitB; rw [decide_eq_true (by rw [HLX.out]; exact hsn), hlt2]; rfl
              clear hte hlt2
              have hly := hot.len
              generalize (applyN xss (ws.take q))[xs.toNat]'hgn = ys at *
              obtain ⟨At, nt, ct⟩ := t
              simp only at hot HFT hly
              unfold sv at hcT
              simp only at hcT
              have hg6l : g6 < W.heap.size := (hgA.row.ltA g6 rfl).2
              have t1 : decide ((k : Int) ≤ (xs.toNat : Int)) = false := by simp; omega
              have t2 : ¬ k ≤ xs.toNat := by omega
              have t3 : decide (k ≤ xs.toNat) = false := by simp; omega
              have hxN : (xs.toNat : Int) < (k : Int) := by omega
              by_cases hfit : xa + (n3 : Int) ≤ (nt : Int)
              · have HOK : Hid (okA xss ⟨xs, xa, xd⟩ = true) := by show _ = _; rw [HO.out, HR.out, HFT.out, decide_eq_true hfit]; rfl
                have t4 : decide ((nt : Int) < xa + (n3 : Int)) = false := by simp; omega
                have hr1 := rightB_true.1 HR.out
                obtain ⟨gt, hAt⟩ := hot.zero (by omega)
                subst hAt
                go_region_held3 (fun w' => w'.cell? ⟨bx, 0, none⟩ = some (.int .i64 (xs.toNat : Int)) ∧ w'.cell? ⟨bx, 1, none⟩ = some (.int .i64 xa) ∧ w'.cell? ⟨bx, 2, none⟩ = some (.slice A3 n3 c3) ∧ w'.cell? ⟨g6, xs.toNat, none⟩ = some (.slice (some ⟨gt, 0, none⟩) nt ct))
                  (first | exact ⟨k0, k1, k2, hcT⟩ | exact ⟨(hb9.cell (p := ⟨bx, 0, none⟩) hsA).trans k0, (hb9.cell (p := ⟨bx, 1, none⟩) hsA).trans k1, (hb9.cell (p := ⟨bx, 2, none⟩) hsA).trans k2, (hb9.cell (p := ⟨g6, xs.toNat, none⟩) hg6l).trans hcT⟩)
                  (first | (go_at_call 24; refine (XR _).mono ?_; rintro e w9 ⟨rfl, hb9⟩))
                have hb9' : Below W.heap.size W w9 := (Below.refl _ _).drew.trans hb9
                have j0 : w9.cell? ⟨bx, 0, none⟩ = some (.int .i64 (xs.toNat : Int)) := (hb9'.cell (p := ⟨bx, 0, none⟩) hsA).trans k0
                have j1 : w9.cell? ⟨bx, 1, none⟩ = some (.int .i64 xa) := (hb9'.cell (p := ⟨bx, 1, none⟩) hsA).trans k1
                have j2 : w9.cell? ⟨bx, 2, none⟩ = some (.slice A3 n3 c3) := (hb9'.cell (p := ⟨bx, 2, none⟩) hsA).trans k2
                have hg9 := hgA.below hb9'
                have hbl9 : Below w.heap.size w w9 := hbA.trans (hb9'.mono hbA.size)
                have hg9' : Grid w9 w.heap.size (some ⟨g6, 0, none⟩) k c6 ss2 ((applyN xss (ws.take q)).set xs.toNat (lay ys xa.toNat (xd.take 0))) := by
                  rw [List.take_zero, lay_nil, HS0.out]; exact hg9
                have hty9 : Ty w9 bx 59 := by obtain ⟨a, b, h⟩ := hty; exact ⟨a, b, (hb9'.block bx hsA).trans h⟩
                have hn3 : n3 ≤ 4096 := hr1.2.2.2.1
                clear hr1 e1 t1 t2 t3 t4
                go_wp2
                go_loopw [60] (fun i wr => ∃ (j : Nat), j ≤ n3 ∧ i = .int .i64 j ∧ Grid wr w.heap.size (some ⟨g6, 0, none⟩) k c6 ss2 ((applyN xss (ws.take q)).set xs.toNat (lay ys xa.toNat (xd.take j))) ∧
                    wr.cell? ⟨bx, 0, none⟩ = some (.int .i64 (xs.toNat : Int)) ∧ wr.cell? ⟨bx, 1, none⟩ = some (.int .i64 xa) ∧ wr.cell? ⟨bx, 2, none⟩ = some (.slice A3 n3 c3) ∧ Ty wr bx 59 ∧ Below w.heap.size w wr)
                  (fun i _ => n3 - (intOf i).toNat)
                case atStart => exact ⟨0, Nat.zero_le _, rfl, hg9', j0, j1, j2, hty9, hbl9⟩
                case round =>
                  clear hg9' j0 j1 j2 hty9
                  obtain ⟨j, hj, rfl, hgr3, m0, m1, m2, hty3, hb3⟩ := hrel
                  have hsz3 := hb3.size
                  by_cases hlt3 : j < n3
                  · have hjx : j < xd.length := by rw [HL3.out]; exact hlt3
                    obtain ⟨b5, off5, rfl, hbB5, hc5⟩ := hrd.at_ j hjx
                    have hc5' := (hb3.cell (p := ⟨b5, off5 + j, none⟩) (hS b5 hbB5)).trans hc5
                    have HLS2 := Lib.hid (lay_set ys xd xa.toNat j (by rw [HL3.out, hly]; omega) hjx)
                    clear hc5
                    generalize xd[j] = x5 at *
                    unfold bv at hc5'
                    have hgl : xs.toNat < ((applyN xss (ws.take q)).set xs.toNat (lay ys xa.toNat (xd.take j))).length := by rw [hgr3.len]; exact hsn
                    have hrow := hgr3.each xs.toNat _ (lay ys xa.toNat (xd.take j)) hts (by rw [List.getElem?_set_self (by rw [List.length_set] at hgl; exact hgl)])
                    have hcT3 := hgr3.row.rd.at_ xs.toNat (by rw [hgr3.slen]; exact hsn)
                    obtain ⟨b6, o6, e6, _, hcT3⟩ := hcT3
                    injection e6 with e6; injection e6 with e6 e7; subst e6; subst e7
                    have hte : ss2[xs.toNat]'(by rw [hgr3.slen]; exact hsn) = (some ⟨gt, 0, none⟩, nt, ct) := by rw [List.getElem?_eq_getElem (by rw [hgr3.slen]; exact hsn)] at hts; injection hts
                    rw [Nat.zero_add, hte] at hcT3
                    unfold sv at hcT3
                    simp only at hcT3 hrow
                    clear hte
                    have fz3 : wr.frozen? ⟨gt, xa.toNat + j, none⟩ = false := hrow.frozen _
                    have hcl3 : ∃ v, wr.cell? ⟨gt, xa.toNat + j, none⟩ = some v := by
                      obtain ⟨b7, o7, e7, _, h7⟩ := hrow.rd.at_ (xa.toNat + j) (by rw [hrow.len]; omega)
                      injection e7 with e7; injection e7 with e7 e8; subst e7; subst e8
                      rw [Nat.zero_add] at h7; exact ⟨_, h7⟩
                    obtain ⟨v3, hcl3⟩ := hcl3
                    have w1 : IntKind.i64.wrap (xa + (j : Int)) = xa + (j : Int) := IntWalk.i64_in _ (by omega)
                    have w2 : (0 : Int) ≤ xa + (j : Int) := by omega
                    have w3 : xa + (j : Int) < (nt : Int) := by omega
                    have w4 : (xa + (j : Int)).toNat = xa.toNat + j := by omega
                    have hgbx : gt ≠ bx := Ty.ne (hrow.ty rfl) hty3 (by decide)
                    have hst := hrow.own.stored (xa.toNat + j) (bv x5)
                    have hst1 := hrow.stored (xa.toNat + j) x5
                    unfold bv at hst hst1
                    go_wp2
                    have gr4 : Grid (wr.setCell ⟨gt, xa.toNat + j, none⟩ (.int .u8 (x5.toNat : Int))) w.heap.size (some ⟨g6, 0, none⟩) k c6 ss2 ((applyN xss (ws.take q)).set xs.toNat (lay ys xa.toNat (xd.take (j + 1)))) := by
                      have := hgr3.changed xs.toNat hts hst1 hst.2 hsn
                      rw [List.set_set, HLS2.out] at this
                      exact this
                    have bl4 : Below w.heap.size w (wr.setCell ⟨gt, xa.toNat + j, none⟩ (.int .u8 (x5.toNat : Int))) := hb3.setCell ((hrow.ltA gt rfl).1) _
                    have n0 : (wr.setCell ⟨gt, xa.toNat + j, none⟩ (.int .u8 (x5.toNat : Int))).cell? ⟨bx, 0, none⟩ = some (.int .i64 (xs.toNat : Int)) := (World.cell?_setCell_other _ _ _ _ (fun e => by injection e with e1 e2; exact hgbx e1)).trans m0
                    have n1 : (wr.setCell ⟨gt, xa.toNat + j, none⟩ (.int .u8 (x5.toNat : Int))).cell? ⟨bx, 1, none⟩ = some (.int .i64 xa) := (World.cell?_setCell_other _ _ _ _ (fun e => by injection e with e1 e2; exact hgbx e1)).trans m1
                    have n2 : (wr.setCell ⟨gt, xa.toNat + j, none⟩ (.int .u8 (x5.toNat : Int))).cell? ⟨bx, 2, none⟩ = some (.slice (some ⟨b5, off5, none⟩) n3 c3) := (World.cell?_setCell_other _ _ _ _ (fun e => by injection e with e1 e2; exact hgbx e1)).trans m2
                    have ty4 : Ty (wr.setCell ⟨gt, xa.toNat + j, none⟩ (.int .u8 (x5.toNat : Int))) bx 59 := by
                      obtain ⟨a, b, h⟩ := hty3
                      exact ⟨a, b, (Below.heap_setCell wr _ _ bx (fun e => hgbx e.symm)).trans h⟩
                    clear hst hst1
                    go_still_tail 11, (by kernel_rfl)
                    go_wp2
                    go_roundw
                    case rel => exact ⟨j + 1, by omega, by go_num, gr4.below (Below.refl _ _).drew, n0, n1, n2, ty4, bl4.drew⟩
                    case measure => simp [intOf]; omega
                  · have hgr4 : Grid wr w.heap.size (some ⟨g6, 0, none⟩) k c6 ss2 (applyN xss (ws.take (q + 1))) := by
                      rw [List.take_of_length_le (l := xd) (by rw [HL3.out]; omega)] at hgr3
                      rw [HT.out, HG.out]; exact hgr3
                    go_wp2
                    go_roundw
                    case rel => exact ⟨q + 1, by omega, by go_num, hgr4, by rw [HTA.out, HA.out, HOK.out]; rfl, hb3⟩
                    case measure => simp [intOf]; omega
              · have HF : Hid (allA xss ws = false) := HN.out (by rw [HO.out, HR.out, HFT.out, decide_eq_false hfit]; rfl)
                have t4 : decide ((nt : Int) < xa + (n3 : Int)) = true := by simp; omega
                go_region_held3 (fun w' => w'.cell? ⟨bx, 0, none⟩ = some (.int .i64 (xs.toNat : Int)) ∧ w'.cell? ⟨bx, 1, none⟩ = some (.int .i64 xa) ∧ w'.cell? ⟨bx, 2, none⟩ = some (.slice A3 n3 c3) ∧ w'.cell? ⟨g6, xs.toNat, none⟩ = some (.slice At nt ct))
                  (first | exact ⟨k0, k1, k2, hcT⟩ | exact ⟨(hb9.cell (p := ⟨bx, 0, none⟩) hsA).trans k0, (hb9.cell (p := ⟨bx, 1, none⟩) hsA).trans k1, (hb9.cell (p := ⟨bx, 2, none⟩) hsA).trans k2, (hb9.cell (p := ⟨g6, xs.toNat, none⟩) hg6l).trans hcT⟩)
                  (first | (go_at_call 24; refine (XR _).mono ?_; rintro e w9 ⟨rfl, hb9⟩))
                all_goals
                  go_wp2
                  go_ret2
                  exact .inl ⟨HF.out, rfl, hbA.trans ((Below.refl _ _).drew.trans (hb9.mono hbA.size))⟩
            · have HF : Hid (allA xss ws = false) := HN.out (by rw [HO.out, HR.out]; unfold fitB; rw [decide_eq_false (by rw [HLX.out]; exact hsn)]; rfl)
              have t1 : decide ((k : Int) ≤ (xs.toNat : Int)) = true := by simp; omega
              have t2 : k ≤ xs.toNat := by omega
              have t3 : decide (k ≤ xs.toNat) = true := by simp; omega
              refine wp_region_held_drew (S := fun w' => w'.cell? ⟨bx, 0, none⟩ = some (.int .i64 (xs.toNat : Int)) ∧ w'.cell? ⟨bx, 1, none⟩ = some (.int .i64 xa) ∧ w'.cell? ⟨bx, 2, none⟩ = some (.slice A3 n3 c3)) (by kernel_rfl) ⟨k0, k1, k2⟩ (fun hHeld => ?_)
              refine wpAnyH_take (i := 0) (oi := ⟨some 32, _, _, _, _, _⟩) (v := ?_) rfl (by kernel_rfl) (by kernel_rfl) (by kernel_rfl) (fun _ _ _ h => h) (Or.inl ⟨by rfl, ?_⟩) (by assumption) ?_
              rotate_left
              focus (intro w hSw; (try dsimp only at hSw); go_simp; try with_reducible rfl)
              try simp only [Act.put, List.setIfInBounds_toArray, List.set_cons_zero, List.set_cons_succ]
              refine wpAnyH_ready (rs := [1]) (by kernel_rfl) (by simp) ?_
              refine AllReadyH.cons (o := ⟨some 33, _, _, _, _, _⟩) rfl (fun K hK => ?_) AllReadyH.nil
              go_simp
              refine (XR _).mono ?_
              rintro e w9 ⟨rfl, hb9⟩
              go_wp2_with fail
              refine hK.out _ _ ⟨(hb9.cell (p := ⟨bx, 0, none⟩) hsA).trans k0, (hb9.cell (p := ⟨bx, 1, none⟩) hsA).trans k1, (hb9.cell (p := ⟨bx, 2, none⟩) hsA).trans k2⟩ (fun hHeld => ?_)
              clear hK K
              try simp only [Act.put, List.setIfInBounds_toArray, List.set_cons_zero, List.set_cons_succ]
              refine wpAnyH_take (i := 2) (oi := ⟨some 34, _, _, _, _, _⟩) (v := ?_) rfl (by kernel_rfl) (by kernel_rfl) (by kernel_rfl) (fun _ _ _ h => h) (Or.inl ⟨by rfl, ?_⟩) (by assumption) ?_
              rotate_left
              focus (intro w hSw; (try dsimp only at hSw); go_simp; try with_reducible rfl)
              try simp only [Act.put, List.setIfInBounds_toArray, List.set_cons_zero, List.set_cons_succ]
              refine wpAnyH_take (i := 3) (oi := ⟨some 35, _, _, _, _, _⟩) (v := ?_) rfl (by kernel_rfl) (by kernel_rfl) (by kernel_rfl) (fun _ _ _ h => h) (Or.inl ⟨by rfl, ?_⟩) (by assumption) ?_
              rotate_left
              focus (intro w hSw; (try dsimp only at hSw); go_simp; try with_reducible rfl)
              try simp only [Act.put, List.setIfInBounds_toArray, List.set_cons_zero, List.set_cons_succ]
              refine wpAnyH_take (i := 4) (oi := ⟨some 36, _, _, _, _, _⟩) (v := ?_) rfl (by kernel_rfl) (by kernel_rfl) (by kernel_rfl) (fun _ _ _ h => h) (Or.inl ⟨by rfl, ?_⟩) (by assumption) ?_
              rotate_left
              focus (intro w hSw; (try dsimp only at hSw); go_simp; try with_reducible rfl)
              try simp only [Act.put, List.setIfInBounds_toArray, List.set_cons_zero, List.set_cons_succ]
              refine wpAnyH_take (i := 5) (oi := ⟨some 37, _, _, _, _, _⟩) (v := ?_) rfl (by kernel_rfl) (by kernel_rfl) (by kernel_rfl) (fun _ _ _ h => h) (Or.inl ⟨by rfl, ?_⟩) (by assumption) ?_
              rotate_left
              focus (intro w hSw; (try dsimp only at hSw); go_simp; try with_reducible rfl)
              try simp only [Act.put, List.setIfInBounds_toArray, List.set_cons_zero, List.set_cons_succ]
              refine wpAnyH_take (i := 6) (oi := ⟨some 38, _, _, _, _, _⟩) (v := ?_) rfl (by kernel_rfl) (by kernel_rfl) (by kernel_rfl) (fun _ _ _ h => h) (Or.inl ⟨by rfl, ?_⟩) (by assumption) ?_
              rotate_left
              focus (intro w hSw; (try dsimp only at hSw); go_simp; try with_reducible rfl)
              try simp only [Act.put, List.setIfInBounds_toArray, List.set_cons_zero, List.set_cons_succ]
              refine wpAnyH_take (i := 7) (oi := ⟨some 39, _, _, _, _, _⟩) (v := ?_) rfl (by kernel_rfl) (by kernel_rfl) (by kernel_rfl) (fun _ _ _ h => h) (Or.inl ⟨by rfl, ?_⟩) (by assumption) ?_
              rotate_left
              focus (intro w hSw; (try dsimp only at hSw); go_simp; try with_reducible rfl)
              try simp only [Act.put, List.setIfInBounds_toArray, List.set_cons_zero, List.set_cons_succ]
              refine wpAnyH_take (i := 8) (oi := ⟨some 40, _, _, _, _, _⟩) (v := ?_) rfl (by kernel_rfl) (by kernel_rfl) (by kernel_rfl) (fun _ _ _ h => h) (Or.inl ⟨by rfl, ?_⟩) (by assumption) ?_
              rotate_left
              focus (intro w hSw; (try dsimp only at hSw); go_simp; try with_reducible rfl)
              try simp only [Act.put, List.setIfInBounds_toArray, List.set_cons_zero, List.set_cons_succ]
              refine wpAnyH_take (i := 9) (oi := ⟨some 41, _, _, _, _, _⟩) (v := ?_) rfl (by kernel_rfl) (by kernel_rfl) (by kernel_rfl) (fun _ _ _ h => h) (Or.inl ⟨by rfl, ?_⟩) (by assumption) ?_
              rotate_left
              focus (intro w hSw; (try dsimp only at hSw); go_simp; try with_reducible rfl)
              try simp only [Act.put, List.setIfInBounds_toArray, List.set_cons_zero, List.set_cons_succ]
              refine wpAnyH_take (i := 10) (oi := ⟨some 42, _, _, _, _, _⟩) (v := ?_) rfl (by kernel_rfl) (by kernel_rfl) (by kernel_rfl) (fun _ _ _ h => h) (Or.inl ⟨by rfl, ?_⟩) (by assumption) ?_
              rotate_left
              focus (intro w hSw; (try dsimp only at hSw); go_simp; try with_reducible rfl)
              try simp only [Act.put, List.setIfInBounds_toArray, List.set_cons_zero, List.set_cons_succ]
              refine wpAnyH_take (i := 11) (oi := ⟨some 43, _, _, _, _, _⟩) (v := undef) rfl (by kernel_rfl) (by kernel_rfl) (by kernel_rfl) (fun _ _ _ h => h) (Or.inr ⟨by rfl, rfl⟩) (by assumption) ?_
              try simp only [Act.put, List.setIfInBounds_toArray, List.set_cons_zero, List.set_cons_succ]
              refine wpAnyH_take (i := 12) (oi := ⟨some 44, _, _, _, _, _⟩) (v := undef) rfl (by kernel_rfl) (by kernel_rfl) (by kernel_rfl) (fun _ _ _ h => h) (Or.inr ⟨by rfl, rfl⟩) (by assumption) ?_
              try simp only [Act.put, List.setIfInBounds_toArray, List.set_cons_zero, List.set_cons_succ]
              refine wpAnyH_take (i := 13) (oi := ⟨some 45, _, _, _, _, _⟩) (v := undef) rfl (by kernel_rfl) (by kernel_rfl) (by kernel_rfl) (fun _ _ _ h => h) (Or.inr ⟨by rfl, rfl⟩) (by assumption) ?_
              try simp only [Act.put, List.setIfInBounds_toArray, List.set_cons_zero, List.set_cons_succ]
              refine wpAnyH_take (i := 14) (oi := ⟨some 46, _, _, _, _, _⟩) (v := undef) rfl (by kernel_rfl) (by kernel_rfl) (by kernel_rfl) (fun _ _ _ h => h) (Or.inr ⟨by rfl, rfl⟩) (by assumption) ?_
              try simp only [Act.put, List.setIfInBounds_toArray, List.set_cons_zero, List.set_cons_succ]
              refine wpAnyH_take (i := 15) (oi := ⟨some 47, _, _, _, _, _⟩) (v := undef) rfl (by kernel_rfl) (by kernel_rfl) (by kernel_rfl) (fun _ _ _ h => h) (Or.inr ⟨by rfl, rfl⟩) (by assumption) ?_
              try simp only [Act.put, List.setIfInBounds_toArray, List.set_cons_zero, List.set_cons_succ]
              refine wpAnyH_take (i := 16) (oi := ⟨some 48, _, _, _, _, _⟩) (v := undef) rfl (by kernel_rfl) (by kernel_rfl) (by kernel_rfl) (fun _ _ _ h => h) (Or.inr ⟨by rfl, rfl⟩) (by assumption) ?_
              try simp only [Act.put, List.setIfInBounds_toArray, List.set_cons_zero, List.set_cons_succ]
              refine wpAnyH_take (i := 17) (oi := ⟨some 49, _, _, _, _, _⟩) (v := undef) rfl (by kernel_rfl) (by kernel_rfl) (by kernel_rfl) (fun _ _ _ h => h) (Or.inr ⟨by rfl, rfl⟩) (by assumption) ?_
              try simp only [Act.put, List.setIfInBounds_toArray, List.set_cons_zero, List.set_cons_succ]
              refine wpAnyH_take (i := 18) (oi := ⟨some 50, _, _, _, _, _⟩) (v := undef) rfl (by kernel_rfl) (by kernel_rfl) (by kernel_rfl) (fun _ _ _ h => h) (Or.inr ⟨by rfl, rfl⟩) (by assumption) ?_
              try simp only [Act.put, List.setIfInBounds_toArray, List.set_cons_zero, List.set_cons_succ]
              refine wpAnyH_take (i := 19) (oi := ⟨some 51, _, _, _, _, _⟩) (v := undef) rfl (by kernel_rfl) (by kernel_rfl) (by kernel_rfl) (fun _ _ _ h => h) (Or.inr ⟨by rfl, rfl⟩) (by assumption) ?_
              try simp only [Act.put, List.setIfInBounds_toArray, List.set_cons_zero, List.set_cons_succ]
              refine wpAnyH_take (i := 20) (oi := ⟨some 52, _, _, _, _, _⟩) (v := undef) rfl (by kernel_rfl) (by kernel_rfl) (by kernel_rfl) (fun _ _ _ h => h) (Or.inr ⟨by rfl, rfl⟩) (by assumption) ?_
              try simp only [Act.put, List.setIfInBounds_toArray, List.set_cons_zero, List.set_cons_succ]
              refine wpAnyH_take (i := 21) (oi := ⟨some 53, _, _, _, _, _⟩) (v := undef) rfl (by kernel_rfl) (by kernel_rfl) (by kernel_rfl) (fun _ _ _ h => h) (Or.inr ⟨by rfl, rfl⟩) (by assumption) ?_
              try simp only [Act.put, List.setIfInBounds_toArray, List.set_cons_zero, List.set_cons_succ]
              refine wpAnyH_take (i := 22) (oi := ⟨some 54, _, _, _, _, _⟩) (v := undef) rfl (by kernel_rfl) (by kernel_rfl) (by kernel_rfl) (fun _ _ _ h => h) (Or.inr ⟨by rfl, rfl⟩) (by assumption) ?_
              try simp only [Act.put, List.setIfInBounds_toArray, List.set_cons_zero, List.set_cons_succ]
              refine wpAnyH_take (i := 23) (oi := ⟨some 55, _, _, _, _, _⟩) (v := undef) rfl (by kernel_rfl) (by kernel_rfl) (by kernel_rfl) (fun _ _ _ h => h) (Or.inr ⟨by rfl, rfl⟩) (by assumption) ?_
              try simp only [Act.put, List.setIfInBounds_toArray, List.set_cons_zero, List.set_cons_succ]
              refine wpAnyH_take (i := 24) (oi := ⟨some 56, _, _, _, _, _⟩) (v := ?_) rfl (by kernel_rfl) (by kernel_rfl) (by kernel_rfl) (fun _ _ _ h => h) (Or.inl ⟨by rfl, ?_⟩) (by assumption) ?_
              rotate_left
              focus (intro w hSw; (try dsimp only at hSw); go_simp; try with_reducible rfl)
              try simp only [Act.put, List.setIfInBounds_toArray, List.set_cons_zero, List.set_cons_succ]
              refine wpAnyH_done (by kernel_rfl) ?_ _
              all_goals
                go_wp2
                go_ret2
                exact .inl ⟨HF.out, rfl, hbA.trans ((Below.refl _ _).drew.trans (hb9.mono hbA.size))⟩
        · have hgr' : Grid wr w.heap.size A6 k c6 ss2 (applyN xss ws) := by
            rw [List.take_of_length_le (by rw [HL.out]; omega)] at hgr; exact hgr
          have HAll : Hid (allA xss ws = true) := by
            have := HA.out
            rwa [List.take_of_length_le (by rw [HL.out]; omega)] at this
          go_wp2
          go_ret2
          have hx := HLX.out
          subst hx
          exact .inr ⟨HAll.out, _, _, _, rfl, hgr', hb⟩

end Go.Proofs.Ytnkagonbkaecfaa
