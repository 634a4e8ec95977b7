/- The document's example of layer 5; the walk of BlockMany. -/
import Derived.Test.YtdefkajjpilicaaBlk6
namespace Go.Proofs.Ytdefkajjpilicaa
open Go.RowKit

theorem awakeL : blkSz (diskN (strN ⟨#[42]⟩) 0 []) = 58 ∧ rgtB (diskN (strN ⟨#[42]⟩) 0 []) = true ∧ rgtB ((diskN (strN ⟨#[42]⟩) 0 []).drop 1) = false ∧ (diskN (strN ⟨#[42]⟩) 0 []).length = 2 ∧ (∀ x ∈ diskN (strN ⟨#[42]⟩) 0 [], x.data.length ≤ 100000) := by
  refine ⟨by decide +kernel, by decide +kernel, by decide +kernel, by decide +kernel, ?_⟩
  intro x hx
  unfold diskN at hx
  simp at hx
  rcases hx with rfl | rfl
  · simp [dheadN_len]
  · simp

set_option maxRecDepth 100000 in
set_option maxHeartbeats 2000000 in
theorem awake5_any (w : World) : Calls Try.prog 8 #[] w fun e w' => e = .returned (.bool true) ∧ Below w.heap.size w w' := by
  have hD := disk_any ⟨#[42]⟩ 0 none 0 0 (fun _ => False) [] w RdX.nil (fun b h => h.elim) (by omega) (by simp) (fun x hx => by simp at hx)
  obtain ⟨h1, h2, h3, h4, h5⟩ := awakeL
  generalize diskN (strN ⟨#[42]⟩) 0 [] = L at *
  have H5 : Hid (∀ x ∈ L, x.data.length ≤ 100000) := h5
  clear h5
  go_enter Try.func8, Try.ntmps8
  go_wp2_with fail
  refine hD.mono ?_
  rintro e w1 ⟨A1, n1, c1, rfl, r1, hb1⟩
  obtain rfl : 2 = n1 := by rw [← h4]; exact r1.len
  obtain ⟨b, off, _, _, _, rfl, _⟩ := rdB_at r1 0 (by omega)
  have hcap := r1.cap
  have hSz := size_any _ _ _ _ L w1 r1 (fun b h => h) (by omega) H5
  rw [h1] at hSz
  go_wp2_with fail
  refine hSz.mono ?_
  rintro e w2 ⟨rfl, hb2⟩
  have r2 := r1.keep (Kp.below hb2 (fun b h => h)) (fun b h => h)
  have hR := right_any _ _ _ _ L w2 r2 (fun b h => Nat.lt_of_lt_of_le h hb2.size) (by omega) (fun x hx => by have := H5.out x hx; omega)
  rw [h2] at hR
  go_wp2_with fail
  refine hR.mono ?_
  rintro e w3 ⟨rfl, hb3⟩
  have r3 := r2.keep (Kp.below hb3 (fun b h => Nat.lt_of_lt_of_le h hb2.size)) (fun b h => h)
  have hR2 := right_any _ _ _ _ (L.drop 1) w3 (r3.drop 1 (by omega)) (fun b h => Nat.lt_of_lt_of_le (Nat.lt_of_lt_of_le h hb2.size) hb3.size) (by omega) (fun x hx => by have := H5.out x (List.mem_of_mem_drop hx); omega)
  rw [h3] at hR2
  have hc1 : ¬ (c1 = 1) := by omega
  go_wp2_with fail
  refine hR2.mono ?_
  rintro e w4 ⟨rfl, hb4⟩
  go_wp2
  go_ret
  exact ⟨rfl, hb1.trans ((hb2.trans (hb3.mono hb2.size)).mono hb1.size |>.trans (hb4.mono (Nat.le_trans (Nat.le_trans hb1.size hb2.size) hb3.size)))⟩

/-- the empty file of BlockMany -/
def F0 : List Bm := fileN 0 0 [] 0 0 []
theorem F0_file : isFile F0 := isFile_fileN _ _ _ _ _ _ (by simp)
theorem F0_data : ∀ x ∈ F0, x.data.length ≤ 100000 := by
  intro x hx
  unfold F0 fileN at hx
  simp at hx
  rcases hx with rfl | rfl
  · simp [headN_len]
  · simp
theorem rep_file (m : Nat) : ∀ f ∈ List.replicate m F0, isFile f := fun f hf => by rw [List.eq_of_mem_replicate hf]; exact F0_file
theorem rep_data (m : Nat) : ∀ x ∈ (List.replicate m F0).flatten, x.data.length ≤ 100000 := fun x hx => by
  obtain ⟨f, hf, hx⟩ := List.mem_flatten.1 hx
  rw [List.eq_of_mem_replicate hf] at hx
  exact F0_data x hx
theorem disk_data (sign : List UInt8) (side : UInt8) (fs : List (List Bm)) (h : ∀ x ∈ fs.flatten, x.data.length ≤ 100000) : ∀ x ∈ diskN sign side fs, x.data.length ≤ 100000 := by
  intro x hx
  unfold diskN at hx
  rcases List.mem_append.1 hx with h1 | h1
  · simp at h1
    rcases h1 with rfl | rfl
    · simp [dheadN_len]
    · simp
  · exact h x h1
theorem blkSz_le (l : List Bm) (h : ∀ x ∈ l, x.data.length ≤ 100000) : blkSz l ≤ l.length * 100001 := by
  unfold blkSz
  induction l with
  | nil => simp
  | cons x l ih =>
    have h1 := h x (by simp)
    have h2 := ih (fun y hy => h y (by simp [hy]))
    simp only [List.map_cons, List.sum_cons, List.length_cons, Nat.succ_mul]
    omega
theorem Try.infoBts : (Try.prog.info? 26).map (fun i => (i.zero, i.size, i.bytes)) = some (some (.slice none 0 0), 1, 24) := by kernel_rfl

set_option maxRecDepth 100000 in
set_option maxHeartbeats 4000000 in
theorem blockMany_walk (z : Int) (w : World) (h0 : 0 ≤ z) (_h1 : z < 256) :
    Calls Try.prog 7 #[.int .u8 z] w fun e w' => e = .returned (.bool true) ∧ Below w.heap.size w w' := by
  obtain ⟨i0, hi, hz0, hz1, hz2⟩ := info_parts Try.infoBts
  have htm : z.tmod 8 = z % 8 := Int.tmod_eq_emod_of_nonneg h0
  obtain ⟨M, hM⟩ : ∃ M : Nat, (M : Int) = 250 + z % 8 := ⟨(250 + z % 8).toNat, by omega⟩
  have hM1 : 250 ≤ M := by omega
  have hM2 : M ≤ 257 := by omega
  have hM' : (250 : Int) + z % 8 = (M : Int) := hM.symm
  clear hM
  go_enter Try.func7, Try.ntmps7
  go_wp2_with fail
  refine (awake5_any w).mono ?_
  rintro e w1 ⟨rfl, hb1⟩
  go_wp2_with fail
  go_loopw [3, 16] (fun v i wr => ∃ (k : Nat) (Aw : Option Addr) (nw cw : Nat) (rsw : List (Option Addr × Nat × Nat)), k ≤ M ∧ i = .int .i64 k ∧ v = .slice Aw nw cw ∧ nw ≤ k ∧ OE shBL wr w.heap.size 26 Aw nw cw rsw (List.replicate k F0) ∧ BlE w wr)
    (fun _ i _ => M - (intOf i).toNat)
  case atStart => exact ⟨0, none, 0, 0, [], Nat.zero_le _, rfl, rfl, Nat.le_refl _, OwnX.empty shBL w1 w.heap.size 26 _, hb1⟩
  case round =>
    obtain ⟨k, Aw, nw, cw, rsw, hk, rfl, rfl, hnk, hO, hB⟩ := hrel
    have hsz := BlE.sz hB
    by_cases hlt : k < M
    · have hF := file_any 0 0 0 ⟨#[]⟩ 0 none 0 0 0 [] wr Rd.nil (by omega) (by omega) (by omega) (by omega)
      go_wp2_with fail
      refine hF.mono ?_
      rintro e w5 ⟨A5, n5, c5, rfl, r5, hb5⟩
      have hO5 := OE.below hO hb5
      have hB5 := BlE.below hB hb5
      have hX5 : shBL.Ok w5 (SE w5 Aw none) (A5, n5, c5) F0 := r5.keep (Kp.refl _ _) (fun b h => ⟨h.2, OwnX.off hO h.1, off_none _⟩)
      have hs5 := BlE.sz hB5
      clear hF r5 hO
      go_wp2_with (at_builtin
                   refine wpList_push shBL _ rfl (.tmp 18) (.tmp 20) 58 rfl w.heap.size 26 i0 _ 24 Try.underlying58 hi hz0 hz1 hz2 rfl _ Aw nw cw rsw _ rfl hO5 _ _ _ _ _ (A5, n5, c5) F0 rfl rfl rfl hX5 (fun b h => ⟨h.1, h.2.1⟩) (by simp only [maxLen]; omega) (by omega) hs5 ?_
                   intro g6 c6 w6 hown6 hg6 hat6 hlt6)
      have bl6 : BlE w w6 := BlE.grown hB5 hg6 (fun k hk => (OwnX.lt hO5 k hk).1)
      have hO6 : OE shBL w6 w.heap.size 26 (some ⟨g6, 0, none⟩) (nw + 1) c6 (rsw ++ [(A5, n5, c5)]) (List.replicate (k + 1) F0) := by
        rw [List.replicate_succ']
        exact hown6.sub (fun b h => ⟨by have := hg6.size; have := h.1; omega, off_pushed hat6 (by have := h.1; omega) h.2.1, off_none _⟩)
      go_roundw
      case rel => exact ⟨k + 1, _, nw + 1, c6, _, by omega, by go_num, rfl, by omega, hO6, bl6⟩
      case measure => simp [intOf]; omega
    · obtain rfl : k = M := by omega
      have rF : RdX shBL wr (· < wr.heap.size) Aw nw cw (List.replicate k F0) := OwnX.rd hO (fun b h => h.1) (fun b h => (OwnX.lt hO b h).2)
      have hD := disk_any ⟨#[]⟩ 0 Aw nw cw _ (List.replicate k F0) wr rF (fun b h => h) (by omega) (by rw [flatten_pairs_len _ (rep_file k), List.length_replicate]; omega) (rep_data k)
      have hfit := fits_diskN (strN ⟨#[]⟩) 0 (List.replicate k F0) (rep_file k)
      have hlen := diskN_len (strN ⟨#[]⟩) 0 (List.replicate k F0) (rep_file k)
      have hdat := disk_data (strN ⟨#[]⟩) 0 (List.replicate k F0) (rep_data k)
      rw [List.length_replicate] at hlen
      generalize diskN (strN ⟨#[]⟩) 0 (List.replicate k F0) = L at *
      have hpar := parse_flat L hfit
      have hbs := blkSz_le L hdat
      have hdat2 : Hid (∀ x ∈ L, x.data.length ≤ 9223372036854775807) := fun x hx => by have := hdat x hx; omega
      clear hdat rF hO
      go_wp2_with fail
      refine hD.mono ?_
      rintro e w2 ⟨A2, n2, c2, rfl, r2, hb2⟩
      have hB2 := BlE.below hB hb2
      have hn2 : n2 = 2 + 2 * k := by rw [← r2.len]; exact hlen
      have HN2 := Lib.hid hn2
      have hn2a : n2 ≤ 516 := by omega
      have hW := want_any A2 n2 c2 _ L w2 r2 (fun b h => h) (by omega) hdat2
      clear hn2
      go_wp2_with fail
      refine hW.mono ?_
      rintro e w3 ⟨rfl, hb3⟩
      unfold ksV
      have r3 := r2.keep (Kp.below hb3 (fun b h => h)) (fun b h => Nat.lt_of_lt_of_le h hb3.size)
      have hB3 := BlE.below hB2 hb3
      go_wp2_with fail
      refine (own5_any A2 n2 c2 _ L w3 r3 (fun b h => h) (by omega)).mono ?_
      rintro e w4 ⟨A4, n4, c4, rfl, r4, hb4⟩
      have hn4 : n4 ≤ 516 := by rw [← r4.len]; omega
      have r3a := r3.keep (Kp.below hb4 (fun b h => h)) (fun b h => Nat.lt_of_lt_of_le h hb4.size)
      have hB4 := BlE.below hB3 hb4
      go_wp2_with fail
      refine (flat_any A4 n4 c4 _ L w4 r4 (fun b h => h) (by omega) (by omega)).mono ?_
      rintro e w5 ⟨A5, n5, c5, rfl, o5, hb5⟩
      have hn5 : n5 ≤ 1099511627776 := by rw [← o5.len, flatN_len]; omega
      have r3b := r3a.keep (Kp.below hb5 (fun b h => h)) (fun b h => Nat.lt_of_lt_of_le h hb5.size)
      have hB5 := BlE.below hB4 hb5
      have hP := parse_any A5 n5 c5 _ _ w5 o5.rd (Nat.le_refl _) hn5
      rw [hpar] at hP
      go_wp2_with fail
      refine hP.mono ?_
      rintro e w6 ⟨A6, n6, c6, rfl, r6, hb6⟩
      have hn6 : n6 = min 512 n2 := by rw [← r6.len, List.length_take, r2.len]
      have r3c := r3b.keep (Kp.below hb6 (fun b h => h)) (fun b h => Nat.lt_of_lt_of_le h hb6.size)
      have hB6 := BlE.below hB5 hb6
      have hR := right_any A2 n2 c2 _ L w6 r3c (fun b h => h) (by omega) hdat2
      clear hD hW hP r2 r3 r3a r3b r3c r4 r6 o5 hb1 hb2 hb3 hb4 hb5 hb6 hB hB2 hB3 hB4 hB5
      have hn2 := HN2.out
      rcases Nat.lt_trichotomy n2 512 with h | h | h
      · have e1 : rgtB L = true := by unfold rgtB; rw [hfit, decide_eq_true (by omega)]; rfl
        have e2 : wantN L = (kindN n2, sizeN n2 (ahead L n2)) := by unfold wantN; rw [if_pos ⟨by omega, e1⟩, hlen, ← hn2]
        have e3 := kindN_lt n2
        rw [e1] at hR
        rw [e2]
        simp only
        generalize sizeN n2 (ahead L n2) = sz at *
        generalize kindN n2 = kd at *
        obtain rfl : n6 = n2 := by omega
        clear hn6 hn2
        go_wp2_with (go_at_call 13; refine hR.mono ?_; rintro e w7 ⟨rfl, hb7⟩)
        go_ret
        exact ⟨rfl, BlE.below hB6 hb7⟩
      · have e1 : rgtB L = true := by unfold rgtB; rw [hfit, decide_eq_true (by omega)]; rfl
        have e2 : wantN L = (0, 0) := by unfold wantN; rw [if_neg (by omega)]
        rw [e1] at hR
        rw [e2]
        simp only
        obtain rfl : n6 = n2 := by omega
        clear hn6 hn2
        subst h
        go_wp2_with (go_at_call 13; refine hR.mono ?_; rintro e w7 ⟨rfl, hb7⟩)
        go_ret
        exact ⟨rfl, BlE.below hB6 hb7⟩
      · have e1 : rgtB L = false := by unfold rgtB; rw [decide_eq_false (by omega)]; rfl
        have e2 : wantN L = (0, 0) := by unfold wantN; rw [if_neg (by omega)]
        rw [e1] at hR
        rw [e2]
        simp only
        obtain rfl : n6 = 512 := by omega
        clear hn6 hn2
        have t1 : decide ((n2 : Int) ≤ 512) = false := decide_eq_false (by omega)
        have t2 : decide ((n2 : Int) < 512) = false := decide_eq_false (by omega)
        go_wp2_with (go_at_call 13; refine hR.mono ?_; rintro e w7 ⟨rfl, hb7⟩)
        go_ret
        exact ⟨rfl, BlE.below hB6 hb7⟩

end Go.Proofs.Ytdefkajjpilicaa
