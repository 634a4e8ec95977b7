/- Contracts of package block: next, Right, Size, Want. No law is claimed here. -/
import Derived.Test.YtdefkajjpilicaaBlk1
namespace Go.Proofs.Ytdefkajjpilicaa
open Go.RowKit

/-- a kind and a size -/
def ksV (k s : Nat) : Value := .tuple #[.int .u8 (k : Int), .int .i64 (s : Int)]

set_option maxRecDepth 100000 in
set_option maxHeartbeats 1000000 in
theorem next_any (A : Option Addr) (n c : Nat) (S : Nat → Prop) (l : List Bm) (w : World) (hr : RdX shB w S A n c l) (hn : n ≤ 1000000) (ht : Told l) (hd : Hid (∀ x ∈ l, x.data.length ≤ 9223372036854775807)) :
    Calls Try.prog 27 #[.slice A n c] w fun e w' => e = .returned (ksV (kindN n) (sizeN n (ahead l n))) ∧ Still w w' := by
  have hl := hr.len
  by_cases h0 : n = 0
  · subst h0
    go_enter Try.func27, Try.ntmps27
    go_wp2
    go_ret2
    exact ⟨rfl, 0, rfl⟩
  by_cases h1 : n = 1
  · subst h1
    go_enter Try.func27, Try.ntmps27
    go_wp2
    go_ret2
    exact ⟨rfl, 0, rfl⟩
  have e0 : ((n : Int) == 0) = false := by rw [beq_eq_false_iff_ne]; omega
  have e1 : ((n : Int) == 1) = false := by rw [beq_eq_false_iff_ne]; omega
  by_cases h2 : n % 2 = 0
  · have HV : Hid (ksV (kindN n) (sizeN n (ahead l n)) = ksV 3 15) := by
      unfold kindN sizeN; rw [if_neg h0, if_neg h1, if_pos h2, if_neg h0, if_neg h1, if_pos h2]; exact rfl
    have ht2 : (n : Int).tmod 2 = 0 := by rw [Int.tmod_eq_emod_of_nonneg (by omega)]; omega
    clear h0 h1 h2 hl
    go_enter Try.func27, Try.ntmps27
    go_wp2
    go_ret2
    rw [HV.out]
    exact ⟨rfl, 0, rfl⟩
  · have HV : Hid (ksV (kindN n) (sizeN n (ahead l n)) = ksV 4 (fsz (ahead l n))) := by
      unfold kindN sizeN; rw [if_neg h0, if_neg h1, if_neg h2, if_neg h0, if_neg h1, if_neg h2]; exact rfl
    have ht2 : (n : Int).tmod 2 = 1 := by rw [Int.tmod_eq_emod_of_nonneg (by omega)]; omega
    have hk : n - 1 < l.length := by omega
    have hto := ht (by omega) (by omega)
    obtain ⟨b, off, A2, n2, c2, rfl, _, _, hc, hrd⟩ := rdB_at hr (n - 1) hk
    have ea : (l[n - 1]'hk).data = ahead l n := by
      unfold ahead; rw [List.getD_eq_getElem?_getD, List.getElem?_eq_getElem hk]; exact rfl
    have hbig := hd.out _ (List.getElem_mem hk)
    rw [ea] at hrd hbig
    rw [hl] at hto
    have hl2 := hrd.len
    have hR : Rd bv w (A2.elim 0 (·.block + 1)) A2 n2 c2 (ahead l n) := ⟨hrd.len, hrd.cap, fun j hj => by
      obtain ⟨b', off', e, hb, hcj⟩ := hrd.at_ j hj
      exact ⟨b', off', e, by rw [e]; simp, hcj⟩⟩
    obtain ⟨b2, off2, rfl⟩ := hR.some_of (by omega)
    have HC := fun w => fileSize_any b2 off2 n2 c2 (b2 + 1) (ahead l n) w
    have hR : Rd bv w (b2 + 1) (some ⟨b2, off2, none⟩) n2 c2 (ahead l n) := hR
    have hm : n2 ≤ 9223372036854775807 := by omega
    have hm2 : 14 ≤ n2 := by omega
    generalize ahead l n = h at *
    have hc' : w.cell? ⟨b, off + (n - 1) * 2 + 1, none⟩ = some (.slice (some ⟨b2, off2, none⟩) n2 c2) := hc
    have hi1 : ((n : Int) - 1) < n := by omega
    have hi0 : (0 : Int) ≤ (n : Int) - 1 := by omega
    have ht3 : ((n : Int) - 1).toNat = n - 1 := by omega
    clear hto hl2 hl h0 h1 h2 hrd ea hbig
    go_enter Try.func27, Try.ntmps27
    go_wp2_with (go_at_call 34; refine (HC _ hR hm2 hm).mono ?_; rintro e w' ⟨rfl, q, rfl⟩)
    go_ret2
    rw [HV.out]
    exact ⟨rfl, q, rfl⟩

theorem getD_get {α : Type} (l : List α) (k : Nat) (d : α) (h : k < l.length) : l.getD k d = l[k] := by
  rw [List.getD_eq_getElem?_getD, List.getElem?_eq_getElem h]; exact rfl

set_option maxRecDepth 100000 in
set_option maxHeartbeats 1000000 in
theorem right_any (A : Option Addr) (n c : Nat) (S : Nat → Prop) (l : List Bm) (w : World) (hr : RdX shB w S A n c l) (hS : ∀ b, S b → b < w.heap.size) (hn : n ≤ 1000000) (hd : Hid (∀ x ∈ l, x.data.length ≤ 9223372036854775807)) :
    Calls Try.prog 13 #[.slice A n c] w fun e w' => e = .returned (.bool (rgtB l)) ∧ Below w.heap.size w w' := by
  have hl := hr.len
  by_cases hbig : n ≤ 512
  case neg =>
    have HV : Hid (rgtB l = false) := by unfold rgtB; rw [decide_eq_false (by omega)]; exact rfl
    clear hl
    go_enter Try.func13, Try.ntmps13
    go_wp2
    go_ret
    rw [HV.out]
    exact ⟨rfl, Below.refl _ _⟩
  have HL := Lib.hid hl
  have HG : Hid (rgtB l = fitsB l n) := by unfold rgtB; rw [decide_eq_true (by omega), hl]; exact rfl
  rw [HG.out]
  clear hl
  have hbig' : ¬ ((n : Int) > 512) := by omega
  go_enter Try.func13, Try.ntmps13
  go_wp2
  go_loopw [12] (fun i wr => ∃ (k : Nat), k ≤ n ∧ i = .int .i64 k ∧ Hid (fitsB l k = true) ∧ Below w.heap.size w wr) (fun i _ => n - (intOf i).toNat)
  case atStart => exact ⟨0, Nat.zero_le _, rfl, rfl, Below.refl _ _⟩
  case round =>
    obtain ⟨k, hk, rfl, hfit, hb⟩ := hrel
    have hsz := hb.size
    by_cases hlt : k < n
    · have hkx : k < l.length := by rw [HL.out]; exact hlt
      have hrk := hr.keep (Kp.below hb hS) (fun _ h => h)
      obtain ⟨b, off, A3, n3, c3, rfl, hSb, hc0, hc1, hrd⟩ := rdB_at hrk k hkx
      have hcap := hrk.cap
      have hbA := hb.alloc hsz (.cells #[.int .u8 (l[k].kind.toNat : Int), .slice A3 n3 c3] 49)
      have hrt := (hr.keep (Kp.below hbA hS) (fun _ h => h)).take k hk
      have HN := next_any (some ⟨b, off, none⟩) k c S (l.take k) _ hrt (by omega)
        (told_of_fits (by rw [fitsB_take _ _ _ (by simp; omega), List.length_take, Nat.min_eq_left (Nat.le_of_lt hkx)]; exact hfit.out))
        (fun x hx => hd.out x (List.mem_of_mem_take hx))
      have es : sizeN k (ahead (l.take k) k) = sizeN k (ahead l k) := by
        rcases Nat.eq_zero_or_pos k with h0 | h0
        · subst h0; exact rfl
        · unfold ahead; rw [getD_take _ _ _ _ (by omega)]
      rw [es] at HN
      have HO : okB l k = (decide (l[k].kind.toNat = kindN k) && decide (n3 = sizeN k (ahead l k))) := by
        unfold okB; rw [getD_get _ _ _ hkx, hrd.len]
      have HS := Lib.hid (fitsB_succ (l := l) (k := k) hfit.out)
      have HF : Hid (okB l k = false → fitsB l n = false) := fun h => by
        rw [Bool.eq_false_iff]; intro hh; rw [fitsB_iff] at hh; rw [hh k hlt] at h; cases h
      have hx := (l[k].kind).toNat_lt
      have hz := sizeN_lt k (ahead l k)
      have hq := kindN_lt k
      have hcz : k ≤ c := by omega
      generalize l[k].kind.toNat = x at *
      generalize sizeN k (ahead l k) = z at *
      generalize kindN k = q at *
      have hkc : (k : Int) ≤ c := by omega
      by_cases h1 : x = q
      · subst h1
        have t1 : ((x : Int) != (x : Int)) = false := by simp
        by_cases h2 : n3 = z
        · subst h2
          have HOk := HS.out (by rw [HO]; simp)
          clear HO HS HF hrk
          have t2 : ((n3 : Int) != (n3 : Int)) = false := by simp
          have hc0' : wr.cell? ⟨b, off + k * 2, none⟩ = some (.int .u8 (x : Int)) := hc0
          go_wp2_with (go_at_call 27; refine HN.mono ?_; rintro e w' ⟨rfl, q, rfl⟩; unfold ksV)
          go_roundw
          case rel => exact ⟨k + 1, by omega, by go_num, HOk, hbA.trans (Still.below ⟨q, rfl⟩ _)⟩
          case measure => simp [intOf]; omega
        · have HOk := HF.out (by rw [HO]; simp [h2])
          clear HO HS HF hrk
          have t2 : ((n3 : Int) != (z : Int)) = true := by rw [bne_iff_ne]; omega
          clear h2
          go_wp2_with (go_at_call 27; refine HN.mono ?_; rintro e w' ⟨rfl, q, rfl⟩; unfold ksV)
          go_ret
          rw [HOk]
          exact ⟨rfl, hbA.trans (Still.below ⟨q, rfl⟩ _)⟩
      · have HOk := HF.out (by rw [HO]; simp [h1])
        clear HO HS HF hrk
        have t1 : ((x : Int) != (q : Int)) = true := by rw [bne_iff_ne]; omega
        clear h1
        go_wp2_with (go_at_call 27; refine HN.mono ?_; rintro e w' ⟨rfl, q, rfl⟩; unfold ksV)
        go_ret
        rw [HOk]
        exact ⟨rfl, hbA.trans (Still.below ⟨q, rfl⟩ _)⟩
    · go_wp2
      go_ret
      have hkn : k = n := by omega
      subst hkn
      rw [hfit.out]
      exact ⟨rfl, hb⟩

/-- how many bytes they take on a side -/
def blkSz (l : List Bm) : Nat := (l.map fun x => 1 + x.data.length).sum
theorem blkSz_snoc (l : List Bm) (k : Nat) (h : k < l.length) : blkSz (l.take (k + 1)) = blkSz (l.take k) + (1 + l[k].data.length) := by
  unfold blkSz; rw [List.take_succ_eq_append_getElem h, List.map_append, List.sum_append]; simp only [List.map_cons, List.map_nil, List.sum_cons, List.sum_nil]; omega

set_option maxRecDepth 100000 in
set_option maxHeartbeats 1000000 in
theorem size_any (A : Option Addr) (n c : Nat) (S : Nat → Prop) (l : List Bm) (w : World) (hr : RdX shB w S A n c l) (hS : ∀ b, S b → b < w.heap.size) (hn : n ≤ 1000000) (hd : Hid (∀ x ∈ l, x.data.length ≤ 100000)) :
    Calls Try.prog 14 #[.slice A n c] w fun e w' => e = .returned (.int .i64 (blkSz l : Int)) ∧ Below w.heap.size w w' := by
  have HL := Lib.hid hr.len
  go_enter Try.func14, Try.ntmps14
  go_wp2
  go_loopw [3, 8] (fun s i wr => ∃ (k z : Nat), k ≤ n ∧ z ≤ k * 100001 ∧ s = .int .i64 z ∧ i = .int .i64 k ∧ Hid (z = blkSz (l.take k)) ∧ Below w.heap.size w wr) (fun _ i _ => n - (intOf i).toNat)
  case atStart => exact ⟨0, 0, Nat.zero_le _, by omega, rfl, rfl, rfl, Below.refl _ _⟩
  case round =>
    obtain ⟨k, z, hk, hz, rfl, rfl, HZ, hb⟩ := hrel
    have hsz := hb.size
    by_cases hlt : k < n
    · have hkx : k < l.length := by rw [HL.out]; exact hlt
      obtain ⟨b, off, A3, n3, c3, rfl, hSb, hc0, hc1, hrd⟩ := rdB_at (hr.keep (Kp.below hb hS) (fun _ h => h)) k hkx
      have hd3 := hd.out _ (List.getElem_mem hkx)
      have HT : Hid (z + (1 + n3) = blkSz (l.take (k + 1))) := by rw [blkSz_snoc l k hkx, ← HZ.out, hrd.len]; exact rfl
      rw [hrd.len] at hd3
      generalize l[k].kind.toNat = x at *
      clear hrd
      go_wp2
      go_roundw
      case rel => exact ⟨k + 1, z + (1 + n3), by omega, by omega, by go_num, by go_num, HT, hb.alloc hsz _⟩
      case measure => simp [intOf]; omega
    · have hkn : l.take k = l := List.take_of_length_le (by rw [HL.out]; omega)
      rw [hkn] at HZ
      go_wp2
      go_ret
      rw [HZ.out]
      exact ⟨rfl, hb⟩

/-- what Want answers -/
def wantN (l : List Bm) : Nat × Nat := if l.length < 512 ∧ rgtB l = true then (kindN l.length, sizeN l.length (ahead l l.length)) else (0, 0)

set_option maxRecDepth 100000 in
set_option maxHeartbeats 1000000 in
theorem want_any (A : Option Addr) (n c : Nat) (S : Nat → Prop) (l : List Bm) (w : World) (hr : RdX shB w S A n c l) (hS : ∀ b, S b → b < w.heap.size) (hn : n ≤ 1000000) (hd : Hid (∀ x ∈ l, x.data.length ≤ 9223372036854775807)) :
    Calls Try.prog 23 #[.slice A n c] w fun e w' => e = .returned (ksV (wantN l).1 (wantN l).2) ∧ Below w.heap.size w w' := by
  have HL := Lib.hid hr.len
  by_cases h1 : n < 512
  · cases h2 : rgtB l with
    | true =>
      have HW : Hid (wantN l = (kindN n, sizeN n (ahead l n))) := by unfold wantN; rw [if_pos ⟨by rw [HL.out]; exact h1, h2⟩, HL.out]; exact rfl
      have ht : Hid (Told l) := by unfold rgtB at h2; simp only [Bool.and_eq_true] at h2; exact told_of_fits h2.2
      have h1' : ¬ ((n : Int) ≥ 512) := by omega
      go_enter Try.func23, Try.ntmps23
      go_wp2_with fail
      refine (right_any A n c S l _ hr hS hn hd).mono ?_
      rintro e w1 ⟨rfl, hb1⟩
      rw [h2]
      go_wp2_with fail
      refine (next_any A n c S l _ (hr.keep (Kp.below hb1 hS) (fun _ h => h)) hn ht.out hd).mono ?_
      rintro e w2 ⟨rfl, q, rfl⟩
      unfold ksV
      go_wp2
      go_ret2
      rw [HW.out]
      exact ⟨rfl, hb1.trans (Still.below ⟨q, rfl⟩ _)⟩
    | false =>
      have HW : Hid (wantN l = (0, 0)) := by unfold wantN; rw [if_neg (by rw [h2]; simp)]; exact rfl
      have h1' : ¬ ((n : Int) ≥ 512) := by omega
      go_enter Try.func23, Try.ntmps23
      go_wp2_with fail
      refine (right_any A n c S l _ hr hS hn hd).mono ?_
      rintro e w1 ⟨rfl, hb1⟩
      rw [h2]
      go_wp2
      go_ret2
      rw [HW.out]
      exact ⟨rfl, hb1⟩
  · have HW : Hid (wantN l = (0, 0)) := by unfold wantN; rw [if_neg (by rw [HL.out]; omega)]; exact rfl
    have h1' : ((n : Int) ≥ 512) := by omega
    go_enter Try.func23, Try.ntmps23
    go_wp2
    go_ret2
    rw [HW.out]
    exact ⟨rfl, Below.refl _ _⟩

end Go.Proofs.Ytdefkajjpilicaa
