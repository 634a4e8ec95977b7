/- The walks of the laws of layer 2. -/
import Derived.Test.YtodpafiecmipkaaSealA
namespace Go.Proofs.Ytodpafiecmipkaa
open Go.RowKit

set_option maxHeartbeats 400000 in
theorem sealShorts_walk (A : Option Addr) (n c : Nat) (xs : List UInt8) (w : World) (hr : Rd bv w w.heap.size A n c xs) (hc : c ≤ maxLen) :
    Calls Try.prog 8 #[.slice A n c] w fun e w' => e = .returned (.bool true) ∧ Below w.heap.size w w' := by
  have hn : n ≤ 9223372036854775807 := by have := hr.cap; unfold maxLen at hc; omega
  go_enter Try.func8, Try.ntmps8
  go_wp2_with fail
  refine (awake2_any w).mono ?_
  rintro e w1 ⟨rfl, hb1⟩
  go_wp2_with fail
  refine (cut_any A n c w.heap.size xs 100 w1 (hr.below hb1) hb1.size hn (by omega) (by omega)).mono ?_
  rintro e w2 ⟨A2, n2, c2, rfl, ho2, hb2⟩
  have hn2 : n2 ≤ 100 := by have := ho2.len; simp at this; omega
  generalize List.take (Int.toNat 100) xs = ys at *
  go_wp2_with fail
  refine (sshort_any A2 n2 c2 w2.heap.size ys w2 ho2.rd (by omega)).mono ?_
  rintro e w3 ⟨rfl, rfl⟩
  have hsl := shortN_lt ys
  obtain ⟨t, HT, ht0, ht1⟩ : ∃ t : Int, Hid ((shortN ys : Int) = t) ∧ 0 ≤ t ∧ t < 65536 := ⟨_, rfl, by omega, by omega⟩
  rw [HT.out]
  clear hsl
  go_wp2_with fail
  have hsz2 : w2.heap.size ≤ w2.heap.size := Nat.le_refl _
  have hrt : Rd bv (w2.alloc (.cells #[.int .u8 (t % 256), .int .u8 (t / 256)] 5)) (w2.heap.size + 1) (some ⟨w2.heap.size, 0, none⟩) 2 2 [UInt8.ofNat (t % 256).toNat, UInt8.ofNat (t / 256).toNat] :=
    Rd.made (f := bv) w2 5 (0, 0) _ _ _ 2 (by simp [bv]; omega) rfl rfl
  refine (join2_any (w2.alloc (.cells #[.int .u8 (t % 256), .int .u8 (t / 256)] 5)) _ A2 _ n2 c2 2 2 (w2.heap.size + 1) ys _ (by simp) ((ho2.rd.alloc (Nat.le_refl _) _).more (by omega)) hrt (by simp) (by omega)).mono ?_
  rintro e w4 ⟨A4, n4, c4, rfl, ho4, hb4⟩
  have HL4 := Lib.hid ho4.len
  have hn4 : n4 ≤ 102 := by have := HL4.out; have := ho2.len; simp at *; omega
  have hr4 := ho4.rd
  have HF : Hid (shortF 32768 (ys ++ [UInt8.ofNat (t % 256).toNat, UInt8.ofNat (t / 256).toNat]) = 0) := by
    have := short_zero (shortF 32768 ys) (shortN ys) (shortF_lt _ _ (by decide)) rfl
    have hT := HT.out
    have e1 : (UInt8.ofNat (t % 256).toNat).toNat = shortN ys % 256 := by rw [UInt8.toNat_ofNat']; omega
    have e2 : (UInt8.ofNat (t / 256).toNat).toNat = shortN ys / 256 := by rw [UInt8.toNat_ofNat']; omega
    simp only [shortF, List.foldl_append, List.foldl_cons, List.foldl_nil, e1, e2] at this ⊢
    exact this
  generalize ys ++ [UInt8.ofNat (t % 256).toNat, UInt8.ofNat (t / 256).toNat] = zs at *
  have hsz : w.heap.size ≤ w2.heap.size := Nat.le_trans hb1.size hb2.size
  have hbel : Below w.heap.size w w4 := (hb1.trans (hb2.mono hb1.size)).trans (((Below.refl _ _).alloc hsz _).trans (hb4.mono (by simp; omega)))
  clear ho4 hb4 hrt ho2 hb1 hb2 hr HT
  go_wp2_with fail
  go_loop [4, 23] (fun s i => ∃ (k : Nat) (r : Int), k ≤ n4 ∧ i = .int .i64 k ∧ s = .int .u16 r ∧ 0 ≤ r ∧ r < 65536 ∧ Hid (r.toNat = shortF 32768 (zs.take k))) (fun _ i => n4 - (intOf i).toNat)
  case atStart => exact ⟨0, 32768, by omega, rfl, rfl, by omega, by omega, rfl⟩
  case round =>
    obtain ⟨k, r, hk, rfl, rfl, hr0, hr1, hR⟩ := hrel
    by_cases hlt : k < n4
    · obtain ⟨b, off, rfl, _, hc⟩ := hr4.at_ k (by rw [HL4.out]; exact hlt)
      have HS : Hid (shortF 32768 (zs.take (k + 1)) = stepN r.toNat (zs[k]'(by rw [HL4.out]; exact hlt)).toNat) := by
        rw [List.take_succ_eq_append_getElem (by rw [HL4.out]; exact hlt), shortF_snoc, ← hR.out]; rfl
      generalize zs[k]'(by rw [HL4.out]; exact hlt) = x at *
      unfold bv at hc
      have hx := x.toNat_lt
      go_wp2_with (go_at_call 15; refine (sstep_any _ _ _ (by omega) (by omega) (by omega) (by omega)).mono ?_; rintro e w' ⟨rfl, rfl⟩)
      have hlt2 := stepN_lt r.toNat x.toNat (by omega)
      go_round
      case rel => exact ⟨k + 1, (stepN r.toNat x.toNat : Nat), by omega, by go_num, rfl, by omega, by omega, HS.out.symm⟩
      case measure => simp [intOf]; omega
    · have e := hR.out
      rw [List.take_of_length_le (by rw [HL4.out]; omega), HF.out] at e
      have h0 : r = 0 := by omega
      subst h0
      go_wp2
      go_ret
      exact ⟨rfl, hbel⟩

end Go.Proofs.Ytodpafiecmipkaa
