/- The walks of the laws SealFrames, SealCuts. -/
import Derived.Test.YtodpafiecmipkaaNextM
import Derived.Test.YtodpafiecmipkaaSealL2
namespace Go.Proofs.Ytodpafiecmipkaa
open Go.RowKit

set_option maxHeartbeats 1000000 in
theorem sealFrames_walk (A : Option Addr) (n c : Nat) (xs : List UInt8) (A' : Option Addr) (n' c' : Nat) (xs' : List UInt8) (w : World) (hr : Rd bv w w.heap.size A n c xs) (hc : c ≤ maxLen) (hr' : Rd bv w w.heap.size A' n' c' xs') (hc' : c' ≤ maxLen) :
    Calls Try.prog 4 #[.slice A n c, .slice A' n' c'] w fun e w' => e = .returned (.bool true) ∧ Below w.heap.size w w' := by
  have hn : n ≤ 9223372036854775807 := by have := hr.cap; unfold maxLen at hc; omega
  have hn' : n' ≤ 9223372036854775807 := by have := hr'.cap; unfold maxLen at hc'; omega
  go_enter Try.func4, Try.ntmps4
  go_wp2_with fail
  refine (awake2_any w).mono ?_
  rintro e w1 ⟨rfl, hb1⟩
  have hs1 := hb1.size
  go_wp2_with fail
  refine (cut_any A n c w.heap.size xs 100 w1 (hr.below hb1) hs1 hn (by omega) (by omega)).mono ?_
  rintro e w2 ⟨A2, n2, c2, rfl, ho2, hb2⟩
  have hs2 := hb2.size
  have hn2 : n2 ≤ 100 := by have := ho2.len; simp at this; omega
  generalize List.take (Int.toNat 100) xs = ys at *
  go_wp2_with fail
  refine (cut_any A' n' c' w.heap.size xs' 20 w2 ((hr'.below hb1).belowLe hb2 hs1) (by omega) hn' (by omega) (by omega)).mono ?_
  rintro e w3 ⟨A3, n3, c3, rfl, ho3, hb3⟩
  have hs3 := hb3.size
  have hn3 : n3 ≤ 20 := by have := ho3.len; simp at this; omega
  generalize List.take (Int.toNat 20) xs' = zs at *
  have r2 : Rd bv w3 w2.heap.size A2 n2 c2 ys := ho2.rd.below hb3
  go_wp2_with fail
  refine (sframe_any A2 n2 c2 w2.heap.size ys w3 r2 hs3 (by omega)).mono ?_
  rintro e w4 ⟨A4, n4, c4, rfl, ho4, hb4⟩
  have hs4 := hb4.size
  have hn4 : n4 ≤ 108 := by have := ho4.len; rw [frameN_len, r2.len] at this; omega
  go_wp2_with fail
  refine (join2_any w4 _ A4 A3 n4 c4 n3 c3 w4.heap.size _ _ rfl ho4.rd ((ho3.rd.below hb4).more (by omega)) (Nat.le_refl _) (by omega)).mono ?_
  rintro e w5 ⟨A5, n5, c5, rfl, ho5, hb5⟩
  have hs5 := hb5.size
  obtain ⟨hE, hC⟩ := next_frame ys zs (by have := r2.len; omega)
  have hn5 : n5 ≤ 128 := by have := ho5.len; rw [List.length_append, ho4.len, ho3.len] at this; omega
  go_wp2_with fail
  refine (snext_good A5 n5 c5 w5.heap.size _ w5 ho5.rd (Nat.le_refl _) (by omega) hE).mono ?_
  rintro e w6 ⟨A6, n6, c6, rfl, ho6, hb6⟩
  rw [hC] at ho6
  have hs6 := hb6.size
  have HN : Hid ((8 : Int) + (n6 : Int) = n4) := by have h1 := ho6.len; have h2 := ho4.len; rw [frameN_len] at h2; show _ = _; omega
  clear hE hC
  rw [HN.out]
  go_wp2_with fail
  have q2 : Rd bv w6 w2.heap.size A2 n2 c2 ys := ((r2.belowLe hb4 hs3).belowLe hb5 (by omega)).belowLe hb6 (by omega)
  refine (rframe_any A2 n2 c2 w2.heap.size ys w6 q2 (by omega) (by omega)).mono ?_
  rintro e w7 ⟨A7, n7, c7, rfl, ho7, hb7⟩
  have hs7 := hb7.size
  go_wp2_with fail
  refine (same_yes A4 A7 n4 c4 n7 c7 w4.heap.size w7.heap.size _ w7 (((ho4.rd.below hb5).belowLe hb6 (by omega)).belowLe hb7 (by omega)) ho7.rd (by omega)).mono ?_
  rintro e w8 ⟨rfl, hst8⟩
  go_wp2_with fail
  refine (same_yes A2 A6 n2 c2 n6 c6 w2.heap.size w6.heap.size _ w8 ((q2.belowLe hb7 (by omega)).still hst8) ((ho6.rd.below hb7).still hst8) (by omega)).mono ?_
  rintro e w9 ⟨rfl, hst9⟩
  go_wp2
  go_ret
  refine ⟨rfl, ?_⟩
  exact ((((((hb1.trans (hb2.mono hs1)).trans (hb3.mono (by omega))).trans (hb4.mono (by omega))).trans (hb5.mono (by omega))).trans (hb6.mono (by omega))).trans (hb7.mono (by omega))).trans ((hst8.below _).trans (hst9.below _))

set_option maxHeartbeats 1000000 in
theorem sealCuts_walk (A : Option Addr) (n c : Nat) (xs : List UInt8) (k : Int) (w : World) (hr : Rd bv w w.heap.size A n c xs) (hc : c ≤ maxLen) (wk : (Lit.int .u8 k).wf = true) :
    Calls Try.prog 6 #[.slice A n c, .int .u8 k] w fun e w' => e = .returned (.bool true) ∧ Below w.heap.size w w' := by
  have hn : n ≤ 9223372036854775807 := by have := hr.cap; unfold maxLen at hc; omega
  obtain ⟨hk0, hk1⟩ := wf_u8' wk
  clear wk
  go_enter Try.func6, Try.ntmps6
  go_wp2_with fail
  refine (awake2_any w).mono ?_
  rintro e w1 ⟨rfl, hb1⟩
  have hs1 := hb1.size
  go_wp2_with fail
  refine (cut_any A n c w.heap.size xs 100 w1 (hr.below hb1) hs1 hn (by omega) (by omega)).mono ?_
  rintro e w2 ⟨A2, n2, c2, rfl, ho2, hb2⟩
  have hs2 := hb2.size
  have hn2 : n2 ≤ 100 := by have := ho2.len; simp at this; omega
  generalize List.take (Int.toNat 100) xs = ys at *
  go_wp2_with fail
  refine (sframe_any A2 n2 c2 w2.heap.size ys w2 ho2.rd (Nat.le_refl _) (by omega)).mono ?_
  rintro e w3 ⟨A3, n3, c3, rfl, ho3, hb3⟩
  have hs3 := hb3.size
  have hl2 := ho2.len
  have hl3 := ho3.len
  rw [frameN_len] at hl3
  have hcap := ho3.rd.cap
  obtain ⟨m, rfl⟩ : ∃ m, n3 = m + 8 := ⟨n2, by omega⟩
  have hkm : k % ((m : Int) + 8) < (m : Int) + 8 := Int.emod_lt_of_pos _ (by omega)
  have hkm0 : 0 ≤ k % ((m : Int) + 8) := Int.emod_nonneg _ (by omega)
  obtain ⟨j, hJ, hj⟩ : ∃ j : Nat, k % ((m : Int) + 8) = (j : Int) ∧ j < m + 8 := ⟨(k % ((m : Int) + 8)).toNat, by omega, by omega⟩
  have hcut := frame_cut ys j (by omega) (by omega)
  have r3 := ho3.rd.take j (by omega)
  have hne : nextE ((frameN ys).take j) ≠ 0 := by rw [hcut]; split <;> omega
  have hb : Below w.heap.size w w3 := (hb1.trans (hb2.mono hs1)).trans (hb3.mono (by omega))
  have hm100 : m ≤ 100 := by omega
  have HC := Lib.hid hcut
  have HN := Lib.hid hne
  clear hcut hne hkm hkm0 hl2 hl3
  have hjc : (j : Int) ≤ c3 := by omega
  go_wp2_with fail
  refine (snext_err A3 j c3 w3.heap.size _ w3 r3 (by omega) HN.out).mono ?_
  rintro e w4 ⟨rfl, hst⟩
  have HB := Lib.hid (hb.trans (hst.below _))
  rw [HC.out]
  by_cases hj0 : j = 0
  · subst hj0
    have hj1 : (((0 : Nat) : Int) == 0) = true := rfl
    rw [if_pos rfl]
    go_wp2
    go_ret
    exact ⟨rfl, HB.out⟩
  · have hj1 : ((j : Int) == 0) = false := by simp; omega
    rw [if_neg hj0]
    clear hj0
    go_wp2
    go_ret
    exact ⟨rfl, HB.out⟩

end Go.Proofs.Ytodpafiecmipkaa
