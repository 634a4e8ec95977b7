/- The walk of the law SealShows. -/
import Derived.Test.YtodpafiecmipkaaBurst
import Derived.Test.YtodpafiecmipkaaSealL3
namespace Go.Proofs.Ytodpafiecmipkaa
open Go.RowKit

theorem wf_u32' {z : Int} (h : (Lit.int .u32 z).wf = true) : 0 ≤ z ∧ z < 4294967296 := by
  simp [Lit.wf, IntKind.min, IntKind.max, IntKind.signed, IntKind.bits] at h; omega

theorem turn_val (x : UInt8) (r : Nat) (hr : r < 8) : bits .xor .u8 (x.toNat : Int) (2 ^ r % 256) = ((UInt8.ofNat (x.toNat ^^^ 2 ^ r)).toNat : Int) := by
  have h2 : 2 ^ r < 256 := by
    have : 2 ^ r < 2 ^ 8 := Nat.pow_lt_pow_right (by decide) hr
    simpa using this
  have hx := x.toNat_lt
  have hy : x.toNat ^^^ 2 ^ r < 256 := Nat.xor_lt_two_pow (n := 8) hx h2
  have e : ((2 : Int) ^ r % 256) = ((2 ^ r : Nat) : Int) := by
    have : ((2 : Int) ^ r) = ((2 ^ r : Nat) : Int) := by simp
    rw [this]
    show (((2 ^ r : Nat) : Int) % ((256 : Nat) : Int)) = _
    rw [← Int.natCast_emod, Nat.mod_eq_of_lt h2]
  rw [e, xor_u8 _ _ hx h2, UInt8.toNat_ofNat', Nat.mod_eq_of_lt hy]
theorem turn_bit (x : UInt8) (r b : Nat) (hr : r < 8) (hb : b ≠ r) : (UInt8.ofNat (x.toNat ^^^ 2 ^ r)).toNat / 2 ^ b % 2 = x.toNat / 2 ^ b % 2 := by
  have h2 : 2 ^ r < 256 := by
    have : 2 ^ r < 2 ^ 8 := Nat.pow_lt_pow_right (by decide) hr
    simpa using this
  have hy : x.toNat ^^^ 2 ^ r < 256 := Nat.xor_lt_two_pow (n := 8) x.toNat_lt h2
  rw [UInt8.toNat_ofNat', Nat.mod_eq_of_lt hy]
  have h := Nat.testBit_xor x.toNat (2 ^ r) b
  rw [Nat.testBit_two_pow_of_ne (Ne.symm hb), Bool.xor_false, Nat.testBit_eq_decide_div_mod_eq, Nat.testBit_eq_decide_div_mod_eq] at h
  have := decide_eq_decide.1 h
  omega

set_option maxHeartbeats 1000000 in
theorem sealShows_walk (A : Option Addr) (n c : Nat) (xs : List UInt8) (s t : Int) (w : World) (hr : Rd bv w w.heap.size A n c xs) (hc : c ≤ maxLen) (ws : (Lit.int .u16 s).wf = true) (wt : (Lit.int .u32 t).wf = true) :
    Calls Try.prog 7 #[.slice A n c, .int .u16 s, .int .u32 t] w fun e w' => e = .returned (.bool true) ∧ Below w.heap.size w w' := by
  have hn : n ≤ 9223372036854775807 := by have := hr.cap; unfold maxLen at hc; omega
  obtain ⟨hs0, hs1⟩ := wf_u16' ws
  obtain ⟨ht0, ht1⟩ := wf_u32' wt
  clear ws wt
  go_enter Try.func7, Try.ntmps7
  go_wp2_with fail
  refine (awake2_any w).mono ?_
  rintro e w1 ⟨rfl, hb1⟩
  have hz1 := hb1.size
  go_wp2_with fail
  refine (cut_any A n c w.heap.size xs 100 w1 (hr.below hb1) hz1 hn (by omega) (by omega)).mono ?_
  rintro e w2 ⟨A2, n2, c2, rfl, ho2, hb2⟩
  have hz2 := hb2.size
  have hn2 : n2 ≤ 100 := by have := ho2.len; simp at this; omega
  generalize List.take (Int.toNat 100) xs = ys at *
  go_wp2_with fail
  refine (sframe_any A2 n2 c2 w2.heap.size ys w2 ho2.rd (Nat.le_refl _) (by omega)).mono ?_
  rintro e w3 ⟨A3, n3, c3, rfl, ho3, hb3⟩
  have hz3 := hb3.size
  have hl2 := ho2.len
  have hl3 := ho3.len
  rw [frameN_len] at hl3
  obtain ⟨m, rfl⟩ : ∃ m, n3 = m + 8 := ⟨n2, by omega⟩
  have hm : m ≤ 100 := by omega
  have hyl : ys.length ≤ 16777216 := by omega
  have hb : Below w.heap.size w w3 := (hb1.trans (hb2.mono hz1)).trans (hb3.mono (by omega))
  have HB := Lib.hid hb
  clear hl2 hl3 hb hb1 hb2 hb3 ho2 hr
  by_cases hm0 : m = 0
  · subst hm0
    go_wp2
    go_ret
    exact ⟨rfl, HB.out⟩
  · have hm1 : ((8 * (m : Int)) == 0) = false := by simp; omega
    have hmp : 0 < m := by omega
    clear hm0
    have hkm : s % (8 * (m : Int)) < 8 * (m : Int) := Int.emod_lt_of_pos _ (by omega)
    have hkm0 : 0 ≤ s % (8 * (m : Int)) := Int.emod_nonneg _ (by omega)
    obtain ⟨a, ha, ham⟩ : ∃ a : Nat, s % (8 * (m : Int)) = (a : Int) ∧ a < 8 * m := ⟨(s % (8 * (m : Int))).toNat, by omega, by omega⟩
    clear hkm hkm0
    go_wp2_with fail
    refine (join1_any w3 _ A3 (m + 8) c3 w3.heap.size _ rfl ho3.rd (Nat.le_refl _) (by omega)).mono ?_
    rintro e w4 ⟨A4, n4, c4, rfl, ho4, hb4⟩
    obtain rfl : m + 8 = n4 := by rw [← ho4.len, ho3.len]
    obtain ⟨g, rfl⟩ := ho4.zero (by omega)
    have hz4 := hb4.size
    have hcap4 := ho4.rd.cap
    go_wp2_with fail
    go_loopw [29] (fun i wr => ∃ (k : Nat) (G : List UInt8), k ≤ 32 ∧ i = .int .i64 k ∧ Own bv wr w3.heap.size 5 (some ⟨g, 0, none⟩) (m + 8) c4 G ∧ Near (frameN ys) G a k ∧ Below w3.heap.size w4 wr)
      (fun i _ => 32 - (intOf i).toNat)
    case atStart => exact ⟨0, frameN ys, by omega, rfl, ho4, near_refl _ _, Below.refl _ _⟩
    case round =>
      obtain ⟨k, G, hk, rfl, hoG, hN, hbG⟩ := hrel
      by_cases hlt : k < 32
      · have hsz := hbG.size
        by_cases hin : a + k < 8 * m
        · have hin' : (a : Int) + (k : Int) < 8 * (m : Int) := by omega
          have hk32 : (k : Int) ≤ 32 := by omega
          have hGl : G.length = m + 8 := hoG.len
          have hq : 8 + (a + k) / 8 < G.length := by omega
          obtain ⟨b, off, e1, _, hcell⟩ := hoG.rd.at_ _ hq
          injection e1 with e1; injection e1 with e1 e2; subst e1; subst e2
          have hfr := hoG.frozen (8 + (a + k) / 8)
          rw [Nat.zero_add] at hcell
          generalize hx : G[8 + (a + k) / 8] = x at *
          have HX := Lib.hid hx
          clear hx
          unfold bv at hcell
          go_wp2_with fail
          · rw [show (a : Int) + (k : Int) = ((a + k : Nat) : Int) from by omega]
            have HK := Lib.hid (rfl : a + k = a + k)
            generalize hik : a + k = i at *
            have HIK := Lib.hid hik
            clear hik hin' ha hin
            obtain ⟨q, HQ⟩ : ∃ q : Nat, Hid (i / 8 = q) := ⟨_, rfl⟩
            obtain ⟨r, HR⟩ : ∃ r : Nat, Hid (i % 8 = r) := ⟨_, rfl⟩
            have eq1 : (i : Int) / 8 = (q : Int) := by have := HQ.out; omega
            have er1 : (i : Int) % 8 = (r : Int) := by have := HR.out; omega
            have hr8 : (r : Int) ≤ 8 := by omega
            have h3 : (8 : Int) + (q : Int) < (m : Int) + 8 := by omega
            have h5 : (8 + (q : Int)).toNat = 8 + q := by omega
            rw [HQ.out] at hcell hfr
            go_region
            have hr8' : r < 8 := by have := HR.out; omega
            rw [turn_val x r hr8']
            have e8 := HIK.out
            have eq8 := HQ.out
            have er8 := HR.out
            have hNT := hN.turn (by rw [e8]; omega) (UInt8.ofNat (x.toNat ^^^ 2 ^ r)) (fun b hb => by
              rw [turn_bit x r b hr8' (by rw [e8, er8] at hb; exact hb)]
              have h9 : G[8 + (a + k) / 8]'(by rw [e8]; omega) = x := by
                have := HX.out
                simp only [e8]
                exact this
              rw [h9])
            rw [e8, eq8] at hNT
            have HNT := Lib.hid hNT
            have hoT := hoG.stored (8 + q) (UInt8.ofNat (x.toNat ^^^ 2 ^ r))
            unfold bv at hoT
            have HoT := Lib.hid hoT
            have hbase := hoG.base_le
            generalize UInt8.ofNat (x.toNat ^^^ 2 ^ r) = y at *
            clear hNT hoT e8 eq8 er8 hcell hfr eq1 er1 hr8 h3 h5 hN hoG HX HIK HQ HR
            go_wp2
            go_roundw
            case rel => exact ⟨k + 1, G.set (8 + q) y, by omega, by go_num, HoT.out.drew, HNT.out, (hbG.setCell (p := ⟨g, 8 + q, none⟩) hbase _).drew⟩
            case measure => simp [intOf]; omega
          · go_roundw
            case rel => exact ⟨k + 1, G, by omega, by go_num, hoG, hN.more, hbG⟩
            case measure => simp [intOf]; omega
        · have hin' : ¬ (a : Int) + (k : Int) < 8 * (m : Int) := by omega
          go_wp2
          go_roundw
          case rel => exact ⟨k + 1, G, by omega, by go_num, hoG, hN.more, hbG⟩
          case measure => simp [intOf]; omega
      · obtain rfl : k = 32 := by omega
        have hsz := hbG.size
        have hcases := near_sum ys G a hN hyl
        have rf : Rd bv wr w3.heap.size A3 (m + 8) c3 (frameN ys) := (ho3.rd.below hb4).below hbG
        clear hN
        rcases hcases with ⟨hG, hE⟩ | ⟨hG, hE⟩
        · subst hG
          have HE := Lib.hid hE
          clear hE
          go_wp2_with fail
          refine (snext_good _ (m + 8) c4 wr.heap.size _ wr hoG.rd (Nat.le_refl _) (by omega) HE.out).mono ?_
          rintro e w6 ⟨A6, n6, c6, rfl, ho6, hb6⟩
          go_wp2_with fail
          refine (same_yes A3 _ (m + 8) c3 (m + 8) c4 w3.heap.size wr.heap.size _ w6 (rf.belowLe hb6 (by omega)) (hoG.rd.below hb6) (by omega)).mono ?_
          rintro e w7 ⟨rfl, hst⟩
          go_wp2
          go_ret
          refine ⟨rfl, HB.out.trans ?_⟩
          have h3w : w.heap.size ≤ w3.heap.size := HB.out.size
          exact ((((hb4.mono h3w).trans (hbG.mono h3w)).trans (hb6.mono (by omega))).trans (hst.below _))
        · have HE := Lib.hid hE
          clear hE
          go_wp2_with fail
          refine (snext_err _ (m + 8) c4 wr.heap.size _ wr hoG.rd (by omega) (by rw [HE.out]; omega)).mono ?_
          rintro e w6 ⟨rfl, hst6⟩
          rw [HE.out]
          go_wp2_with fail
          refine (same_no A3 _ (m + 8) c3 (m + 8) c4 w3.heap.size wr.heap.size _ _ w6 (rf.still hst6) (hoG.rd.still hst6) (Ne.symm hG) (by omega)).mono ?_
          rintro e w7 ⟨rfl, hst⟩
          go_wp2
          go_ret
          refine ⟨rfl, HB.out.trans ?_⟩
          have h3w : w.heap.size ≤ w3.heap.size := HB.out.size
          exact ((((hb4.mono h3w).trans (hbG.mono h3w)).trans (hst6.below _)).trans (hst.below _))

end Go.Proofs.Ytodpafiecmipkaa
