/- The walk of the law SealNexts. -/
import Derived.Test.YtodpafiecmipkaaRNextW
import Derived.Test.YtodpafiecmipkaaSealL3
namespace Go.Proofs.Ytodpafiecmipkaa
open Go.RowKit

theorem rnext_err (A : Option Addr) (n c B : Nat) (xs : List UInt8) (w : World) (hr : Rd bv w B A n c xs) (hB : B ≤ w.heap.size) (hn : n ≤ 65000) (h : nextE xs ≠ 0) :
    Calls Try.prog 22 #[.slice A n c] w fun e w' => e = .returned (.tuple #[.int .i64 0, .int .i64 (nextE xs : Int)]) ∧ Below w.heap.size w w' := by
  have hl := hr.len
  rcases nextE_cases xs with ⟨h1, e⟩ | ⟨h1, h2, e⟩ | ⟨h1, h2, e⟩ | ⟨h1, h2, h3, h4, e⟩ | ⟨h1, h2, h3, h4, e⟩
  · rw [e]
    obtain rfl : n = 0 := by omega
    exact (rnext_none A c w).mono fun _ _ ⟨a, b⟩ => ⟨a, by rw [← b]; exact Below.refl _ _⟩
  · rw [e]
    exact (rnext_short A n c w (by omega) (by omega)).mono fun _ _ ⟨a, b⟩ => ⟨a, by rw [← b]; exact Below.refl _ _⟩
  · rw [e]
    obtain ⟨b, off, rfl⟩ := hr.some_of (by omega)
    exact (rnext_long b off n c B xs w hr (by omega) (by omega) (by rw [← hl]; exact h2)).mono fun _ _ ⟨a, b⟩ => ⟨a, by rw [← b]; exact Below.refl _ _⟩
  · rw [e]
    obtain ⟨b, off, rfl⟩ := hr.some_of (by omega)
    rcases Nat.lt_or_ge 8 c with h8 | h8
    · exact rnext_sum b off n c B xs w hr hB (by omega) hn h2 (by rw [← hl]; exact h3) h8 h4
    · have hc := hr.cap
      obtain rfl : c = 8 := by omega
      obtain rfl : n = 8 := by omega
      exact rnext_sum8 b off B xs w hr hB h2 (by rw [hl] at h3; exact h3) h4
  · exact absurd e h

theorem rnext_good (A : Option Addr) (n c B : Nat) (xs : List UInt8) (w : World) (hr : Rd bv w B A n c xs) (hB : B ≤ w.heap.size) (hn : n ≤ 65000) (h : nextE xs = 0) :
    Calls Try.prog 22 #[.slice A n c] w fun e w' => e = .returned (.tuple #[.int .i64 (nextS xs : Int), .int .i64 0]) ∧ Below w.heap.size w w' := by
  have hl := hr.len
  rcases nextE_cases xs with ⟨h1, e⟩ | ⟨h1, h2, e⟩ | ⟨h1, h2, e⟩ | ⟨h1, h2, h3, h4, e⟩ | ⟨h1, h2, h3, h4, e⟩
  · omega
  · omega
  · omega
  · omega
  · obtain ⟨b, off, rfl⟩ := hr.some_of (by omega)
    rcases Nat.lt_or_ge 8 c with h8 | h8
    · exact rnext_ok b off n c B xs w hr hB (by omega) hn h2 (by rw [← hl]; exact h3) h8 h4
    · have hc := hr.cap
      obtain rfl : c = 8 := by omega
      obtain rfl : n = 8 := by omega
      exact rnext_ok8 b off B xs w hr hB h2 (by rw [hl] at h3; exact h3) h4

/-- a frame that was read, framed again, is the bytes that it was read of -/
theorem next_again (xs : List UInt8) (h : nextE xs = 0) : frameN (nextC xs) = xs.take (8 + nextS xs) ∧ (nextC xs).length = nextS xs ∧ 8 + nextS xs ≤ xs.length := by
  rcases nextE_cases xs with ⟨h1, e⟩ | ⟨h1, h2, e⟩ | ⟨h1, h2, e⟩ | ⟨h1, h2, h3, h4, e⟩ | ⟨h1, h2, h3, h4, e⟩
  · omega
  · omega
  · omega
  · omega
  · have hl : (nextC xs).length = nextS xs := by unfold nextC; simp; omega
    refine ⟨?_, hl, by omega⟩
    have e4 : layN (nextS xs) 4 = xs.take 4 := by
      have := lay_take (xs.take 4)
      rw [show (xs.take 4).length = 4 from by simp; omega] at this
      exact this
    have e8 : layN (longN (xs.take 4 ++ nextC xs)) 4 = (xs.drop 4).take 4 := by
      rw [h4]
      have := lay_take ((xs.drop 4).take 4)
      rw [show ((xs.drop 4).take 4).length = 4 from by simp; omega] at this
      exact this
    unfold frameN
    rw [hl, e4, e8]
    unfold nextC
    rw [List.take_add, show (8 : Nat) = 4 + 4 from rfl, List.take_add, List.append_assoc]

set_option maxHeartbeats 2000000 in
theorem sealNexts_walk (A : Option Addr) (n c : Nat) (xs : List UInt8) (w : World) (hr : Rd bv w w.heap.size A n c xs) (hc : c ≤ maxLen) :
    Calls Try.prog 5 #[.slice A n c] w fun e w' => e = .returned (.bool true) ∧ Below w.heap.size w w' := by
  have hn : n ≤ 9223372036854775807 := by have := hr.cap; unfold maxLen at hc; omega
  go_enter Try.func5, Try.ntmps5
  go_wp2_with fail
  refine (awake2_any w).mono ?_
  rintro e w1 ⟨rfl, hb1⟩
  have hz1 := hb1.size
  go_wp2_with fail
  refine (cut_any A n c w.heap.size xs 100 w1 (hr.below hb1) hz1 hn (by omega) (by omega)).mono ?_
  rintro e w2 ⟨A2, n2, c2, rfl, ho2, hb2⟩
  have hz2 := hb2.size
  have hn2 : n2 ≤ 100 := by have := ho2.len; simp at this; omega
  generalize List.take (Int.toNat 100) xs = ys at *
  have hcap := ho2.rd.cap
  have HB := Lib.hid (hb1.trans (hb2.mono hz1))
  have hw2 : w.heap.size ≤ w2.heap.size := by omega
  clear hb1 hb2 hr
  by_cases hE : nextE ys = 0
  · obtain ⟨hF, hCl, hS⟩ := next_again ys hE
    have r2 := ho2.rd
    have hly := ho2.len
    obtain ⟨b, off, rfl⟩ := r2.some_of (by omega)
    go_wp2_with fail
    refine (snext_good _ n2 c2 w2.heap.size ys w2 r2 (Nat.le_refl _) (by omega) hE).mono ?_
    rintro e w3 ⟨A3, n3, c3, rfl, ho3, hb3⟩
    have hz3 := hb3.size
    go_wp2_with fail
    refine (rnext_good _ n2 c2 w2.heap.size ys w3 (r2.below hb3) hz3 (by omega) hE).mono ?_
    rintro e w4 ⟨rfl, hb4⟩
    have hz4 := hb4.size
    have hl3 := ho3.len
    have hn3 : n3 = nextS ys := by omega
    have HC : Hid (nextC ys = (ys.drop 8).take n3) := by show _ = _; rw [hn3]; rfl
    have HF : Hid (frameN (nextC ys) = ys.take (8 + n3)) := by show _ = _; rw [hn3]; exact hF
    rw [← hn3]
    rw [← hn3] at hS
    have q2 := (r2.below hb3).belowLe hb4 hz3
    have q3 := ho3.rd.below hb4
    have hn3b : n3 ≤ 100 := by omega
    clear hn3 hF hCl hE r2 ho3 ho2
    rcases Nat.lt_or_ge 8 c2 with hc8 | hc8
    · skip
      have qc : Rd bv w4 w2.heap.size (some ⟨b, off + 8, none⟩) n3 (c2 - 8) ((ys.drop 8).take n3) := (q2.drop 8 (by omega)).take n3 (by omega)
      have b1 : (8 : Int) ≤ (c2 : Int) := by omega
      have b2 : ¬ c2 = 8 := by omega
      have b10 : 8 ≤ c2 := by omega
      have b3 : (8 : Int) + (n3 : Int) ≤ (c2 : Int) := by omega
      have b4 : (8 : Int) ≤ 8 + (n3 : Int) := by omega
      have b5 : (0 : Int) ≤ 8 + (n3 : Int) := by omega
      have b6 : (8 + (n3 : Int)).toNat = 8 + n3 := by omega
      have b7 : IntKind.i64.wrap ((n3 : Int) + 8) = (n3 : Int) + 8 := IntWalk.i64_in _ (by omega)
      have b8 : ((8 : Int) + (n3 : Int) == (n3 : Int) + 8) = true := by simp; omega
      have qt : Rd bv w4 w2.heap.size (some ⟨b, off, none⟩) (8 + n3) c2 (ys.take (8 + n3)) := q2.take (8 + n3) (by omega)
      have hln : (nextC ys).length ≤ 65000 := by rw [HC.out, List.length_take]; omega
      have HLN := Lib.hid hln
      rw [← HC.out] at qc
      rw [← HF.out] at qt
      clear hln hl3 HC HF hly
      generalize nextC ys = cs at *
      go_wp2_with fail
      go_region_held3 (fun _ => True) (exact trivial) (first
        | (go_at_call 17; refine (sframe_any A3 n3 c3 w3.heap.size cs _ (by first | exact q3.still hst5 | exact (q3.drew).still hst5) (by omega) (by omega)).mono ?_; rintro e w6 ⟨A6, n6, c6, rfl, ho6, hb6⟩)
        | (go_at_call_of 20 (Value.slice A3 n3 c3); refine (same_yes A3 _ n3 c3 n3 _ w3.heap.size w2.heap.size cs _ (by first | exact q3 | exact q3.drew) (by first | exact qc | exact qc.drew) (by omega)).mono ?_; rintro e w5 ⟨rfl, hst5⟩; have hz5 : w4.heap.size ≤ w5.heap.size := (hst5.below 0).size)
        | (go_at_call_of 20 (Value.slice A6 n6 c6); refine (same_yes A6 _ n6 c6 _ _ w6.heap.size w2.heap.size (frameN cs) _ ho6.rd (by first | exact ((qt.still hst5).belowLe hb6 (by omega)) | exact ((qt.drew.still hst5).belowLe hb6 (by omega))) (by rw [← ho6.len, frameN_len]; have := HLN.out; omega)).mono ?_; rintro e w7 ⟨rfl, hst7⟩))
      all_goals
        go_wp2
        go_ret
        exact ⟨rfl, ((((HB.out.trans (hb3.mono hw2)).trans (hb4.mono (by omega))).trans ((Below.refl _ _).drew.trans (hst5.below _))).trans (hb6.mono (by omega))).trans (hst7.below _)⟩
    · skip
      obtain rfl : c2 = 8 := by omega
      obtain rfl : n3 = 0 := by omega
      have qc : Rd bv w4 w2.heap.size (some ⟨b, off, none⟩) 0 0 ((ys.drop 8).take 0) := Rd.nil
      obtain rfl : n2 = 8 := by omega
      have b6 : IntKind.i64.wrap 8 = 8 := rfl
      have b7 : IntKind.i64.wrap (0 + 8) = 8 := rfl
      have qt : Rd bv w4 w2.heap.size (some ⟨b, off, none⟩) (8 + 0) 8 (ys.take (8 + 0)) := q2.take (8 + 0) (by omega)
      have hln : (nextC ys).length ≤ 65000 := by rw [HC.out, List.length_take]; omega
      have HLN := Lib.hid hln
      rw [← HC.out] at qc
      rw [← HF.out] at qt
      clear hln hl3 HC HF hly
      generalize nextC ys = cs at *
      go_wp2_with fail
      go_region_held3 (fun _ => True) (exact trivial) (first
        | (go_at_call 17; refine (sframe_any A3 0 c3 w3.heap.size cs _ (by first | exact q3.still hst5 | exact (q3.drew).still hst5) (by omega) (by omega)).mono ?_; rintro e w6 ⟨A6, n6, c6, rfl, ho6, hb6⟩)
        | (go_at_call_of 20 (Value.slice A3 0 c3); refine (same_yes A3 _ 0 c3 0 _ w3.heap.size w2.heap.size cs _ (by first | exact q3 | exact q3.drew) (by first | exact qc | exact qc.drew) (by omega)).mono ?_; rintro e w5 ⟨rfl, hst5⟩; have hz5 : w4.heap.size ≤ w5.heap.size := (hst5.below 0).size)
        | (go_at_call_of 20 (Value.slice A6 n6 c6); refine (same_yes A6 _ n6 c6 _ _ w6.heap.size w2.heap.size (frameN cs) _ ho6.rd (by first | exact ((qt.still hst5).belowLe hb6 (by omega)) | exact ((qt.drew.still hst5).belowLe hb6 (by omega))) (by rw [← ho6.len, frameN_len]; have := HLN.out; omega)).mono ?_; rintro e w7 ⟨rfl, hst7⟩))
      all_goals
        go_wp2
        go_ret
        exact ⟨rfl, ((((HB.out.trans (hb3.mono hw2)).trans (hb4.mono (by omega))).trans ((Below.refl _ _).drew.trans (hst5.below _))).trans (hb6.mono (by omega))).trans (hst7.below _)⟩
  · have HE := Lib.hid hE
    have hE' : ((nextE ys : Int) != 0) = true := by rw [bne_iff_ne]; omega
    clear hE
    go_wp2_with fail
    refine (snext_err A2 n2 c2 w2.heap.size ys w2 ho2.rd (by omega) HE.out).mono ?_
    rintro e w3 ⟨rfl, hst3⟩
    go_wp2_with fail
    refine (rnext_err A2 n2 c2 w2.heap.size ys w3 (ho2.rd.still hst3) (by have := (hst3.below 0).size; exact this) (by omega) HE.out).mono ?_
    rintro e w4 ⟨rfl, hb4⟩
    go_wp2
    go_ret
    exact ⟨rfl, (HB.out.trans (hst3.below _)).trans (hb4.mono (by have := (hst3.below 0).size; omega))⟩

end Go.Proofs.Ytodpafiecmipkaa
