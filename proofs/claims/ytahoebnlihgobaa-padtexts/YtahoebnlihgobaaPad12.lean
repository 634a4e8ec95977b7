/- Letters of buttons (walk). No law is claimed here. -/
import Derived.Test.YtahoebnlihgobaaPad11
namespace Go.Proofs.Ytahoebnlihgobaa
open Go.RowKit

set_option maxRecDepth 100000 in
set_option maxHeartbeats 4000000 in
theorem padTexts_walk (b : Int) (s : ByteArray) (w : World) (hb : 0 ≤ b ∧ b < 256) :
    Calls Try.prog 5 #[.int .u8 b, .string s] w fun e w' => e = .returned (.bool true) ∧ Below w.heap.size w w' := by
  by_cases hs : 12 < s.size
  · have hs2 : (12 : Int) < s.size := by omega
    have hs3 : 12 ≤ s.size := by omega
    go_enter Try.func5, Try.ntmps5
    go_upto_region 5 with (go_at_call 7; refine (l16awake_any _).mono ?_; rintro e w0 ⟨rfl, x0⟩)
    generalize s.extract 0 12 = s' at *
    clear hs hs2 hs3
    have b0 := x0
    generalize w0 = w1 at *
    have FPb := fun w => parse_any (txt b) w
    rw [(parse_txt b hb).1, (parse_txt b hb).2] at FPb
    have FP := fun w => parse_any s' w
    have HY : Hid (∀ i : Int, 0 ≤ i ∧ i < 256 → txt i = s' → pOk s' = true ∧ pB s' = i) := fun i hi he => by subst he; exact parse_txt i hi
    have HZ : Hid (pOk s' = true → (txt (pB s')).toList = s'.toList) := fun h => by have h' := h; unfold pOk at h'; unfold pB; rw [if_pos h]; simpa using h'
    have HN : Hid (pOk s' = false → pB s' = 0) := fun h => by unfold pB; rw [h]; rfl
    have hy := pB_u8 s'
    generalize pB s' = y at *
    generalize pOk s' = ok at *
    go_upto_region 6 with (first | (go_at_call 18; refine (qtext_any b _ hb.1 hb.2).mono ?_; rintro e w2 ⟨rfl, x2⟩) | (go_at_call 17; refine (FPb _).mono ?_; rintro e w3 ⟨rfl, x3⟩))
    have b3 := (b0.trans (x2.mono b0.size)).trans (x3.mono (b0.trans (x2.mono b0.size)).size)
    clear b0 x0 x2 x3 FPb
    go_upto_region 7 with (go_at_call 17; refine (FP _).mono ?_; rintro e w4 ⟨rfl, x4⟩)
    have b4 := b3.trans (x4.mono b3.size)
    clear b3 x4 FP
    go_wp2
    go_loopw [29] (fun i wr => ∃ (k : Nat), k ≤ 256 ∧ i = .int .i64 k ∧ Below w.heap.size w wr) (fun i _ => 256 - (intOf i).toNat)
    case atStart => exact ⟨0, Nat.zero_le _, rfl, b4⟩
    case round =>
      obtain ⟨k, hk, rfl, hbw⟩ := hrel
      by_cases h : k < 256
      · have t1 : (k : Int) < 256 := by omega
        have FQ := qtext_any (k : Int) wr (by omega) t1
        by_cases he : (txt (k : Int)).toList = s'.toList
        · obtain ⟨rfl, hyk⟩ := HY.out k ⟨by omega, t1⟩ (toList_inj _ _ he)
          have HE : Hid (y = (k : Int)) := hyk
          have he2 : ((txt (k : Int)).toList == s'.toList) = true := by rw [he, beq_self_eq_true]
          have hyk2 : ¬ (y ≠ (k : Int)) := fun hh => hh hyk
          rw [hyk] at hy HZ HN
          subst hyk
          go_wp2_with (go_at_call 18; refine FQ.mono ?_; rintro e w5 ⟨rfl, x5⟩)
          go_roundw
          case rel => exact ⟨k + 1, by omega, by go_num, hbw.trans (x5.mono hbw.size)⟩
          case measure => simp [intOf]; omega
        · have he2 : ((txt (k : Int)).toList == s'.toList) = false := by rw [beq_eq_false_iff_ne]; exact he
          go_wp2_with (go_at_call 18; refine FQ.mono ?_; rintro e w5 ⟨rfl, x5⟩)
          go_roundw
          case rel => exact ⟨k + 1, by omega, by go_num, hbw.trans (x5.mono hbw.size)⟩
          case measure => simp [intOf]; omega
      · have t1 : ¬ ((k : Int) < 256) := by omega
        have hT : ((txt b).toList == (txt b).toList) = true := beq_self_eq_true _
        cases ok
        · have hy0 := HN.out rfl
          subst hy0
          go_wp2_with (first | (go_at_call 19; refine (ptext_any b _ hb.1 hb.2).mono ?_; rintro e w5 ⟨rfl, x5⟩) | (go_at_call 18; refine (qtext_any b _ hb.1 hb.2).mono ?_; rintro e w6 ⟨rfl, x6⟩))
          go_ret
          exact ⟨rfl, (hbw.trans (x5.mono hbw.size)).trans (x6.mono (hbw.trans (x5.mono hbw.size)).size)⟩
        · have hz := HZ.out rfl
          have hz2 : ((txt y).toList == s'.toList) = true := by rw [hz, beq_self_eq_true]
          clear hz
          have FTy := fun w => ptext_any y w hy.1 hy.2
          have FTb := fun w => ptext_any b w hb.1 hb.2
          clear HY HZ HN
          go_wp2_with (first | (go_at_call 18; refine (qtext_any b _ hb.1 hb.2).mono ?_; rintro e w6 ⟨rfl, x6⟩) | (go_at_call_of 19 (Value.int IntKind.u8 b); refine (FTb _).mono ?_; rintro e w5 ⟨rfl, x5⟩) | (go_at_call 19; refine (FTy _).mono ?_; rintro e w7 ⟨rfl, x7⟩))
          go_ret
          have q1 := hbw.trans (x5.mono hbw.size)
          have q2 := q1.trans (x6.mono q1.size)
          exact ⟨rfl, q2.trans (x7.mono q2.size)⟩
  · have hs2 : ¬ ((12 : Int) < s.size) := by omega
    go_enter Try.func5, Try.ntmps5
    go_upto_region 5 with (go_at_call 7; refine (l16awake_any _).mono ?_; rintro e w0 ⟨rfl, x0⟩)
    clear hs hs2
    have b0 := x0
    generalize w0 = w1 at *
    have FPb := fun w => parse_any (txt b) w
    rw [(parse_txt b hb).1, (parse_txt b hb).2] at FPb
    have FP := fun w => parse_any s w
    have HY : Hid (∀ i : Int, 0 ≤ i ∧ i < 256 → txt i = s → pOk s = true ∧ pB s = i) := fun i hi he => by subst he; exact parse_txt i hi
    have HZ : Hid (pOk s = true → (txt (pB s)).toList = s.toList) := fun h => by have h' := h; unfold pOk at h'; unfold pB; rw [if_pos h]; simpa using h'
    have HN : Hid (pOk s = false → pB s = 0) := fun h => by unfold pB; rw [h]; rfl
    have hy := pB_u8 s
    generalize pB s = y at *
    generalize pOk s = ok at *
    go_upto_region 6 with (first | (go_at_call 18; refine (qtext_any b _ hb.1 hb.2).mono ?_; rintro e w2 ⟨rfl, x2⟩) | (go_at_call 17; refine (FPb _).mono ?_; rintro e w3 ⟨rfl, x3⟩))
    have b3 := (b0.trans (x2.mono b0.size)).trans (x3.mono (b0.trans (x2.mono b0.size)).size)
    clear b0 x0 x2 x3 FPb
    go_upto_region 7 with (go_at_call 17; refine (FP _).mono ?_; rintro e w4 ⟨rfl, x4⟩)
    have b4 := b3.trans (x4.mono b3.size)
    clear b3 x4 FP
    go_wp2
    go_loopw [29] (fun i wr => ∃ (k : Nat), k ≤ 256 ∧ i = .int .i64 k ∧ Below w.heap.size w wr) (fun i _ => 256 - (intOf i).toNat)
    case atStart => exact ⟨0, Nat.zero_le _, rfl, b4⟩
    case round =>
      obtain ⟨k, hk, rfl, hbw⟩ := hrel
      by_cases h : k < 256
      · have t1 : (k : Int) < 256 := by omega
        have FQ := qtext_any (k : Int) wr (by omega) t1
        by_cases he : (txt (k : Int)).toList = s.toList
        · obtain ⟨rfl, hyk⟩ := HY.out k ⟨by omega, t1⟩ (toList_inj _ _ he)
          have HE : Hid (y = (k : Int)) := hyk
          have he2 : ((txt (k : Int)).toList == s.toList) = true := by rw [he, beq_self_eq_true]
          have hyk2 : ¬ (y ≠ (k : Int)) := fun hh => hh hyk
          rw [hyk] at hy HZ HN
          subst hyk
          go_wp2_with (go_at_call 18; refine FQ.mono ?_; rintro e w5 ⟨rfl, x5⟩)
          go_roundw
          case rel => exact ⟨k + 1, by omega, by go_num, hbw.trans (x5.mono hbw.size)⟩
          case measure => simp [intOf]; omega
        · have he2 : ((txt (k : Int)).toList == s.toList) = false := by rw [beq_eq_false_iff_ne]; exact he
          go_wp2_with (go_at_call 18; refine FQ.mono ?_; rintro e w5 ⟨rfl, x5⟩)
          go_roundw
          case rel => exact ⟨k + 1, by omega, by go_num, hbw.trans (x5.mono hbw.size)⟩
          case measure => simp [intOf]; omega
      · have t1 : ¬ ((k : Int) < 256) := by omega
        have hT : ((txt b).toList == (txt b).toList) = true := beq_self_eq_true _
        cases ok
        · have hy0 := HN.out rfl
          subst hy0
          go_wp2_with (first | (go_at_call 19; refine (ptext_any b _ hb.1 hb.2).mono ?_; rintro e w5 ⟨rfl, x5⟩) | (go_at_call 18; refine (qtext_any b _ hb.1 hb.2).mono ?_; rintro e w6 ⟨rfl, x6⟩))
          go_ret
          exact ⟨rfl, (hbw.trans (x5.mono hbw.size)).trans (x6.mono (hbw.trans (x5.mono hbw.size)).size)⟩
        · have hz := HZ.out rfl
          have hz2 : ((txt y).toList == s.toList) = true := by rw [hz, beq_self_eq_true]
          clear hz
          have FTy := fun w => ptext_any y w hy.1 hy.2
          have FTb := fun w => ptext_any b w hb.1 hb.2
          clear HY HZ HN
          go_wp2_with (first | (go_at_call 18; refine (qtext_any b _ hb.1 hb.2).mono ?_; rintro e w6 ⟨rfl, x6⟩) | (go_at_call_of 19 (Value.int IntKind.u8 b); refine (FTb _).mono ?_; rintro e w5 ⟨rfl, x5⟩) | (go_at_call 19; refine (FTy _).mono ?_; rintro e w7 ⟨rfl, x7⟩))
          go_ret
          have q1 := hbw.trans (x5.mono hbw.size)
          have q2 := q1.trans (x6.mono q1.size)
          exact ⟨rfl, q2.trans (x7.mono q2.size)⟩

end Go.Proofs.Ytahoebnlihgobaa
