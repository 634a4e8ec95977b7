/- WaveNil's walk. No law is claimed here. -/
import Derived.Test.YtmhplbgoahknbaaDoorWv11
namespace Go.Proofs.YtmhplbgoahknbaaDoor
open Go.RowKit

theorem getV_tab (s : WS) (a : Int) (h1 : ¬ a < 16448) (h2 : a < 16512) : getV (getW s a) = .tuple #[.int .u8 (s.tab (a - 16448).toNat + 64), .bool true] := by
  unfold getW; rw [if_neg h1, if_pos h2]; rfl
theorem getV_no (s : WS) (a : Int) (h1 : a < 16448 ∨ (16512 ≤ a ∧ a ≠ 16528 ∧ a ≠ 16530)) : getV (getW s a) = .tuple #[.int .u8 0, .bool false] := by
  unfold getW
  by_cases h : a < 16448
  · rw [if_pos h]; rfl
  · rw [if_neg h, if_neg (by omega), if_neg (by omega), if_neg (by omega)]; rfl
def nilS : WS := putW newW 16512 133
theorem nilS_1 : nilS.vg = 5 ∧ nilS.dg = 0 ∧ outW nilS = 0 ∧ nilS.reg 9 = 0 := by decide +kernel
theorem nilS_put (a b : Int) (h : a < 16512 ∨ 16522 < a) : putW nilS a b = nilS := by
  have := nilS_1
  unfold putW
  split
  · rfl
  · split
    · rw [if_neg (by omega)]
    · rw [if_neg (by omega)]

set_option maxRecDepth 100000 in
set_option maxHeartbeats 1000000 in
theorem waveNil_walk (a b n : Int) (w : World) (ha : 0 ≤ a ∧ a < 65536) (hb : 0 ≤ b ∧ b < 256) (hn : 0 ≤ n ∧ n < 256) (hg : gc w) :
    Calls Tryd.prog 9 #[.int .u16 a, .int .u8 b, .int .u8 n] w fun e w' => e = .returned (.bool true) ∧ Below w.heap.size w w' := by
  have FA := awake13_any w hg.w
  have FN := fun w (hg : gc w) => WW.new true w w hg.w (fun _ => hg) (Below.refl _ _)
  obtain ⟨e1, e2, e3, _⟩ := nilS_1
  have G1 : getV (getW nilS 16528) = .tuple #[.int .u8 69, .bool true] := by unfold getW; simp [e1, getV]
  have G2 : getV (getW nilS 16530) = .tuple #[.int .u8 64, .bool true] := by unfold getW; simp [e2, getV]
  have hP := nilS_put a b
  obtain ⟨X, I, hG, hI⟩ : ∃ X I, getV (getW nilS a) = .tuple #[.int .u8 X, .bool I] ∧ I = (decide (16448 ≤ a ∧ a < 16512) || decide (a = 16528) || decide (a = 16530)) := by
    rcases (by omega : (16448 ≤ a ∧ a < 16512) ∨ a = 16528 ∨ a = 16530 ∨ (a < 16448 ∨ (16512 ≤ a ∧ a ≠ 16528 ∧ a ≠ 16530))) with h | h | h | h
    · exact ⟨_, true, getV_tab _ a (by omega) h.2, by simp [h]⟩
    · exact ⟨69, true, by rw [h]; exact G1, by simp [h]⟩
    · exact ⟨64, true, by rw [h]; exact G2, by simp [h]⟩
    · exact ⟨0, false, getV_no _ a h, by simp; omega⟩
  clear e1 e2 G2
  unfold nilS at e3 G1 hP hG
  generalize newW = s0 at *
  go_enter Tryd.func9, Tryd.ntmps9
  go_upto_region 13 with (first
    | (go_at_call 10; refine FA.mono ?_; rintro e w1 ⟨rfl, b1⟩; have g1 := hg.below b1)
    | (go_at_call_of 18 (Value.pointer none); refine (wput_nil _ _ _).mono ?_; rintro e w' ⟨rfl, rfl⟩)
    | (go_at_call_of 12 (Value.pointer none); refine (wclock_nil _).mono ?_; rintro e w' ⟨rfl, rfl⟩)
    | (go_at_call_of 16 (Value.pointer none); refine (wget_nil _ _).mono ?_; rintro e w' ⟨rfl, rfl⟩)
    | (go_at_call_of 14 (Value.pointer none); refine (wout_nil _).mono ?_; rintro e w' ⟨rfl, rfl⟩)
    | (go_at_call_of 22 (Value.pointer none); refine (wcopy_nil _).mono ?_; rintro e w' ⟨rfl, rfl⟩)
    | (go_at_call 11; refine (FN _ g1).mono ?_; rintro e w2 ⟨rfl, hT⟩)
    | (go_at_call_of 18 (Value.int IntKind.u8 133); refine (hT.put 16512 133 (by decide) (by decide)).mono ?_; clear hT; rintro e w3 ⟨rfl, hT⟩)
    | (go_at_call 22; refine hT.copy.mono ?_; rintro e w4 ⟨rfl, hC⟩; have hT0 := hT; clear hT)
    | (go_at_call_of 18 (Value.int IntKind.u16 16512); refine (hC.put 16512 b (by decide) hb).mono ?_; clear hC; rintro e w5 ⟨rfl, hC⟩))
  generalize putW s0 16512 133 = s1 at *
  generalize putW s1 16512 b = s2 at *
  clear FA FN
  go_wp2
  go_loopw [50] (fun i wr => ∃ (k : Nat) (s : WS), (k : Int) ≤ n ∧ i = .int .u8 k ∧ WW true w3 w3.heap.size s wr) (fun i _ => n.toNat - (intOf i).toNat)
  case atStart => exact ⟨0, s2, by omega, rfl, hC⟩
  case round =>
    clear hC
    obtain ⟨k, s, hk, rfl, hC⟩ := hrel
    by_cases h : (k : Int) < n
    · go_wp2_with (go_at_call 12; refine hC.clock.mono ?_; clear hC; rintro e w6 ⟨rfl, hC⟩)
      go_roundw
      case rel => exact ⟨k + 1, clockW s, by omega, by go_num, hC⟩
      case measure => simp [intOf]; omega
    · have hT := hT0.past hC.below
      clear hT0 hC
      have hk2 := h
      clear h
      have hcase : (a < 16448 ∧ I = false ∧ (a == 16528) = false ∧ (a == 16530) = false) ∨ (16448 ≤ a ∧ a < 16512 ∧ I = true) ∨ (16512 ≤ a ∧ a ≤ 16522 ∧ I = false ∧ (a == 16528) = false ∧ (a == 16530) = false) ∨ (16522 < a ∧ I = false ∧ (a == 16528) = false ∧ (a == 16530) = false) ∨ a = 16528 ∨ (a = 16530 ∧ I = true) := by
        rcases (by omega : a < 16448 ∨ (16448 ≤ a ∧ a < 16512) ∨ (16512 ≤ a ∧ a ≤ 16522) ∨ a = 16528 ∨ a = 16530 ∨ (16522 < a ∧ a ≠ 16528 ∧ a ≠ 16530)) with h | h | h | h | h | h
        · refine .inl ⟨h, ?_, ?_, ?_⟩
          · rw [hI]; simp; omega
          · rw [beq_eq_false_iff_ne]; omega
          · rw [beq_eq_false_iff_ne]; omega
        · exact .inr (.inl ⟨h.1, h.2, by rw [hI]; simp [h]⟩)
        · refine .inr (.inr (.inl ⟨h.1, h.2, ?_, ?_, ?_⟩))
          · rw [hI]; simp; omega
          · rw [beq_eq_false_iff_ne]; omega
          · rw [beq_eq_false_iff_ne]; omega
        · exact .inr (.inr (.inr (.inr (.inl h))))
        · exact .inr (.inr (.inr (.inr (.inr ⟨h, by rw [hI]; simp [h]⟩))))
        · refine .inr (.inr (.inr (.inl ⟨h.1, ?_, ?_, ?_⟩)))
          · rw [hI]; simp; omega
          · rw [beq_eq_false_iff_ne]; omega
          · rw [beq_eq_false_iff_ne]; omega
      clear hI
      rcases hcase with ⟨h1, rfl, h2, h3⟩ | ⟨h1, h2, rfl⟩ | ⟨h1, h2, rfl, h3, h4⟩ | ⟨h1, rfl, h2, h3⟩ | rfl | ⟨rfl, rfl⟩
      all_goals
        go_wp2_with (first
          | (go_at_call 18; refine (hT.put _ b ha hb).mono ?_; rw [hP (by omega)]; clear hT; rintro e w7 ⟨rfl, hT⟩)
          | (go_at_call_of 16 (Value.int IntKind.u16 16528); refine (hT.get 16528 (by decide)).mono ?_; rw [G1]; rintro e w8 ⟨rfl, rfl⟩)
          | (go_at_call 16; refine (hT.get _ ha).mono ?_; rw [hG]; rintro e w8 ⟨rfl, rfl⟩)
          | (go_at_call 14; refine hT.out.mono ?_; rw [e3]; rintro e w9 ⟨rfl, q, rfl⟩))
        go_ret
        refine ⟨by first | rfl | (simp; omega), ?_⟩
        exact (b1.trans (hT.below.mono b1.size)).trans (still_below _ _ _)

end Go.Proofs.YtmhplbgoahknbaaDoor
