/- WaveSlopes' walk. No law is claimed here. -/
import Derived.Test.YtmhplbgoahknbaaDoorWvSlopes
namespace Go.Proofs.YtmhplbgoahknbaaDoor
open Go.RowKit

theorem o128 (c : Int) (h : 0 ≤ c ∧ c < 64) : bits .or .u8 128 c = 128 + c := by
  have k : ∀ n : Fin 64, bits .or .u8 128 (n.val : Int) = 128 + (n.val : Int) := by decide +kernel
  have := k ⟨c.toNat, by omega⟩; rwa [show ((⟨c.toNat, by omega⟩ : Fin 64).val : Int) = c from Int.toNat_of_nonneg h.1] at this
theorem o64i (c : Int) (h : 0 ≤ c ∧ c < 64) : bits .or .i64 c 64 = c + 64 := by
  have k : ∀ n : Fin 64, bits .or .i64 (n.val : Int) 64 = (n.val : Int) + 64 := by decide +kernel
  have := k ⟨c.toNat, by omega⟩; rwa [show ((⟨c.toNat, by omega⟩ : Fin 64).val : Int) = c from Int.toNat_of_nonneg h.1] at this
theorem slG_end (off up : Bool) (P g : Int) : slG off up P P g = if off then g else chgW g up := by
  unfold slG; cases off <;> simp
theorem slC_end (off : Bool) (P : Int) : slC off P P = 0 := by
  unfold slC; cases off <;> simp
theorem slG_0 (off up : Bool) (P g : Int) (h : 0 < P) : slG off up P 0 g = g := by
  unfold slG; cases off <;> simp [h]
theorem slC_0 (off : Bool) (P : Int) : slC off P 0 = 0 := by
  unfold slC; cases off <;> simp
theorem chg_up (g : Int) : chgW g true = if g < 32 then g + 1 else g := rfl
theorem chg_dn (g : Int) : chgW g false = if 0 < g then g - 1 else g := rfl

theorem packQ {Q : Int → WS → Prop} {G : Int} {w0 v : World} {m : Nat} {s : WS} (h1 : Q G s) (h2 : WW true w0 m s v) : ∃ s, Q G s ∧ WW true w0 m s v := ⟨s, h1, h2⟩
set_option maxRecDepth 100000 in
set_option maxHeartbeats 4000000 in
theorem waveSlopes_walk (sp0 m0 bg0 : Int) (up turns : Bool) (st : Int) (w : World) (hsp : 0 ≤ sp0 ∧ sp0 < 256) (hm : 0 ≤ m0 ∧ m0 < 256) (hbg : 0 ≤ bg0 ∧ bg0 < 256) (hst : 0 ≤ st ∧ st < 256) (hg : gc w) :
    Calls Tryd.prog 7 #[.int .u8 sp0, .int .u8 m0, .int .u8 bg0, .bool up, .bool turns, .int .u8 st] w fun e w' => e = .returned (.bool true) ∧ Below w.heap.size w w' := by
  have FA := awake13_any w hg.w
  have FN := fun w (hg : gc w) => WW.new true w w hg.w (fun _ => hg) (Below.refl _ _)
  have z1 := m63 bg0 hbg
  obtain ⟨S, hS⟩ : ∃ S, sp0 % 4 = S := ⟨_, rfl⟩
  obtain ⟨M, hM⟩ : ∃ M, m0 % 3 = M := ⟨_, rfl⟩
  obtain ⟨G, hG⟩ : ∃ G, bg0 % 64 = G := ⟨_, rfl⟩
  have bS : 0 ≤ S ∧ S < 4 := by omega
  have bM : 0 ≤ M ∧ M < 3 := by omega
  have bG : 0 ≤ G ∧ G < 64 := by omega
  rw [hG] at z1
  have z2 := o128 G bG
  have z3 := o64 S (by omega)
  obtain ⟨B, hB⟩ : ∃ B, 128 + G = B := ⟨_, rfl⟩
  rw [hB] at z2
  have bB : 0 ≤ B ∧ B < 256 := by omega
  obtain ⟨P, hP⟩ : ∃ P, limW S M = P := ⟨_, rfl⟩
  have bP : 8 ≤ P ∧ P ≤ 96 := by
    have e := limW_eq S M
    have h1 : 1 * 1 ≤ (S + 1) * (M + 1) := Int.mul_le_mul (by omega) (by omega) (by decide) (by omega)
    have h2 : (S + 1) * (M + 1) ≤ 4 * 3 := Int.mul_le_mul (by omega) (by omega) (by omega) (by decide)
    omega
  have hP2 : 8 * (S + 1) * (M + 1) = P := hP
  have y1 : wrap64 P = P := IntWalk.wrap64_in _ ⟨by omega, by omega⟩
  have y2 : IntKind.i64.wrap P = P := IntWalk.i64_in _ ⟨by omega, by omega⟩
  obtain ⟨b, hb⟩ : ∃ b, (if up then S + 64 else S) = b := ⟨_, rfl⟩
  have bb : 0 ≤ b ∧ b < 128 := by rw [← hb]; cases up <;> simp <;> omega
  have hbS : b % 64 = S := by rw [← hb]; cases up <;> simp <;> omega
  have hbu : decide (b / 64 % 2 = 1) = up := by rw [← hb]; cases up <;> simp <;> omega
  obtain ⟨off, hoff⟩ : ∃ off, (st % 4 == 0) = off := ⟨_, rfl⟩
  obtain ⟨X, hX⟩ : ∃ X : Int, (if off then 64 * 2 ^ (st / 4 % 2).toNat else 0) = X := ⟨_, rfl⟩
  have bX : (0 ≤ X ∧ X < 256) ∧ (if off then 64 ≤ X else X < 64) := by
    rw [← hX]
    rcases (by omega : st / 4 % 2 = 0 ∨ st / 4 % 2 = 1) with e | e <;> rw [e] <;> cases off <;> simp
  have hX2 : off = true → st / 4 % 2 = 0 ∧ X = 64 ∨ st / 4 % 2 = 1 ∧ X = 128 := by
    intro e
    rw [← hX, e]
    rcases (by omega : st / 4 % 2 = 0 ∨ st / 4 % 2 = 1) with e | e <;> rw [e] <;> simp
  have hX3 : off = false → X = 0 := by intro e; rw [← hX, e]; rfl
  obtain ⟨Q0, hQ0⟩ : ∃ Q0 : Int → WS → Prop, Q0 = fun g s => SL turns b M S X g 0 s := ⟨_, rfl⟩
  obtain ⟨R, hR⟩ : ∃ R : Int → Int → WS → Prop, R = fun k g s => SL turns b M S X (slG off up P k g) (slC off P k) s := ⟨_, rfl⟩
  have r0 : ∀ g s, Q0 g s → R 0 g s := by
    rw [hQ0, hR]; intro g s h
    show SL turns b M S X (slG off up P 0 g) (slC off P 0) s
    rw [slG_0 _ _ _ _ (by omega), slC_0]; exact h
  have r1 : ∀ k g s, R k g s → k < P → R (k + 1) g (clockW s) := by
    rw [hR]; intro k g s h hk
    have h' : SL turns b M S X (slG off up (limW S M) k g) (slC off (limW S M) k) s := by rw [hP]; exact h
    have := h'.next bX.2 bb.2 hbu (by rw [hP]; exact hk)
    rw [hP] at this
    exact this
  have r2 : ∀ g s, R P g s → Q0 (if off then g else if up then (if g < 32 then g + 1 else g) else (if 0 < g then g - 1 else g)) s := by
    rw [hQ0, hR]; intro g s h
    have h' : SL turns b M S X (slG off up P P g) (slC off P P) s := h
    rw [slG_end, slC_end] at h'
    exact h'
  have r3 : ∀ g s, Q0 g s → getV (getW s (if turns then 16530 else 16528)) = .tuple #[.int .u8 (g + 64), .bool true] := by
    rw [hQ0]; intro g s h; exact h.get
  have r4 : Q0 G (if off then putW (putW (putW (putW newW 16522 M) (if turns then 16516 else 16512) B) (if turns then 16516 else 16512) b) 16515 X else putW (putW (putW newW 16522 M) (if turns then 16516 else 16512) B) (if turns then 16516 else 16512) b) := by
    have hI := slS_is turns M G b bG bb
    rw [hbS, hB] at hI
    rw [hQ0]
    have e : slS turns M B b = putW (putW (putW newW 16522 M) (if turns then 16516 else 16512) B) (if turns then 16516 else 16512) b := by cases turns <;> rfl
    rw [← e]
    show SL turns b M S X G 0 _
    cases off
    · rw [hX3 rfl]; exact hI
    · exact hI.put3 X
  clear hQ0 hR hX hP hbS hbu hB bX
  generalize newW = s0 at *
  cases turns <;> cases up <;> cases off
  all_goals
    simp only [Bool.false_eq_true, if_false, if_true] at hb r2 r3 r4
    subst hb
    first
      | (obtain rfl := hX3 rfl; clear hX2 hX3; have hq : True := trivial)
      | (rcases hX2 rfl with ⟨hq, rfl⟩ | ⟨hq, rfl⟩ <;> clear hX2 hX3)
    all_goals
      go_enter Tryd.func7, Tryd.ntmps7
      go_upto_region 17 with (first
        | (go_at_call 10; refine FA.mono ?_; rintro e w1 ⟨rfl, b1⟩; have g1 := hg.below b1)
        | (go_at_call 11; refine (FN _ g1).mono ?_; rintro e w2 ⟨rfl, hT⟩)
        | (go_at_call_of 18 (Value.int IntKind.u16 16522); refine (hT.put 16522 M (by decide) (by omega)).mono ?_; clear hT; rintro e w3 ⟨rfl, hT⟩)
        | (go_at_call_of 18 (Value.int IntKind.u8 B); refine (hT.put _ B (by decide) bB).mono ?_; clear hT; rintro e w4 ⟨rfl, hT⟩)
        | (go_at_call_of 18 (Value.int IntKind.u16 16515); refine (hT.put 16515 _ (by decide) (by decide)).mono ?_; clear hT; rintro e w6 ⟨rfl, hT⟩)
        | (go_at_call 18; refine (hT.put _ _ (by decide) (by omega)).mono ?_; clear hT; rintro e w5 ⟨rfl, hT⟩))
      obtain ⟨s1, r5, hT1⟩ := packQ r4 hT
      clear FA FN r4 hT
      clear z1 z2 z3 hq bB bb hsp hm hbg hst hg g1
      go_wp2
      clear hS hM hG
      go_loopw [18, 68] (fun ga i wr => ∃ (k : Nat) (g : Int) (s : WS), k ≤ 40 ∧ ga = .int .i64 g ∧ i = .int .i64 k ∧ (0 ≤ g ∧ g < 64) ∧ Q0 g s ∧ WW true w1 w1.heap.size s wr) (fun _ i _ => 40 - (intOf i).toNat)
      case atStart => exact ⟨0, G, s1, by decide, rfl, rfl, bG, r5, hT1⟩
      case round =>
        clear r5 hT1
        obtain ⟨k, g, s, hk, rfl, rfl, bg, hI, hT⟩ := hrel
        by_cases h : k < 40
        · have t0 : (k : Int) < 40 := by omega
          have x1 := o64i g bg
          have FG := fun a (ha : 0 ≤ a ∧ a < 65536) => hT.get a ha
          have rg := r3 g s hI
          have rR := r0 g s hI
          clear r0 r3 hI
          obtain ⟨wo, rfl⟩ : ∃ wo : World, wo = wr := ⟨wr, rfl⟩
          go_upto_region 24 with (go_at_call 16; refine (FG _ (by decide)).mono ?_; rw [rg]; clear FG rg; rintro e w7 ⟨rfl, rfl⟩)
          go_wp2
          go_loopw [86] (fun i wr => ∃ (j : Nat) (s : WS), (j : Int) ≤ P ∧ i = .int .i64 j ∧ R j g s ∧ WW true w1 w1.heap.size s wr) (fun i _ => P.toNat - (intOf i).toNat)
          case atStart => exact ⟨0, s, by omega, rfl, rR, hT⟩
          case round =>
            clear rR hT
            obtain ⟨j, s, hj, rfl, rR, hT⟩ := hrel
            by_cases hjP : (j : Int) < P
            · have rN := r1 j g s rR hjP
              go_wp2_with (go_at_call 12; refine hT.clock.mono ?_; clear hT; rintro e w10 ⟨rfl, hT⟩)
              go_roundw
              case rel => exact ⟨j + 1, clockW s, by omega, by go_num, by push_cast; exact rN, hT⟩
              case measure => simp [intOf]; omega
            · have hjP2 : (j : Int) = P := by omega
              rw [hjP2] at rR
              have rQ := r2 g s rR
              clear hjP2 rR r2 hj
              rcases (by omega : g ≤ 0 ∨ (0 < g ∧ g < 32) ∨ (0 < g ∧ 32 ≤ g)) with hg0 | ⟨hg0, hg1⟩ | ⟨hg0, hg1⟩
              all_goals
                first | rw [if_pos (by omega)] at rQ | rw [if_neg (by omega)] at rQ | skip
                go_wp2
                go_roundw
                case rel => exact ⟨k + 1, _, s, by omega, rfl, by go_num, by omega, rQ, hT⟩
                case measure => simp [intOf]; omega
        · clear r0 r1 r2 r3
          go_wp2
          go_ret
          exact ⟨rfl, b1.trans (hT.below.mono b1.size)⟩

end Go.Proofs.YtmhplbgoahknbaaDoor
