/- PictureBlanks' walk. No law is claimed here. -/
import Derived.Test.YthldppdkheclkaaPc6
set_option linter.unusedSimpArgs false
set_option linter.unusedVariables false
namespace Go.Proofs.Ythldppdkheclkaa
open Go.RowKit Go.Great

theorem lk_is (b : Int) (hb : 0 ≤ b ∧ b < 256) (o h k : Bool) : bits .and .u8 (lkB b o h k) 128 = (if k = true then 128 else 0) ∧ 0 ≤ lkB b o h k ∧ lkB b o h k < 256 := by
  have H : ∀ n : Fin 256, ∀ o h k : Bool, bits .and .u8 (lkB (n.val : Int) o h k) 128 = (if k = true then 128 else 0) ∧ 0 ≤ lkB (n.val : Int) o h k ∧ lkB (n.val : Int) o h k < 256 := by decide +kernel
  obtain ⟨n, rfl⟩ := natP b hb.1
  exact H ⟨n, by omega⟩ o h k
theorem and128 (b : Int) (hb : 0 ≤ b ∧ b < 256) : (bits .and .u8 b 128 = 0 ∧ bits .and .u8 (bits .xor .u8 b 128) 128 = 128) ∨ (bits .and .u8 b 128 = 128 ∧ bits .and .u8 (bits .xor .u8 b 128) 128 = 0) := by
  have H : ∀ n : Fin 256, (bits .and .u8 (n.val : Int) 128 = 0 ∧ bits .and .u8 (bits .xor .u8 (n.val : Int) 128) 128 = 128) ∨ (bits .and .u8 (n.val : Int) 128 = 128 ∧ bits .and .u8 (bits .xor .u8 (n.val : Int) 128) 128 = 0) := by decide +kernel
  obtain ⟨n, rfl⟩ := natP b hb.1
  exact H ⟨n, by omega⟩

set_option maxRecDepth 100000 in
set_option maxHeartbeats 4000000 in
theorem pictureBlanks_walk (k n0 : Int) (look : Bool) (w : World) (hk0 : 0 ≤ k) (hk1 : k < 256) (hn0 : 0 ≤ n0) (hn1 : n0 < 65536) :
    Calls Try.prog 6 #[.int .u8 k, .int .u16 n0, .bool look] w fun e w' => e = .returned (.bool true) ∧ Below w.heap.size w w' := by
  have hk : 0 ≤ k ∧ k < 256 := ⟨hk0, hk1⟩
  have hn : 0 ≤ n0 ∧ n0 < 65536 := ⟨hn0, hn1⟩
  clear hk0 hk1 hn0 hn1
  have FA := awake15_any w
  have ew : ∀ z : Int, 0 ≤ z ∧ z < 65536 → IntKind.i64.wrap z = z := fun z hz => IntWalk.i64_in _ ⟨by omega, by omega⟩
  obtain ⟨N, hN⟩ := natP (82178 + n0 % 6828) (by omega)
  have hN1 : 82178 ≤ N ∧ N < 89006 := by omega
  go_enter Try.func6, Try.ntmps6
  go_upto_region 3 with (go_at_call 12; refine FA.mono ?_; rintro e w1 ⟨rfl, hb1⟩)
  clear FA
  have FN := pnew_any w1
  obtain ⟨m, hm⟩ : ∃ m, w1.heap.size = m := ⟨_, rfl⟩
  rw [hm] at FN
  go_upto_region 4 with (go_at_call 13; refine FN.mono ?_; rintro e w2 ⟨rfl, h2⟩)
  clear FN
  have FP := pPut0_any h2 k
  go_upto_region 5 with (go_at_call 31; refine FP.mono ?_; rintro e w3 ⟨rfl, h3⟩)
  clear FP h2
  go_upto_region 6 with (fail)
  have hbl : (dkC (conC c0 k) N).blank = decide (82183 ≤ N ∧ N < 89003) := rfl
  have hfr0 : (dkC (conC c0 k) N).fr = if 82183 ≤ N then (1 : Int) else 0 := rfl
  obtain ⟨x1, hx1⟩ : ∃ x, bits .xor .u8 k 128 = x := ⟨_, rfl⟩
  rcases (by omega : N < 82183 ∨ (82183 ≤ N ∧ N < 89003) ∨ 89003 ≤ N) with t1 | ⟨t1, t2⟩ | t1
  · have hblank : (dkC (conC c0 k) N).blank = false := hbl.trans (decide_eq_false (by omega))
    have hfr : (dkC (conC c0 k) N).fr = 0 := hfr0.trans (if_neg (by omega))
    clear hbl hfr0
    go_upto_region 8 with (fail)
    go_loopw [29] (fun i wr => ∃ j : Nat, i = .int .i64 j ∧ j ≤ N ∧ PX w1 m (dkC (conC c0 k) j) wr) (fun i _ => N - (intOf i).toNat)
    case atStart => exact ⟨0, rfl, by omega, h3⟩
    case round =>
      clear h3
      obtain ⟨v, rfl⟩ : ∃ v, v = wr := ⟨wr, rfl⟩
      obtain ⟨j, rfl, hj, hX⟩ := hrel
      by_cases t3 : (j : Int) < N
      · have FC := dk_clock (c := conC c0 k) rfl j (by omega) hX
        go_wp2_with (go_at_call 32; refine FC.mono ?_; rintro e w4 ⟨rfl, h4⟩)
        go_roundw
        case rel => exact ⟨j + 1, by go_num, by omega, h4⟩
        case measure => simp [intOf]; omega
      · have ej : j = N := by omega
        subst ej
        have hP := hX
        generalize hc : dkC (conC c0 k) j = c at *
        have hcon : c.con = k := by rw [← hc]; rfl
        have hbus : c.bus = k := by rw [← hc]; rfl
        have hhit : c.hit = false := by rw [← hc]; rfl
        have hover : c.over = false := by rw [← hc]; rfl
        have t4 : ¬ (82183 : Int) ≤ (j : Int) := by omega
        have t5 : decide ((82183 : Int) ≤ (j : Int)) = false := decide_eq_false t4
        clear hj t3 hc hX hN hN1 t1
        have FM := pNMI_any hP
        rw [hblank, hcon] at FM
        rcases and128 k hk with ⟨a1, a2⟩ | ⟨a1, a2⟩
        all_goals
          rw [hx1] at a2
          rw [a1] at FM
          cases look
          · have FQ := pPut0_any hP x1
            have e1 : (conC c x1).blank = false := hblank
            have e2 : (conC c x1).con = x1 := rfl
            have e3 : (conC c x1).fr = 0 := hfr
            generalize conC c x1 = c2 at *
            go_wp2_with (first | (go_at_call 33; refine FM.mono ?_; clear FM; rintro e w5 ⟨rfl, rfl⟩) | (go_at_call 31; refine FQ.mono ?_; clear FQ; rintro e w4 ⟨rfl, h4⟩; have FM := pNMI_any h4; rw [e1, e2, a2] at FM; have FF := pFrame_any h4; rw [e3] at FF) | (go_at_call 34; refine FF.mono ?_; rintro e w6 ⟨rfl, rfl⟩))
            go_ret
            have hB := h4.bel
            rw [← hm] at hB
            exact ⟨rfl, hb1.trans (hB.mono hb1.size)⟩
          · have FG := pGet2_any hP
            rw [hblank, hbus, hhit, hover] at FG
            have e1 : (lkC c).blank = false := rfl
            have e2 : (lkC c).bus = lkB k false false false := by show lkB c.bus c.over c.hit c.blank = _; rw [hbus, hhit, hover, hblank]
            have e3 : (lkC c).hit = false := hhit
            have e4 : (lkC c).over = false := hover
            have hL := (lk_is k hk false false false).1
            have hL2 := (lk_is k hk false false false).2
            generalize lkB k false false false = B at *
            have hL3 : bits .and .u8 B 128 = 0 := hL
            clear hL
            have hM := (lk_is B hL2 false false false).1
            have hM3 : bits .and .u8 (lkB B false false false) 128 = 0 := hM
            clear hM
            generalize hc2 : lkC c = c2 at *
            clear hc2
            go_wp2_with (first | (go_at_call 33; refine FM.mono ?_; clear FM; rintro e w5 ⟨rfl, rfl⟩) | (go_at_call 17; refine FG.mono ?_; clear FG; rintro e w4 ⟨rfl, h4⟩; have FM := pNMI_any h4; rw [e1, Bool.false_and] at FM; have FH := pGet2_any h4; rw [e1, e2, e3, e4] at FH; generalize lkB B false false false = B2 at *) | (go_at_call 17; refine FH.mono ?_; rintro e w6 ⟨rfl, h6⟩))
            go_ret
            have hB := h6.bel
            rw [← hm] at hB
            exact ⟨rfl, hb1.trans (hB.mono hb1.size)⟩
  · have hblank : (dkC (conC c0 k) N).blank = true := hbl.trans (decide_eq_true (by omega))
    have hfr : (dkC (conC c0 k) N).fr = 1 := hfr0.trans (if_pos (by omega))
    clear hbl hfr0
    go_upto_region 8 with (fail)
    rw [show decide ((N : Int) < 89003) = true from decide_eq_true (by omega)]
    go_loopw [29] (fun i wr => ∃ j : Nat, i = .int .i64 j ∧ j ≤ N ∧ PX w1 m (dkC (conC c0 k) j) wr) (fun i _ => N - (intOf i).toNat)
    case atStart => exact ⟨0, rfl, by omega, h3⟩
    case round =>
      clear h3
      obtain ⟨v, rfl⟩ : ∃ v, v = wr := ⟨wr, rfl⟩
      obtain ⟨j, rfl, hj, hX⟩ := hrel
      by_cases t3 : (j : Int) < N
      · have FC := dk_clock (c := conC c0 k) rfl j (by omega) hX
        go_wp2_with (go_at_call 32; refine FC.mono ?_; rintro e w4 ⟨rfl, h4⟩)
        go_roundw
        case rel => exact ⟨j + 1, by go_num, by omega, h4⟩
        case measure => simp [intOf]; omega
      · have ej : j = N := by omega
        subst ej
        have hP := hX
        generalize hc : dkC (conC c0 k) j = c at *
        have hcon : c.con = k := by rw [← hc]; rfl
        have hbus : c.bus = k := by rw [← hc]; rfl
        have hhit : c.hit = false := by rw [← hc]; rfl
        have hover : c.over = false := by rw [← hc]; rfl
        clear hj t3 hc hX hN hN1 t1 t2
        have FM := pNMI_any hP
        rw [hblank, hcon] at FM
        rcases and128 k hk with ⟨a1, a2⟩ | ⟨a1, a2⟩
        all_goals
          rw [hx1] at a2
          rw [a1] at FM
          cases look
          · have FQ := pPut0_any hP x1
            have e1 : (conC c x1).blank = true := hblank
            have e2 : (conC c x1).con = x1 := rfl
            have e3 : (conC c x1).fr = 1 := hfr
            generalize conC c x1 = c2 at *
            go_wp2_with (first | (go_at_call 33; refine FM.mono ?_; clear FM; rintro e w5 ⟨rfl, rfl⟩) | (go_at_call 31; refine FQ.mono ?_; clear FQ; rintro e w4 ⟨rfl, h4⟩; have FM := pNMI_any h4; rw [e1, e2, a2] at FM; have FF := pFrame_any h4; rw [e3] at FF) | (go_at_call 34; refine FF.mono ?_; rintro e w6 ⟨rfl, rfl⟩))
            go_ret
            have hB := h4.bel
            rw [← hm] at hB
            exact ⟨rfl, hb1.trans (hB.mono hb1.size)⟩
          · have FG := pGet2_any hP
            rw [hblank, hbus, hhit, hover] at FG
            have e1 : (lkC c).blank = false := rfl
            have e2 : (lkC c).bus = lkB k false false true := by show lkB c.bus c.over c.hit c.blank = _; rw [hbus, hhit, hover, hblank]
            have e3 : (lkC c).hit = false := hhit
            have e4 : (lkC c).over = false := hover
            have hL := (lk_is k hk false false true).1
            have hL2 := (lk_is k hk false false true).2
            generalize lkB k false false true = B at *
            have hL3 : bits .and .u8 B 128 = 128 := hL
            clear hL
            have hM := (lk_is B hL2 false false false).1
            have hM3 : bits .and .u8 (lkB B false false false) 128 = 0 := hM
            clear hM
            generalize hc2 : lkC c = c2 at *
            clear hc2
            go_wp2_with (first | (go_at_call 33; refine FM.mono ?_; clear FM; rintro e w5 ⟨rfl, rfl⟩) | (go_at_call 17; refine FG.mono ?_; clear FG; rintro e w4 ⟨rfl, h4⟩; have FM := pNMI_any h4; rw [e1, Bool.false_and] at FM; have FH := pGet2_any h4; rw [e1, e2, e3, e4] at FH; generalize lkB B false false false = B2 at *) | (go_at_call 17; refine FH.mono ?_; rintro e w6 ⟨rfl, h6⟩))
            go_ret
            have hB := h6.bel
            rw [← hm] at hB
            exact ⟨rfl, hb1.trans (hB.mono hb1.size)⟩
  · have hblank : (dkC (conC c0 k) N).blank = false := hbl.trans (decide_eq_false (by omega))
    have hfr : (dkC (conC c0 k) N).fr = 1 := hfr0.trans (if_pos (by omega))
    clear hbl hfr0
    go_upto_region 8 with (fail)
    rw [show decide ((N : Int) < 89003) = false from decide_eq_false (by omega)]
    go_loopw [29] (fun i wr => ∃ j : Nat, i = .int .i64 j ∧ j ≤ N ∧ PX w1 m (dkC (conC c0 k) j) wr) (fun i _ => N - (intOf i).toNat)
    case atStart => exact ⟨0, rfl, by omega, h3⟩
    case round =>
      clear h3
      obtain ⟨v, rfl⟩ : ∃ v, v = wr := ⟨wr, rfl⟩
      obtain ⟨j, rfl, hj, hX⟩ := hrel
      by_cases t3 : (j : Int) < N
      · have FC := dk_clock (c := conC c0 k) rfl j (by omega) hX
        go_wp2_with (go_at_call 32; refine FC.mono ?_; rintro e w4 ⟨rfl, h4⟩)
        go_roundw
        case rel => exact ⟨j + 1, by go_num, by omega, h4⟩
        case measure => simp [intOf]; omega
      · have ej : j = N := by omega
        subst ej
        have hP := hX
        generalize hc : dkC (conC c0 k) j = c at *
        have hcon : c.con = k := by rw [← hc]; rfl
        have hbus : c.bus = k := by rw [← hc]; rfl
        have hhit : c.hit = false := by rw [← hc]; rfl
        have hover : c.over = false := by rw [← hc]; rfl
        clear hj t3 hc hX hN hN1 t1
        have FM := pNMI_any hP
        rw [hblank, hcon] at FM
        rcases and128 k hk with ⟨a1, a2⟩ | ⟨a1, a2⟩
        all_goals
          rw [hx1] at a2
          rw [a1] at FM
          cases look
          · have FQ := pPut0_any hP x1
            have e1 : (conC c x1).blank = false := hblank
            have e2 : (conC c x1).con = x1 := rfl
            have e3 : (conC c x1).fr = 1 := hfr
            generalize conC c x1 = c2 at *
            go_wp2_with (first | (go_at_call 33; refine FM.mono ?_; clear FM; rintro e w5 ⟨rfl, rfl⟩) | (go_at_call 31; refine FQ.mono ?_; clear FQ; rintro e w4 ⟨rfl, h4⟩; have FM := pNMI_any h4; rw [e1, e2, a2] at FM; have FF := pFrame_any h4; rw [e3] at FF) | (go_at_call 34; refine FF.mono ?_; rintro e w6 ⟨rfl, rfl⟩))
            go_ret
            have hB := h4.bel
            rw [← hm] at hB
            exact ⟨rfl, hb1.trans (hB.mono hb1.size)⟩
          · have FG := pGet2_any hP
            rw [hblank, hbus, hhit, hover] at FG
            have e1 : (lkC c).blank = false := rfl
            have e2 : (lkC c).bus = lkB k false false false := by show lkB c.bus c.over c.hit c.blank = _; rw [hbus, hhit, hover, hblank]
            have e3 : (lkC c).hit = false := hhit
            have e4 : (lkC c).over = false := hover
            have hL := (lk_is k hk false false false).1
            have hL2 := (lk_is k hk false false false).2
            generalize lkB k false false false = B at *
            have hL3 : bits .and .u8 B 128 = 0 := hL
            clear hL
            have hM := (lk_is B hL2 false false false).1
            have hM3 : bits .and .u8 (lkB B false false false) 128 = 0 := hM
            clear hM
            generalize hc2 : lkC c = c2 at *
            clear hc2
            go_wp2_with (first | (go_at_call 33; refine FM.mono ?_; clear FM; rintro e w5 ⟨rfl, rfl⟩) | (go_at_call 17; refine FG.mono ?_; clear FG; rintro e w4 ⟨rfl, h4⟩; have FM := pNMI_any h4; rw [e1, Bool.false_and] at FM; have FH := pGet2_any h4; rw [e1, e2, e3, e4] at FH; generalize lkB B false false false = B2 at *) | (go_at_call 17; refine FH.mono ?_; rintro e w6 ⟨rfl, h6⟩))
            go_ret
            have hB := h6.bel
            rw [← hm] at hB
            exact ⟨rfl, hb1.trans (hB.mono hb1.size)⟩

end Go.Proofs.Ythldppdkheclkaa
