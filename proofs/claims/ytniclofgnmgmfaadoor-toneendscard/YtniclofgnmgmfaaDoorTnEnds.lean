/- ToneEnds' walk. No law is claimed here. -/
import Derived.Test.YtniclofgnmgmfaaDoorTnAct
namespace Go.Proofs.YtniclofgnmgmfaaDoor
open Go.RowKit

/-- what a length is behind i halves -/
def lenI (on held : Bool) (W i : Int) : Int := if on then (if held then W else (if i < W then W - i else 0)) else 0
/-- a voice whose length runs down -/
structure EI (on held : Bool) (W i : Int) (s : TS) : Prop where
  en : s.en = on
  ctl : s.ctl = if held then 160 else 0
  len : s.len = lenI on held W i
theorem clock_f (s : TS) : (clockT s).en = s.en ∧ (clockT s).ctl = s.ctl ∧ (clockT s).len = s.len := by
  unfold clockT advT; (repeat' split) <;> exact ⟨rfl, rfl, rfl⟩
theorem qua_f (s : TS) : (quaT s).en = s.en ∧ (quaT s).ctl = s.ctl ∧ (quaT s).len = s.len := by
  unfold quaT linT envT; (repeat' split) <;> exact ⟨rfl, rfl, rfl⟩
theorem put1_f (s : TS) (b : Int) : (putT s 1 b).en = s.en ∧ (putT s 1 b).ctl = s.ctl ∧ (putT s 1 b).len = s.len := by
  unfold putT; rw [if_neg (by decide), if_pos rfl]; exact ⟨rfl, rfl, rfl⟩
theorem put2_f (s : TS) (b : Int) : (putT s 2 b).en = s.en ∧ (putT s 2 b).ctl = s.ctl ∧ (putT s 2 b).len = s.len := by
  unfold putT put2 putN; rw [if_neg (by decide), if_neg (by decide), if_pos rfl]; split <;> exact ⟨rfl, rfl, rfl⟩
theorem sweep_f (s : TS) : (sweepT s).en = s.en ∧ (sweepT s).ctl = s.ctl ∧ (sweepT s).len = s.len := by
  unfold sweepT countT; split <;> exact ⟨rfl, rfl, rfl⟩
theorem half_f (s : TS) : (halfT s).en = (lenT s).en ∧ (halfT s).ctl = (lenT s).ctl ∧ (halfT s).len = (lenT s).len := by
  unfold halfT; split
  · exact sweep_f _
  · exact ⟨rfl, rfl, rfl⟩
theorem EI.of {on held : Bool} {W i : Int} {s t : TS} (h : EI on held W i s) (e : t.en = s.en ∧ t.ctl = s.ctl ∧ t.len = s.len) : EI on held W i t :=
  ⟨e.1.trans h.en, e.2.1.trans h.ctl, e.2.2.trans h.len⟩
theorem EI.half {on held : Bool} {W i : Int} {s : TS} (h : EI on held W i s) (_hi : 0 ≤ i) (_hW : 0 < W) : EI on held W (i + 1) (halfT s) := by
  obtain ⟨h1, h2, h3⟩ := h
  obtain ⟨e1, e2, e3⟩ := half_f s
  have hh : haltT s = held := by
    unfold haltT
    rw [h2]
    cases held <;> split <;> decide
  have hl : (lenT s).en = s.en ∧ (lenT s).ctl = s.ctl ∧ (lenT s).len = lenI on held W (i + 1) := by
    unfold lenT
    rw [hh]
    unfold lenI at h3 ⊢
    cases on <;> cases held <;> simp only [if_true, if_false, Bool.false_eq_true, and_true, and_false, reduceCtorEq] at h3 ⊢ <;> (repeat' split) <;> (refine ⟨(by first | trivial | rfl), (by first | trivial | rfl), ?_⟩) <;> (try (show s.len - 1 = _)) <;> (try (show s.len = _)) <;> (repeat' split at h3) <;> omega
  exact ⟨e1.trans (hl.1.trans h1), e2.trans (hl.2.1.trans h2), e3.trans hl.2.2⟩

theorem EI.start (K nb W : Int) (on held : Bool) (hW : at0 lenL (nb / 8) = W) (hp : 0 < W) (s : TS) (hs : s = if held then putT (enT (newT K) on) 0 160 else enT (newT K) on) : EI on held W 0 (putT s 3 nb) := by
  have e : putT s 3 nb = put3 s nb := by unfold putT; rw [if_neg (by decide), if_neg (by decide), if_neg (by decide), if_pos rfl]
  rw [e]
  have en : s.en = on := by rw [hs]; cases held <;> rfl
  have ct : s.ctl = if held then 160 else 0 := by rw [hs]; cases held <;> rfl
  have ln : s.len = 0 := by rw [hs]; cases held <;> cases on <;> rfl
  refine ⟨en, ct, ?_⟩
  unfold put3 lenI
  simp only
  rw [en, hW, ln]
  cases on <;> cases held <;> simp [hp]

set_option maxRecDepth 100000 in
set_option maxHeartbeats 4000000 in
theorem toneEnds_walk (K0 nu : Int) (on held : Bool) (A : Option Addr) (nA cA : Nat) (l : List A4) (w : World) (hK : 0 ≤ K0 ∧ K0 < 256) (hnu : 0 ≤ nu ∧ nu < 256)
    (hr : RdX shA4 w (· < w.heap.size) A nA cA l) (hm : cA ≤ maxLen) (hgl : ∀ y ∈ l, okA4 y) (hg : gl w) :
    Calls Tryd.prog 5 #[.int .u8 K0, .int .u8 nu, .bool on, .bool held, .slice A nA cA] w fun e w' => e = .returned (.bool true) ∧ Below w.heap.size w w' := by
  have hl := hr.len
  have hcap := hr.cap
  have hmm : cA ≤ 9223372036854775807 := hm
  have FA := awake11_any w hg
  obtain ⟨K, hKm⟩ : ∃ K, K0 % 4 = K := ⟨_, rfl⟩
  have bK : 0 ≤ K ∧ K < 4 := by omega
  have FN := fun w (hg : gl w) => tnew_tw K w w bK hg (Below.refl _ _)
  obtain ⟨nb, hnb⟩ : ∃ nb, IntKind.u8.wrap (nu * 8) = nb := ⟨_, rfl⟩
  obtain ⟨nm, hnm⟩ : ∃ nm, nu % 32 = nm := ⟨_, rfl⟩
  have b1n : nb = nm * 8 := by rw [← hnb, wrap_u8_mod]; omega
  have b2n : 0 ≤ nm ∧ nm < 32 := by omega
  have b3n : 0 ≤ nb ∧ nb < 256 := by omega
  have b4n : nb / 8 = nm := by omega
  obtain ⟨W, hW⟩ : ∃ W, at0 lenL nm = W := ⟨_, rfl⟩
  have hWp := lenL_pos nm b2n
  rw [hW] at hWp
  have FL := fun w => r11len_any nm w b2n
  rw [hW] at FL
  have hS := EI.start K nb W on held (by rw [b4n]; exact hW) (by omega)
  clear b1n
  generalize newT K = s0 at *
  cases held <;> cases on
  all_goals
    simp only [if_true, if_false, Bool.false_eq_true] at hS
    go_enter Tryd.func5, Tryd.ntmps5
    go_upto_region 10 with (first
      | (go_at_call 11; refine FA.mono ?_; rintro e w1 ⟨rfl, b1⟩; have g1 := hg.below b1)
      | (go_at_call 12; refine (FN _ g1).mono ?_; rintro e w3 ⟨rfl, hT⟩)
      | (go_at_call 16; refine (hT.en _).mono ?_; clear hT; rintro e w4 ⟨rfl, hT⟩)
      | (go_at_call_of 18 (Value.int IntKind.u8 160); refine (hT.put 0 160 (by decide) (by decide)).mono ?_; clear hT; rintro e w5 ⟨rfl, hT⟩)
      | (go_at_call 18; refine (hT.put 3 nb (by decide) b3n).mono ?_; clear hT; rintro e w6 ⟨rfl, hT⟩)
      | (go_at_call 24; refine (FL _).mono ?_; rintro e w7 ⟨rfl, hE⟩; replace hT := hT.past hE.below; clear hE))
    replace hS := hS _ rfl
    generalize putT _ 3 nb = s1 at *
    clear FL FN FA hnb hnm hKm hK hnu
    go_wp2
    go_loopw [34] (fun i wr => ∃ (k : Nat) (s : TS), k ≤ 300 ∧ i = .int .i64 k ∧ EI _ _ W k s ∧ TW w1 w1.heap.size s wr) (fun i _ => 300 - (intOf i).toNat)
    case atStart => exact ⟨0, s1, by decide, rfl, hS, hT⟩
    case round =>
      clear hS hT
      obtain ⟨k, s, hk, rfl, hI, hT⟩ := hrel
      have hend : ∀ s v, TW w1 w1.heap.size s v → Below w.heap.size w v := fun s v h => b1.trans (h.below.mono b1.size)
      have hb := hend _ _ hT
      by_cases h : k < 300
      · have t0 : (k : Int) < 300 := by omega
        have hk1 : (0 : Int) ≤ k := by omega
        have hNx := hI.half hk1 (by omega)
        have hlen := hI.len
        unfold lenI at hlen
        simp only [if_true, if_false, Bool.false_eq_true] at hlen
        rcases (by omega : (k : Int) < W ∨ ¬ (k : Int) < W) with hkW | hkW
        all_goals
          (try simp only [hkW, if_true, if_false] at hlen)
          first
            | (have hLv : decide (0 < s.len) = true := by simp; omega)
            | (have hLv : decide (0 < s.len) = false := by simp; omega)
          have hL := hT.live
          rw [hLv] at hL
          clear hlen hLv
          by_cases hkn : k < nA
          · have t1 : (k : Int) < nA := by omega
            obtain ⟨b, off, rfl, hbb, cd, cr, cb, cn⟩ := rdA4_at hr k (by omega)
            obtain ⟨y1, y2, y3, y4⟩ := hgl l[k] (List.getElem_mem (by omega))
            generalize l[k] = y at *
            obtain ⟨yd, yr, yb, yn⟩ := y
            simp only at cd cb y1 y3
            have cd' := (hb.cell (p := ⟨b, off + k * 4, none⟩) hbb).trans cd
            have hB : ∀ s v, TW w1 w1.heap.size s v → v.cell? ⟨b, off + k * 4 + 2, none⟩ = some (.int .u8 yb) := fun s v h => ((hend s v h).cell (p := ⟨b, off + k * 4 + 2, none⟩) hbb).trans cb
            clear cd cr cb cn hr hgl
            rcases (by omega : yd % 2 = 0 ∨ yd % 2 = 1) with he | he
            · have hNx2 := (((((hI.of (qua_f s)).of (clock_f _)).of (put1_f _ yb)).of (put2_f _ yb))).half hk1 (by omega)
              go_wp2_with (first
                | (go_at_call 25; refine hL.mono ?_; rintro e w5 ⟨rfl, rfl⟩)
                | (go_at_call 20; refine hT.qua.mono ?_; clear hT; rintro e w6 ⟨rfl, hT⟩)
                | (go_at_call 22; refine hT.clock.mono ?_; clear hT; rintro e w7 ⟨rfl, hT⟩; have c1 := hB _ _ hT)
                | (go_at_call_of 18 (Value.int IntKind.u8 1); refine (hT.put 1 yb (by decide) y3).mono ?_; clear hT; rintro e w8 ⟨rfl, hT⟩; have c2 := hB _ _ hT)
                | (go_at_call_of 18 (Value.int IntKind.u8 2); refine (hT.put 2 yb (by decide) y3).mono ?_; clear hT; rintro e w9 ⟨rfl, hT⟩)
                | (go_at_call 26; refine hT.half.mono ?_; clear hT; rintro e w10 ⟨rfl, hT⟩))
              go_roundw
              case rel => exact ⟨k + 1, _, by omega, by go_num, by push_cast; exact hNx2, hT⟩
              case measure => simp [intOf]; omega
            · go_wp2_with (first
                | (go_at_call 25; refine hL.mono ?_; rintro e w5 ⟨rfl, rfl⟩)
                | (go_at_call 26; refine hT.half.mono ?_; clear hT; rintro e w10 ⟨rfl, hT⟩))
              go_roundw
              case rel => exact ⟨k + 1, _, by omega, by go_num, by push_cast; exact hNx, hT⟩
              case measure => simp [intOf]; omega
          · have t1 : ¬ (k : Int) < nA := by omega
            go_wp2_with (first
              | (go_at_call 25; refine hL.mono ?_; rintro e w5 ⟨rfl, rfl⟩)
              | (go_at_call 26; refine hT.half.mono ?_; clear hT; rintro e w10 ⟨rfl, hT⟩))
            go_roundw
            case rel => exact ⟨k + 1, _, by omega, by go_num, by push_cast; exact hNx, hT⟩
            case measure => simp [intOf]; omega
      · have t0 : ¬ (k : Int) < 300 := by omega
        go_wp2_with (first
          | (go_at_call 16; refine (hT.en false).mono ?_; clear hT; rintro e w5 ⟨rfl, hT⟩; have hL := hT.live; rw [show decide (0 < (enT s false).len) = false from rfl] at hL)
          | (go_at_call 25; refine hL.mono ?_; rintro e w6 ⟨rfl, rfl⟩))
        go_ret
        exact ⟨rfl, hend _ _ hT⟩

end Go.Proofs.YtniclofgnmgmfaaDoor
