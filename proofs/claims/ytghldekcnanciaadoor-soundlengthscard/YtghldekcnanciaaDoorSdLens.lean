/- SoundLengths' walk. No law is claimed here. -/
import Derived.Test.YtghldekcnanciaaDoorSd9
namespace Go.Proofs.YtghldekcnanciaaDoor
open Go.RowKit

set_option maxRecDepth 100000 in
set_option maxHeartbeats 4000000 in
/-- lengths as the document has them -/
theorem r11len_any (k : Int) (w : World) (hk : 0 ≤ k ∧ k < 32) :
    Calls Tryd.prog 26 #[.int .i64 k] w fun e w' => e = .returned (.int .i64 (at0 lenL k)) ∧ Ext w w' := by
  obtain ⟨j, rfl⟩ := nat_of k hk.1
  have hj : j < 32 := by omega
  clear hk
  have : j = 0 ∨ j = 1 ∨ j = 2 ∨ j = 3 ∨ j = 4 ∨ j = 5 ∨ j = 6 ∨ j = 7 ∨ j = 8 ∨ j = 9 ∨ j = 10 ∨ j = 11 ∨ j = 12 ∨ j = 13 ∨ j = 14 ∨ j = 15 ∨ j = 16 ∨ j = 17 ∨ j = 18 ∨ j = 19 ∨ j = 20 ∨ j = 21 ∨ j = 22 ∨ j = 23 ∨ j = 24 ∨ j = 25 ∨ j = 26 ∨ j = 27 ∨ j = 28 ∨ j = 29 ∨ j = 30 ∨ j = 31 := by omega
  rcases this with rfl | rfl | rfl | rfl | rfl | rfl | rfl | rfl | rfl | rfl | rfl | rfl | rfl | rfl | rfl | rfl | rfl | rfl | rfl | rfl | rfl | rfl | rfl | rfl | rfl | rfl | rfl | rfl | rfl | rfl | rfl | rfl
  all_goals
    go_enter Tryd.func26, Tryd.ntmps26
    go_wp2
    go_ret
    exact ⟨rfl, (Ext.refl _).alloc _⟩
theorem lenL_2 (k : Int) (h : 0 ≤ k ∧ k < 32) : 2 ≤ at0 lenL k ∧ at0 lenL k < 256 := by
  have q : ∀ n : Fin 32, 2 ≤ at0 lenL (n.val : Int) ∧ at0 lenL (n.val : Int) < 256 := by decide
  have := q ⟨k.toNat, by omega⟩; rwa [show ((⟨k.toNat, by omega⟩ : Fin 32).val : Int) = k from Int.toNat_of_nonneg h.1] at this

/-- the tones behind k writes of their lengths -/
structure PI (on L : Int) (k : Nat) (σ : Nat → TS) : Prop where
  ctl : ∀ j, j < 4 → (σ j).ctl = 0
  en : ∀ j, j < 4 → (σ j).en = bitB on j
  len : ∀ j, j < 4 → (σ j).len = if j < k ∧ bitB on j = true then L else 0
theorem PI.first (on L : Int) : PI on L 0 (uT newσ 16405 on) := by
  rw [show uT newσ 16405 on = stpT (fun k t => enT t (bitB on k)) newσ 4 from by simp [uT]]
  have e : ∀ j, j < 4 → stpT (fun k t => enT t (bitB on k)) newσ 4 j = enT (newT j) (bitB on j) := fun j hj => by unfold stpT newσ; rw [if_pos hj]
  have hc : ∀ j : Nat, (newT (j : Int)).ctl = 0 ∧ (newT (j : Int)).len = 0 := fun j => by unfold newT; exact ⟨rfl, rfl⟩
  refine ⟨fun j hj => ?_, fun j hj => ?_, fun j hj => ?_⟩
  · rw [e j hj]; exact (hc j).1
  · rw [e j hj]; rfl
  · rw [e j hj, if_neg (by omega)]
    show (if bitB on j then (newT j).len else 0) = 0
    rw [(hc j).2]; split <;> rfl
theorem PI.next {on L c : Int} {k : Nat} {σ : Nat → TS} (h : PI on L k σ) (hk : k < 4) (hL : at0 lenL (c / 8) = L) : PI on L (k + 1) (updT σ k (putT (σ k) 3 c)) := by
  have hp : putT (σ k) 3 c = put3 (σ k) c := rfl
  refine ⟨fun j hj => ?_, fun j hj => ?_, fun j hj => ?_⟩
  · by_cases e : j = k
    · subst e; rw [updT_same, hp]; exact h.ctl j hj
    · rw [updT_other _ _ _ _ e]; exact h.ctl j hj
  · by_cases e : j = k
    · subst e; rw [updT_same, hp]; exact h.en j hj
    · rw [updT_other _ _ _ _ e]; exact h.en j hj
  · by_cases e : j = k
    · subst e; rw [updT_same, hp]
      show (if (σ j).en then at0 lenL (c / 8) else (σ j).len) = _
      have hjj : ¬ (j < j ∧ bitB on j = true) := fun hx => Nat.lt_irrefl _ hx.1
      rw [h.en j hj, h.len j hj, hL, if_neg hjj]
      cases bitB on j <;> simp
    · rw [updT_other _ _ _ _ e, h.len j hj]
      by_cases h1 : j < k
      · have : j < k + 1 := by omega
        simp [h1, this]
      · have : ¬ j < k + 1 := by omega
        simp [h1, this]
/-- the tones behind m halves -/
structure HI (on L m : Int) (σ : Nat → TS) : Prop where
  ctl : ∀ j, j < 4 → (σ j).ctl = 0
  len : ∀ j, j < 4 → (σ j).len = if bitB on j = true ∧ m < L then L - m else 0
theorem PI.halves {on L : Int} {σ : Nat → TS} (h : PI on L 4 σ) (hL : 0 < L) : HI on L 0 σ :=
  ⟨h.ctl, fun j hj => by rw [h.len j hj]; cases bitB on j <;> simp [hj, hL]⟩
theorem swp_keep (t : TS) : (sweepT t).ctl = t.ctl ∧ (sweepT t).len = t.len := by
  unfold sweepT countT; simp only; split <;> exact ⟨rfl, rfl⟩
theorem qua_keep (t : TS) : (quaT t).ctl = t.ctl ∧ (quaT t).len = t.len ∧ (quaT t).kind = t.kind := by
  unfold quaT linT envT
  (repeat' split) <;> exact ⟨rfl, rfl, rfl⟩
theorem half_len (t : TS) (h : t.ctl = 0) : (halfT t).ctl = 0 ∧ (halfT t).len = if 0 < t.len then t.len - 1 else t.len := by
  have hh : haltT t = false := by unfold haltT; rw [h]; split <;> rfl
  have e : (lenT t).ctl = 0 ∧ (lenT t).len = if 0 < t.len then t.len - 1 else t.len := by
    unfold lenT
    rw [hh]
    by_cases k : 0 < t.len
    · rw [if_pos ⟨k, rfl⟩, if_pos k]; exact ⟨h, rfl⟩
    · rw [if_neg (fun x => k x.1), if_neg k]; exact ⟨h, rfl⟩
  unfold halfT
  split
  · obtain ⟨s1, s2⟩ := swp_keep (lenT t)
    exact ⟨s1.trans e.1, s2.trans e.2⟩
  · exact e
theorem HI.next {on L m : Int} {σ : Nat → TS} (h : HI on L m σ) : HI on L (m + 1) (uT σ 16407 192) := by
  rw [show uT σ 16407 192 = qhT σ from by simp [uT]]
  have e : ∀ j, j < 4 → qhT σ j = halfT (quaT (σ j)) := fun j hj => by unfold qhT stpT; simp only [if_pos hj]
  refine ⟨fun j hj => ?_, fun j hj => ?_⟩
  · rw [e j hj]; exact (half_len _ ((qua_keep (σ j)).1.trans (h.ctl j hj))).1
  · rw [e j hj, (half_len _ ((qua_keep (σ j)).1.trans (h.ctl j hj))).2, (qua_keep (σ j)).2.1, h.len j hj]
    cases bitB on j
    · simp
    · simp only [true_and]
      (repeat' split) <;> omega
theorem HI.bits {on L m : Int} {σ : Nat → TS} (h : HI on L m σ) (_ho : 0 ≤ on) : stB σ 4 = if m < L then on % 16 else 0 := by
  have g : ∀ k, k < 4 → stB σ (k + 1) = if m < L then stB σ k + on / 2 ^ k % 2 * 2 ^ k else stB σ k := fun k hk => by
    show (if 0 < (σ k).len then stB σ k + 2 ^ k else stB σ k) = _
    have hl := h.len k hk
    by_cases hb : bitB on k = true ∧ m < L
    · have l1 : 0 < (σ k).len := by rw [hl, if_pos hb]; omega
      have e : on / 2 ^ k % 2 = 1 := by have := hb.1; unfold bitB at this; simpa using this
      rw [if_pos l1, if_pos hb.2, e, Int.one_mul]
    · have l0 : ¬ 0 < (σ k).len := by rw [hl, if_neg hb]; omega
      rw [if_neg l0]
      by_cases hm : m < L
      · have e : on / 2 ^ k % 2 = 0 := by
          have : ¬ bitB on k = true := fun x => hb ⟨x, hm⟩
          unfold bitB at this; simp at this; omega
        rw [if_pos hm, e, Int.zero_mul, Int.add_zero]
      · rw [if_neg hm]
  have g0 := g 0 (by decide)
  have g1 := g 1 (by decide)
  have g2 := g 2 (by decide)
  have g3 := g 3 (by decide)
  have z : stB σ 0 = 0 := rfl
  by_cases hm : m < L
  · rw [if_pos hm] at g0 g1 g2 g3 ⊢
    simp only [show (2 : Int) ^ 0 = 1 from rfl, show (2 : Int) ^ 1 = 2 from rfl, show (2 : Int) ^ 2 = 4 from rfl, show (2 : Int) ^ 3 = 8 from rfl, Nat.zero_add, Nat.reduceAdd] at g0 g1 g2 g3
    omega
  · rw [if_neg hm] at g0 g1 g2 g3 ⊢
    simp only [Nat.zero_add, Nat.reduceAdd] at g0 g1 g2 g3
    omega
theorem getB_15 (s : SS) (σ : Nat → TS) : bits .and .u8 (getB s σ) 15 = stB σ 4 := by
  have hb : 0 ≤ stB σ 4 ∧ stB σ 4 < 16 := stB_b σ 4
  have hG : (0 ≤ getB s σ ∧ getB s σ < 256) ∧ getB s σ % 16 = stB σ 4 := by
    unfold getB
    (repeat' split) <;> omega
  rw [l15 _ hG.1, hG.2]

set_option maxRecDepth 100000 in
set_option maxHeartbeats 1000000 in
theorem soundLengths_walk (on nu fr : Int) (w : World) (hon : 0 ≤ on ∧ on < 256) (hnu : 0 ≤ nu ∧ nu < 256) (hfr : 0 ≤ fr ∧ fr < 256) (hg : gl w) :
    Calls Tryd.prog 8 #[.int .u8 on, .int .u8 nu, .int .u8 fr] w fun e w' => e = .returned (.bool true) ∧ Below w.heap.size w w' := by
  have FA := awake12_any w hg
  have FN := fun w (hg : gl w) => sdnew_any false w hg (fun e => by cases e)
  obtain ⟨nb, hnb⟩ : ∃ nb, IntKind.u8.wrap (nu * 8) = nb := ⟨_, rfl⟩
  obtain ⟨nm, hnm⟩ : ∃ nm, nu % 32 = nm := ⟨_, rfl⟩
  have b1n : nb = nm * 8 := by rw [← hnb, wrap_u8_mod]; omega
  have b2n : 0 ≤ nm ∧ nm < 32 := by omega
  have b3n : 0 ≤ nb ∧ nb < 256 := by omega
  obtain ⟨W, hW⟩ : ∃ W, at0 lenL nm = W := ⟨_, rfl⟩
  have hWp := lenL_2 nm b2n
  rw [hW] at hWp
  have FL := fun w => r11len_any nm w b2n
  rw [hW] at FL
  have hWc : at0 lenL (nb / 8) = W := by rw [show nb / 8 = nm by omega]; exact hW
  have hI := PI.first on W
  have zo := l15 on hon
  generalize newS = s0 at *
  generalize newσ = σ0 at *
  generalize hs1 : uT σ0 16405 on = σ1 at hI
  clear b1n hW
  go_enter Tryd.func8, Tryd.ntmps8
  go_upto_region 5 with (first
    | (go_at_call 10; refine FA.mono ?_; rintro e w1 ⟨rfl, b0⟩; have g1 := hg.below b0)
    | (go_at_call 11; refine (FN _ g1).mono ?_; rintro e w2 ⟨w1, p, rfl, bn, hT⟩)
    | (go_at_call 15; refine (hT.Put 16405 on hon).mono ?_; clear hT; rintro e w3 ⟨rfl, hT⟩))
  rw [hs1] at hT
  have b1 := b0.trans (bn.mono b0.size)
  clear FA FN g1 b0 bn hs1
  generalize uS s0 16405 on = s1 at *
  go_wp2
  go_loopw [18] (fun iv wr => ∃ (k : Nat) (s : SS) (σ : Nat → TS), k ≤ 4 ∧ iv = .int .u16 k ∧ PI on W k σ ∧ SW false w1 w1.heap.size p s σ wr) (fun iv _ => 4 - (intOf iv).toNat)
  case atStart => exact ⟨0, s1, σ1, by decide, rfl, hI, hT⟩
  case round =>
    clear hT hI
    obtain ⟨k, s, σ, hk, rfl, hI, hT⟩ := hrel
    by_cases h4 : k < 4
    · have hJ := hI.next h4 hWc
      have FP : Calls Tryd.prog 15 #[.pointer (some ⟨w1.heap.size, 0, none⟩), .int .u16 (16387 + 4 * k), .int .u8 nb] wr fun e w' => e = .returned (.tuple #[]) ∧ ∃ s', SW false w1 w1.heap.size p s' (updT σ k (putT (σ k) 3 nb)) w' := by
        refine (hT.Put (16387 + 4 * k) nb b3n).mono ?_
        rintro e w' ⟨rfl, h⟩
        refine ⟨rfl, uS s (16387 + 4 * k) nb, ?_⟩
        have e : uT σ (16387 + 4 * k) nb = updT σ k (putT (σ k) 3 nb) := by
          unfold uT
          rw [if_pos (by omega), show ((16387 + 4 * (k : Int) - 16384) / 4).toNat = k by omega, show (16387 + 4 * (k : Int)) % 4 = 3 by omega]
        rw [e] at h
        exact h
      clear hI hT
      rcases (by omega : k = 0 ∨ k = 1 ∨ k = 2 ∨ k = 3) with rfl | rfl | rfl | rfl
      all_goals
        go_wp2_with (go_at_call 15; refine FP.mono ?_; clear FP; rintro e w4 ⟨rfl, s', hT⟩)
        go_roundw
        case rel => exact ⟨_, _, _, by decide, rfl, hJ, hT⟩
        case measure => simp [intOf]
    · obtain rfl : k = 4 := by omega
      replace hI := hI.halves (by omega)
      clear h4 hk hnb hWc
      go_upto_region 12 with (go_at_call 26; refine (FL _).mono ?_; rintro e w7 ⟨rfl, hE⟩; replace hT := hT.past hE.below; clear hE)
      go_wp2
      obtain ⟨N, hN⟩ : ∃ N, fr % 20 = N := ⟨_, rfl⟩
      have bN : 0 ≤ N ∧ N < 20 := by omega
      rw [hN]
      clear hN FL hnm
      go_loopw [37] (fun iv wr => ∃ (m : Nat) (s : SS) (σ : Nat → TS), (m : Int) ≤ N ∧ iv = .int .i64 m ∧ HI on W m σ ∧ SW false w1 w1.heap.size p s σ wr) (fun iv _ => N.toNat - (intOf iv).toNat)
      case atStart => exact ⟨0, s, σ, by omega, rfl, hI, hT⟩
      case round =>
        clear hT hI
        obtain ⟨m, s, σ, hm, rfl, hI, hT⟩ := hrel
        by_cases hmN : (m : Int) < N
        · have hJ := hI.next
          generalize hσ : uT σ 16407 192 = σ' at hJ
          have FP := hT.Put 16407 192 (by decide)
          rw [hσ] at FP
          clear hI hT hσ
          go_wp2_with (go_at_call 15; refine FP.mono ?_; clear FP; rintro e w4 ⟨rfl, hT⟩)
          go_roundw
          case rel => exact ⟨m + 1, _, _, by omega, by go_num, by push_cast; exact hJ, hT⟩
          case measure => simp [intOf]; omega
        · have hmn : (m : Int) = N := by omega
          rw [hmn] at hI
          have hB := hI.bits hon.1
          have hG := getB_15 s σ
          rw [hB] at hG
          have FG := hT.Get
          have hend : ∀ v, SW false w1 w1.heap.size p { s with frq := false } σ v → Below w.heap.size w v := fun v h => b1.trans (h.bel.mono b1.size)
          generalize getB s σ = G at *
          clear hT hI hB hm hmn
          rcases (by omega : N < W ∨ ¬ N < W) with hz | hz
          · rw [if_pos hz] at hG
            go_wp2_with (go_at_call 22; refine FG.mono ?_; clear FG; rintro e w4 ⟨rfl, hT⟩)
            go_ret
            refine ⟨?_, hend _ hT⟩
            first | rfl | (simp; done) | (simp; omega)
          · rw [if_neg hz] at hG
            go_wp2_with (go_at_call 22; refine FG.mono ?_; clear FG; rintro e w4 ⟨rfl, hT⟩)
            go_ret
            refine ⟨?_, hend _ hT⟩
            first | rfl | (simp; done) | (simp; omega)

end Go.Proofs.YtghldekcnanciaaDoor
