/- SoundAsks' walk. No law is claimed here. -/
import Derived.Test.YtghldekcnanciaaDoorSd9
namespace Go.Proofs.YtghldekcnanciaaDoor
open Go.RowKit

theorem smp_keep (s : SS) : (smpS s).cnt = s.cnt ∧ (smpS s).frq = s.frq ∧ (smpS s).sec = s.sec ∧ (smpS s).inh = s.inh ∧ (smpS s).req = s.req := by
  unfold smpS bitS plyS refS
  (repeat' split) <;> exact ⟨rfl, rfl, rfl, rfl, rfl⟩
theorem clk_keep (s : SS) : (clkS s).cnt = (if s.cnt + 1 = lastS s + 1 then 0 else s.cnt + 1) ∧ (clkS s).frq = (if s.cnt + 1 = lastS s ∧ s.sec = false ∧ s.inh = false then true else s.frq) ∧ (clkS s).sec = s.sec ∧ (clkS s).inh = s.inh ∧ (clkS s).req = s.req :=
  smp_keep { frcS s with odd := !s.odd }

/-- a unit k cycles behind the write of b to its frame, of which q were seen asking -/
structure AI (b : Int) (look : Bool) (k : Int) (s : SS) (q : Int) : Prop where
  req : s.req = false
  sec : s.sec = decide (128 ≤ b)
  inh : s.inh = decide (b / 64 % 2 = 1)
  cnt : b < 64 → s.cnt = k % 29830
  frq : s.frq = (!look && decide (b < 64) && decide (29829 ≤ k))
  qq : q = if look = true ∧ b < 64 then (k + 1) / 29830 else 0
theorem AI.first (b : Int) (look : Bool) : AI b look 0 (uS newS 16407 b) 0 := by
  rw [show uS newS 16407 b = frpS newS b from by simp [uS]]
  refine ⟨rfl, rfl, rfl, fun _ => rfl, ?_, ?_⟩
  · show (if b / 64 % 2 = 1 then false else false) = _
    simp
  · split <;> rfl
theorem lastS_A {s : SS} {b : Int} (h : s.sec = decide (128 ≤ b)) (hb : b < 64) : lastS s = 29829 := by
  unfold lastS; rw [h, show decide (128 ≤ b) = false from by simp; omega]; rfl
/-- a cycle in which the frame doesn't ask, or isn't looked at -/
theorem AI.next {b k q : Int} {look : Bool} {s : SS} (h : AI b look k s q) (hk : 0 ≤ k) (hb : 0 ≤ b ∧ b < 256) (hq : look = true → ¬ (b < 64 ∧ (k + 1) % 29830 = 29829)) : AI b look (k + 1) (clkS s) q := by
  obtain ⟨h1, h2, h3, h4, h5, h6⟩ := h
  obtain ⟨e1, e2, e3, e4, e5⟩ := clk_keep s
  rcases (by omega : b < 64 ∨ 64 ≤ b) with hA | hB
  · have hl := lastS_A h2 hA
    have hc := h4 hA
    have hs : s.sec = false := by rw [h2]; simp; omega
    have hi : s.inh = false := by rw [h3]; simp; omega
    rw [hl, hc] at e1 e2
    refine ⟨e5.trans h1, e3.trans h2, e4.trans h3, fun _ => ?_, ?_, ?_⟩
    · rw [e1]; split <;> omega
    · rw [e2, h5]
      cases look
      · by_cases hh : k % 29830 + 1 = 29829
        · rw [if_pos ⟨hh, hs, hi⟩]
          simp; omega
        · rw [if_neg (fun hx => hh hx.1)]
          have : (29829 ≤ k + 1) ↔ (29829 ≤ k) := by omega
          simp [this]
      · have := hq rfl
        rw [if_neg (fun hx => this ⟨hA, by omega⟩)]
        rfl
    · rw [h6]
      cases look
      · simp
      · have := hq rfl
        rw [if_pos ⟨rfl, hA⟩, if_pos ⟨rfl, hA⟩]
        have : ¬ (k + 1) % 29830 = 29829 := fun hx => this ⟨hA, hx⟩
        omega
  · have hn : ¬ (s.sec = false ∧ s.inh = false) := by
      rw [h2, h3]; simp only [decide_eq_false_iff_not]; omega
    refine ⟨e5.trans h1, e3.trans h2, e4.trans h3, fun hx => by omega, ?_, ?_⟩
    · rw [e2, if_neg (fun hx => hn hx.2), h5, show decide (b < 64) = false from by simp; omega]; simp
    · rw [h6, if_neg (fun hx => by omega), if_neg (fun hx => by omega)]
/-- a cycle in which it asks, and is asked -/
theorem AI.hit {b k q : Int} {s : SS} (h : AI b true k s q) (_hk : 0 ≤ k) (hb : 0 ≤ b ∧ b < 64) (hq : (k + 1) % 29830 = 29829) : (clkS s).frq = true ∧ (clkS s).req = false ∧ AI b true (k + 1) { clkS s with frq := false } (q + 1) := by
  obtain ⟨h1, h2, h3, h4, h5, h6⟩ := h
  obtain ⟨e1, e2, e3, e4, e5⟩ := clk_keep s
  have hl := lastS_A h2 hb.2
  have hc := h4 hb.2
  have hs : s.sec = false := by rw [h2]; simp; omega
  have hi : s.inh = false := by rw [h3]; simp; omega
  rw [hl, hc] at e1 e2
  refine ⟨by rw [e2, if_pos ⟨by omega, hs, hi⟩], e5.trans h1, e5.trans h1, e3.trans h2, e4.trans h3, fun _ => ?_, rfl, ?_⟩
  · show (clkS s).cnt = _
    rw [e1]; split <;> omega
  · rw [h6, if_pos ⟨rfl, hb.2⟩, if_pos ⟨rfl, hb.2⟩]; omega
theorem getB_64 {s : SS} (σ : Nat → TS) (h1 : s.frq = true) (h2 : s.req = false) : bits .and .u8 (getB s σ) 64 = 64 := by
  have hb : 0 ≤ stB σ 4 ∧ stB σ 4 < 16 := stB_b σ 4
  obtain ⟨x, hx, bx⟩ : ∃ x, getB s σ = x + 64 ∧ (0 ≤ x ∧ x < 32) := ⟨stB σ 4 + (if 0 < s.rem then 16 else 0), by unfold getB; rw [h1, h2]; simp, by split <;> omega⟩
  rw [hx]
  rcases b64 (x + 64) (by omega) with ⟨k, _⟩ | ⟨_, k⟩
  · omega
  · exact k
theorem b192 (c : Int) (h : 0 ≤ c ∧ c < 256) : (c < 64 ∧ bits .and .u8 c 192 = 0) ∨ (64 ≤ c ∧ (bits .and .u8 c 192 == 0) = false) := by
  have k : ∀ n : Fin 256, ((n.val : Int) < 64 ∧ bits .and .u8 (n.val : Int) 192 = 0) ∨ (64 ≤ (n.val : Int) ∧ (bits .and .u8 (n.val : Int) 192 == 0) = false) := by decide +kernel
  have := k ⟨c.toNat, by omega⟩; rwa [show ((⟨c.toNat, by omega⟩ : Fin 256).val : Int) = c from Int.toNat_of_nonneg h.1] at this

set_option maxRecDepth 100000 in
set_option maxHeartbeats 4000000 in
theorem soundAsks_look (b n : Int) (w : World) (hb : 0 ≤ b ∧ b < 256) (hn : 0 ≤ n ∧ n < 65536) (hg : gs w) :
    Calls Tryd.prog 5 #[.int .u8 b, .int .u16 n, .bool true] w fun e w' => e = .returned (.bool true) ∧ Below w.heap.size w w' := by
  have FA := awake12_any w hg.l
  have FN := fun w (hg : gs w) => sdnew_any true w hg.l (fun _ => hg.r)
  have hI := AI.first b true
  generalize newS = s0 at *
  generalize newσ = σ0 at *
  generalize hs1 : uS s0 16407 b = s1 at hI
  go_enter Tryd.func5, Tryd.ntmps5
  go_upto_region 5 with (first
    | (go_at_call 10; refine FA.mono ?_; rintro e w1 ⟨rfl, b0⟩; have g1 := hg.below b0)
    | (go_at_call 11; refine (FN _ g1).mono ?_; rintro e w2 ⟨w1, p, rfl, bn, hT⟩)
    | (go_at_call 15; refine (hT.Put 16407 b hb).mono ?_; clear hT; rintro e w3 ⟨rfl, hT⟩))
  rw [hs1] at hT
  have b1 := b0.trans (bn.mono b0.size)
  clear FA FN g1 b0 bn hs1
  generalize uT σ0 16407 b = σ1 at *
  go_upto_region 8 with (fail)
  go_loopw [9, 10] (fun qv iv wr => ∃ (k : Nat) (s : SS) (σ : Nat → TS) (q : Int), (k : Int) ≤ n + 1 ∧ iv = .int .i64 ((k : Int) + 1) ∧ qv = .int .i64 q ∧ AI b true k s q ∧ SW true w1 w1.heap.size p s σ wr) (fun _ iv _ => (n + 2).toNat - (intOf iv).toNat)
  case atStart => exact ⟨0, s1, σ1, 0, by omega, rfl, rfl, hI, hT⟩
  case round =>
    clear hT hI
    obtain ⟨k, s, σ, q, hk, rfl, rfl, hI, hT⟩ := hrel
    by_cases hkn : (k : Int) < n + 1
    · have t1 : (k : Int) + 1 ≤ n + 1 := by omega
      have hq0 : 0 ≤ q ∧ q ≤ (k + 1) := by have := hI.qq; split at this <;> omega
      by_cases hh : b < 64 ∧ ((k : Int) + 1) % 29830 = 29829
      · obtain ⟨f1, f2, hJ⟩ := hI.hit (by omega) ⟨hb.1, hh.1⟩ hh.2
        have hm := hh.2
        have hG := getB_64 (clkT s σ) f1 f2
        have FC := hT.Clock
        clear hT
        generalize clkS s = s' at *
        generalize clkT s σ = σ' at *
        clear hI hh
        go_wp2_with (first
          | (go_at_call 17; refine FC.mono ?_; clear FC; rintro e w4 ⟨rfl, hT⟩; have FI := hT.IRQ; rw [f1, f2] at FI)
          | (go_at_call 19; refine FI.mono ?_; clear FI; rintro e w5 ⟨rfl, rfl⟩; have FG := hT.Get)
          | (go_at_call 22; refine FG.mono ?_; clear FG hT; rintro e w6 ⟨rfl, hT⟩))
        go_roundw
        case rel => exact ⟨k + 1, _, _, q + 1, by omega, by go_num, by go_num, by push_cast; exact hJ, hT⟩
        case measure => simp [intOf]; omega
      · have hJ := hI.next (by omega) hb (fun _ => hh)
        have f1 : (clkS s).frq = false := by rw [hJ.frq]; rfl
        have f2 := hJ.req
        have FC := hT.Clock
        clear hT
        generalize clkS s = s' at *
        generalize clkT s σ = σ' at *
        clear hI hh
        go_wp2_with (first
          | (go_at_call 17; refine FC.mono ?_; clear FC; rintro e w4 ⟨rfl, hT⟩; have FI := hT.IRQ; rw [f1, f2] at FI)
          | (go_at_call 19; refine FI.mono ?_; clear FI; rintro e w5 ⟨rfl, rfl⟩))
        go_roundw
        case rel => exact ⟨k + 1, _, _, q, by omega, by go_num, rfl, by push_cast; exact hJ, hT⟩
        case measure => simp [intOf]; omega
    · have hkN : (k : Int) = n + 1 := by omega
      have hend : Below w.heap.size w wr := b1.trans (hT.bel.mono b1.size)
      have FI := hT.IRQ
      have f1 : s.frq = false := by rw [hI.frq]; rfl
      rw [f1, hI.req] at FI
      have hq := hI.qq
      clear hT hI hk f1
      rcases b192 b hb with ⟨c1, c2⟩ | ⟨c1, c2⟩
      · rw [if_pos ⟨rfl, c1⟩, hkN] at hq
        subst hq
        go_wp2_with (go_at_call 19; refine FI.mono ?_; clear FI; rintro e w5 ⟨rfl, rfl⟩)
        go_ret
        refine ⟨?_, hend⟩
        first | rfl | (simp; done) | (simp; omega)
      · rw [if_neg (fun hx => by omega)] at hq
        subst hq
        go_wp2_with (go_at_call 19; refine FI.mono ?_; clear FI; rintro e w5 ⟨rfl, rfl⟩)
        go_ret
        refine ⟨?_, hend⟩
        first | rfl | (simp; done) | (simp; omega)

set_option maxRecDepth 100000 in
set_option maxHeartbeats 4000000 in
theorem soundAsks_not (b n : Int) (w : World) (hb : 0 ≤ b ∧ b < 256) (hn : 0 ≤ n ∧ n < 65536) (hg : gs w) :
    Calls Tryd.prog 5 #[.int .u8 b, .int .u16 n, .bool false] w fun e w' => e = .returned (.bool true) ∧ Below w.heap.size w w' := by
  have FA := awake12_any w hg.l
  have FN := fun w (hg : gs w) => sdnew_any true w hg.l (fun _ => hg.r)
  have hI := AI.first b false
  generalize newS = s0 at *
  generalize newσ = σ0 at *
  generalize hs1 : uS s0 16407 b = s1 at hI
  go_enter Tryd.func5, Tryd.ntmps5
  go_upto_region 5 with (first
    | (go_at_call 10; refine FA.mono ?_; rintro e w1 ⟨rfl, b0⟩; have g1 := hg.below b0)
    | (go_at_call 11; refine (FN _ g1).mono ?_; rintro e w2 ⟨w1, p, rfl, bn, hT⟩)
    | (go_at_call 15; refine (hT.Put 16407 b hb).mono ?_; clear hT; rintro e w3 ⟨rfl, hT⟩))
  rw [hs1] at hT
  have b1 := b0.trans (bn.mono b0.size)
  clear FA FN g1 b0 bn hs1
  generalize uT σ0 16407 b = σ1 at *
  go_upto_region 8 with (fail)
  go_loopw [9, 10] (fun qv iv wr => ∃ (k : Nat) (s : SS) (σ : Nat → TS) (q : Int), (k : Int) ≤ n + 1 ∧ iv = .int .i64 ((k : Int) + 1) ∧ qv = .int .i64 q ∧ AI b false k s q ∧ SW true w1 w1.heap.size p s σ wr) (fun _ iv _ => (n + 2).toNat - (intOf iv).toNat)
  case atStart => exact ⟨0, s1, σ1, 0, by omega, rfl, rfl, hI, hT⟩
  case round =>
    clear hT hI
    obtain ⟨k, s, σ, q, hk, rfl, rfl, hI, hT⟩ := hrel
    by_cases hkn : (k : Int) < n + 1
    · have t1 : (k : Int) + 1 ≤ n + 1 := by omega
      have hJ := hI.next (by omega) hb (fun hx => by cases hx)
      have FC := hT.Clock
      clear hT
      generalize clkS s = s' at *
      generalize clkT s σ = σ' at *
      clear hI
      go_wp2_with (go_at_call 17; refine FC.mono ?_; clear FC; rintro e w4 ⟨rfl, hT⟩)
      go_roundw
      case rel => exact ⟨k + 1, _, _, q, by omega, by go_num, rfl, by push_cast; exact hJ, hT⟩
      case measure => simp [intOf]; omega
    · have hkN : (k : Int) = n + 1 := by omega
      have hend : Below w.heap.size w wr := b1.trans (hT.bel.mono b1.size)
      have FI := hT.IRQ
      have f1 : s.frq = (decide (b < 64) && decide (29829 ≤ n + 1)) := by rw [hI.frq, hkN]; rfl
      rw [f1, hI.req] at FI
      clear hT hI hk f1
      rcases b192 b hb with ⟨c1, c2⟩ | ⟨c1, c2⟩
      · rcases (by omega : 29829 ≤ n + 1 ∨ ¬ 29829 ≤ n + 1) with hz | hz
        · have e0 : (decide (b < 64) && decide (29829 ≤ n + 1) || false) = true := by simp; omega
          have e1 : 0 < (n + 1 + 1) / 29830 := by omega
          rw [e0] at FI
          clear e0
          go_wp2_with (go_at_call 19; refine FI.mono ?_; clear FI; rintro e w5 ⟨rfl, rfl⟩)
          go_ret
          refine ⟨?_, hend⟩
          first | rfl | (simp; done) | (simp; omega)
        · have e0 : (decide (b < 64) && decide (29829 ≤ n + 1) || false) = false := by simp; omega
          have e1 : (n + 1 + 1) / 29830 = 0 := by omega
          rw [e0] at FI
          clear e0
          go_wp2_with (go_at_call 19; refine FI.mono ?_; clear FI; rintro e w5 ⟨rfl, rfl⟩)
          go_ret
          refine ⟨?_, hend⟩
          first | rfl | (simp; done) | (simp; omega)
      · have e0 : (decide (b < 64) && decide (29829 ≤ n + 1) || false) = false := by simp; omega
        rw [e0] at FI
        clear e0
        go_wp2_with (go_at_call 19; refine FI.mono ?_; clear FI; rintro e w5 ⟨rfl, rfl⟩)
        go_ret
        refine ⟨?_, hend⟩
        first | rfl | (simp; done) | (simp; omega)

theorem soundAsks_walk (b n : Int) (look : Bool) (w : World) (hb : 0 ≤ b ∧ b < 256) (hn : 0 ≤ n ∧ n < 65536) (hg : gs w) :
    Calls Tryd.prog 5 #[.int .u8 b, .int .u16 n, .bool look] w fun e w' => e = .returned (.bool true) ∧ Below w.heap.size w w' := by
  cases look
  · exact soundAsks_not b n w hb hn hg
  · exact soundAsks_look b n w hb hn hg

end Go.Proofs.YtghldekcnanciaaDoor
