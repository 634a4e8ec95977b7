/- The document's example of layer 16, and rows of bits (walks). No law is claimed here. -/
import Derived.Test.YtahoebnlihgobaaPad1
namespace Go.Proofs.Ytahoebnlihgobaa
open Go.RowKit

/-- the register behind k bits, the strobe off -/
def shf (b : Int) : Nat → Int
  | 0 => b
  | k + 1 => nxt (shf b k) false
def awk (j : Nat) : Int := ([1, 0, 0, 1, 0, 0, 0, 0, 1, 1] : List Int).getD j 0
theorem awk_ok : ∀ k : Fin 10, bits .and .u8 (shf 9 k.val) 1 = awk k.val := by decide +kernel
theorem lowOn_0 : lowOn 0 = false := by decide +kernel
theorem lowOn_1 : lowOn 1 = true := by decide +kernel
theorem sel_t (a b : Int) : sel true a b = a := rfl
theorem sel_f (a b : Int) : sel false a b = b := rfl

set_option maxRecDepth 100000 in
set_option maxHeartbeats 1000000 in
theorem l16awake_any (w : World) : Calls Try.prog 7 #[] w fun e w' => e = .returned (.bool true) ∧ Below w.heap.size w w' := by
  go_enter Try.func7, Try.ntmps7
  go_upto_region 2 with (go_at_call 8; refine (pnew_any _).mono ?_; rintro e w1 ⟨rfl, p1, x1⟩)
  go_upto_region 3 with (go_at_call 12; refine (phold_any _ _ _ _ _ _ p1).mono ?_; rintro e w2 ⟨rfl, p2, x2⟩)
  go_upto_region 4 with (go_at_call 10; refine (pput_any _ _ _ _ _ _ p2).mono ?_; rintro e w3 ⟨rfl, p3, x3⟩)
  go_upto_region 5 with (go_at_call 10; refine (pput_any _ _ _ _ _ _ p3).mono ?_; rintro e w4 ⟨rfl, p4, x4⟩)
  rw [lowOn_0, lowOn_1, sel_f, sel_t] at p4
  have b4 : Below w.heap.size w w4 := x4.below _ (Nat.le_refl _) _ (x3.below _ (Nat.le_refl _) _ (x2.below _ (Nat.le_refl _) _ x1.below))
  clear p1 p2 p3 x1 x2 x3 x4
  go_wp2
  have m4 : ∀ j, j < 10 → (w4.alloc (.cells #[.int .u8 1, .int .u8 0, .int .u8 0, .int .u8 1, .int .u8 0, .int .u8 0, .int .u8 0, .int .u8 0, .int .u8 1, .int .u8 1] 5)).cell? ⟨w4.heap.size, j, none⟩ = some (.int .u8 (awk j)) := fun j hj => by
    rw [cell_of_row _ _ _ _ _ _ (heap_alloc_new w4 _)]
    rcases j with _ | _ | _ | _ | _ | _ | _ | _ | _ | _ | j
    all_goals first | rfl | omega
  have l4 := p4.lt
  have HK : Hid (∀ k : Fin 10, bits .and .u8 (shf 9 k.val) 1 = awk k.val) := awk_ok
  go_loopw [13] (fun i wr => ∃ (k : Nat), k ≤ 10 ∧ i = .int .i64 k ∧ Pd wr w.heap.size 9 (shf 9 k) false ∧ Hid (∀ j, j < 10 → wr.cell? ⟨w4.heap.size, j, none⟩ = some (.int .u8 (awk j))) ∧ Below w.heap.size w wr) (fun i _ => 10 - (intOf i).toNat)
  case atStart => exact ⟨0, Nat.zero_le _, rfl, p4.alloc _, m4, b4.alloc b4.size _⟩
  case round =>
    obtain ⟨k, hk, rfl, hp, hm, hb⟩ := hrel
    by_cases h : k < 10
    · have hc := hm.out k h
      have t1 : (k : Int) < 10 := by omega
      have t2 : bits .and .u8 (shf 9 k) 1 = awk k := HK.out ⟨k, h⟩
      go_wp2_with (go_at_call 15; refine (pget_any _ _ _ _ _ hp).mono ?_; rintro e w' ⟨rfl, hq, hch⟩)
      go_roundw
      case rel => exact ⟨k + 1, by omega, by go_num, hq, fun j hj => (hch.cell _ (by simp; omega)).trans (hm.out j hj), hch.below _ (Nat.le_refl _) _ hb⟩
      case measure => simp [intOf]; omega
    · have t1 : ¬ ((k : Int) < 10) := by omega
      go_wp2
      go_ret
      exact ⟨rfl, hb⟩

/-- the bits that were told -/
def gotK (b : Int) : Nat → Int
  | 0 => 0
  | k + 1 => bits .or .u8 (gotK b k) (IntKind.u8.wrap (bits .and .u8 (shf b k) 1 * 2 ^ k))
theorem got_all : ∀ b : Fin 256, gotK (b.val : Int) 8 = (b.val : Int) ∧ shf (b.val : Int) 8 = 255 := by decide +kernel
theorem nxt_255 : nxt 255 false = 255 := by decide +kernel
theorem and_255 : bits .and .u8 255 1 = 1 := by decide +kernel
theorem got_8 (b : Int) (h : 0 ≤ b ∧ b < 256) : gotK b 8 = b ∧ shf b 8 = 255 := by
  obtain ⟨k, rfl⟩ : ∃ k : Nat, b = (k : Int) := ⟨b.toNat, by omega⟩
  exact got_all ⟨k, by omega⟩

set_option maxRecDepth 100000 in
set_option maxHeartbeats 2000000 in
theorem padRows_walk (b later more : Int) (w : World) (hb : 0 ≤ b ∧ b < 256) (_hl : 0 ≤ later ∧ later < 256) (hm : 0 ≤ more ∧ more < 256) :
    Calls Try.prog 4 #[.int .u8 b, .int .u8 later, .int .u8 more] w fun e w' => e = .returned (.bool true) ∧ Below w.heap.size w w' := by
  have G := got_8 b hb
  have g1 : Hid (gotK b 8 = b) := G.1
  have g2 : Hid (shf b 8 = 255) := G.2
  clear G
  go_enter Try.func4, Try.ntmps4
  go_upto_region 4 with (first | (go_at_call 7; refine (l16awake_any _).mono ?_; rintro e w0 ⟨rfl, x0⟩) | (go_at_call 8; refine (pnew_any _).mono ?_; rintro e w1 ⟨rfl, p1, x1⟩))
  go_upto_region 5 with (go_at_call 10; refine (pput_any _ _ _ _ _ _ p1).mono ?_; rintro e w2 ⟨rfl, p2, x2⟩)
  go_upto_region 6 with (go_at_call 12; refine (phold_any _ _ _ _ _ _ p2).mono ?_; rintro e w3 ⟨rfl, p3, x3⟩)
  go_upto_region 7 with (go_at_call 10; refine (pput_any _ _ _ _ _ _ p3).mono ?_; rintro e w4 ⟨rfl, p4, x4⟩)
  go_upto_region 8 with (go_at_call 12; refine (phold_any _ _ _ _ _ _ p4).mono ?_; rintro e w5 ⟨rfl, p5, x5⟩)
  rw [lowOn_0, lowOn_1, sel_f, sel_f, sel_t] at p5
  have z0 := x0.size
  have b5 : Below w.heap.size w w5 := x5.below _ z0 _ (x4.below _ z0 _ (x3.below _ z0 _ (x2.below _ z0 _ (x0.trans (x1.below.mono z0)))))
  clear p1 p2 p3 p4 x1 x2 x3 x4 x5
  go_wp2
  go_loopw [8, 23] (fun g i wr => ∃ (k : Nat), k ≤ 8 ∧ i = .int .i64 k ∧ g = .int .u8 (gotK b k) ∧ Pd wr w0.heap.size later (shf b k) false ∧ Below w.heap.size w wr) (fun _ i _ => 8 - (intOf i).toNat)
  case atStart => exact ⟨0, Nat.zero_le _, rfl, rfl, p5, b5⟩
  case round =>
    obtain ⟨k, hk, rfl, rfl, hp, hbb⟩ := hrel
    by_cases h : k < 8
    · have t1 : (k : Int) < 8 := by omega
      go_wp2_with (go_at_call 15; refine (pget_any _ _ _ _ _ hp).mono ?_; rintro e w' ⟨rfl, hq, hch⟩)
      go_roundw
      case rel => exact ⟨k + 1, by omega, by go_num, rfl, hq, hch.below _ z0 _ hbb⟩
      case measure => simp [intOf]; omega
    · have t1 : ¬ ((k : Int) < 8) := by omega
      have : k = 8 := by omega
      subst this
      rw [g2.out] at hp
      rw [g1.out]
      go_wp2
      clear hk t1
      go_loopw [34] (fun i wr => ∃ (k : Nat), (k : Int) ≤ more ∧ i = .int .u8 k ∧ Pd wr w0.heap.size later 255 false ∧ Below w.heap.size w wr) (fun i _ => more.toNat - (intOf i).toNat)
      case atStart => exact ⟨0, by omega, rfl, hp, hbb⟩
      case round =>
        obtain ⟨k, hk, rfl, hp, hbb⟩ := hrel
        by_cases h : (k : Int) < more
        · go_wp2_with (go_at_call 15; refine (pget_any _ _ _ _ _ hp).mono ?_; rw [and_255, nxt_255]; rintro e w' ⟨rfl, hq, hch⟩)
          go_roundw
          case rel => exact ⟨k + 1, by omega, by go_num, hq, hch.below _ z0 _ hbb⟩
          case measure => simp [intOf]; omega
        · go_wp2_with (go_at_call 16; refine (pheld_any _ _ _ _ _ hp).mono ?_; rintro e w' ⟨rfl, rfl⟩)
          go_ret
          exact ⟨rfl, hbb⟩

set_option maxRecDepth 100000 in
set_option maxHeartbeats 2000000 in
theorem padApart_walk (b n : Int) (w : World) (hb : 0 ≤ b ∧ b < 256) (hn : 0 ≤ n ∧ n < 256) :
    Calls Try.prog 6 #[.int .u8 b, .int .u8 n] w fun e w' => e = .returned (.bool true) ∧ Below w.heap.size w w' := by
  have G := got_8 b hb
  have g1 : Hid (gotK b 8 = b) := G.1
  clear G
  go_enter Try.func6, Try.ntmps6
  go_upto_region 7 with (first | (go_at_call 7; refine (l16awake_any _).mono ?_; rintro e w0 ⟨rfl, x0⟩) | (go_at_call 8; refine (pnew_any _).mono ?_; rintro e w1 ⟨rfl, p1, x1⟩) | (go_at_call 12; refine (phold_nil _ _).mono ?_; rintro e w' ⟨rfl, hq⟩; rw [hq]; clear hq w') | (go_at_call 10; refine (pput_nil _ _).mono ?_; rintro e w' ⟨rfl, hq⟩; rw [hq]; clear hq w'))
  go_upto_region 8 with (go_at_call 12; refine (phold_any _ _ _ _ _ _ p1).mono ?_; rintro e w2 ⟨rfl, p2, x2⟩)
  go_upto_region 9 with (go_at_call 10; refine (pput_any _ _ _ _ _ _ p2).mono ?_; rintro e w3 ⟨rfl, p3, x3⟩)
  go_upto_region 10 with (go_at_call 10; refine (pput_any _ _ _ _ _ _ p3).mono ?_; rintro e w4 ⟨rfl, p4, x4⟩)
  go_upto_region 11 with (go_at_call 20; refine (pcopy_any _ _ _ _ _ p4).mono ?_; rintro e w5 ⟨rfl, p5, x5⟩)
  rw [lowOn_0, lowOn_1, sel_f, sel_t] at p4 p5
  have z0 := x0.size
  have n4 : w0.heap.size ≠ w4.heap.size := fun e => by have := p4.lt; omega
  have z4 : w.heap.size ≤ w4.heap.size := by have := p4.lt; omega
  have p6 := p4.below x5.below
  have b5 : Below w.heap.size w w5 := (x4.below _ z0 _ (x3.below _ z0 _ (x2.below _ z0 _ (x0.trans (x1.below.mono z0))))).trans (x5.below.mono z4)
  clear p1 p2 p3 p4 x1 x2 x3 x4 x5
  go_wp2
  have hM : 0 ≤ n % 20 ∧ n % 20 < 20 := ⟨by omega, by omega⟩
  generalize n % 20 = M at *
  go_loopw [30] (fun i wr => ∃ (k : Nat) (s : Int), (k : Int) ≤ M ∧ i = .int .u8 k ∧ Pd wr w4.heap.size b s false ∧ Pd wr w0.heap.size b b false ∧ Below w.heap.size w wr) (fun i _ => M.toNat - (intOf i).toNat)
  case atStart => exact ⟨0, b, by omega, rfl, p5, p6, b5⟩
  case round =>
    obtain ⟨k, s, hk, rfl, hp, hp2, hbb⟩ := hrel
    by_cases h : (k : Int) < M
    · go_wp2_with (go_at_call 15; refine (pget_any _ _ _ _ _ hp).mono ?_; rintro e w' ⟨rfl, hq, hch⟩)
      go_roundw
      case rel => exact ⟨k + 1, _, by omega, by go_num, hq, hp2.other hch n4, hch.below _ z4 _ hbb⟩
      case measure => simp [intOf]; omega
    · go_wp2
      clear h hk
      go_loopw [8, 35] (fun g i wr => ∃ (k : Nat), k ≤ 8 ∧ i = .int .i64 k ∧ g = .int .u8 (gotK b k) ∧ Pd wr w0.heap.size b (shf b k) false ∧ Pd wr w4.heap.size b s false ∧ Below w.heap.size w wr) (fun _ i _ => 8 - (intOf i).toNat)
      case atStart => exact ⟨0, Nat.zero_le _, rfl, rfl, hp2, hp, hbb⟩
      case round =>
        obtain ⟨k, hk, rfl, rfl, hp, hp2, hbb⟩ := hrel
        by_cases h : k < 8
        · have t1 : (k : Int) < 8 := by omega
          go_wp2_with (go_at_call 15; refine (pget_any _ _ _ _ _ hp).mono ?_; rintro e w' ⟨rfl, hq, hch⟩)
          go_roundw
          case rel => exact ⟨k + 1, by omega, by go_num, rfl, hq, hp2.other hch n4.symm, hch.below _ z0 _ hbb⟩
          case measure => simp [intOf]; omega
        · have t1 : ¬ ((k : Int) < 8) := by omega
          have : k = 8 := by omega
          subst this
          rw [g1.out]
          go_wp2_with (first | (go_at_call 15; refine (pget_nil _).mono ?_; rintro e w' ⟨rfl, hq⟩; rw [hq]; clear hq w') | (go_at_call 20; refine (pcopy_nil _).mono ?_; rintro e w' ⟨rfl, hq⟩; rw [hq]; clear hq w') | (go_at_call_of 16 (Value.pointer none); refine (pheld_nil _).mono ?_; rintro e w' ⟨rfl, hq⟩; rw [hq]; clear hq w') | (go_at_call 16; refine (pheld_any _ _ _ _ _ hp2).mono ?_; rintro e w' ⟨rfl, hq⟩; rw [hq]; clear hq w'))
          go_ret
          exact ⟨rfl, hbb⟩

end Go.Proofs.Ytahoebnlihgobaa
