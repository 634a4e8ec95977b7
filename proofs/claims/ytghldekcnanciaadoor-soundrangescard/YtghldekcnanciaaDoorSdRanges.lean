/- SoundRanges' walk. No law is claimed here. -/
import Derived.Test.YtghldekcnanciaaDoorSdAct
namespace Go.Proofs.YtghldekcnanciaaDoor
open Go.RowKit

theorem SW.outb {w0 v : World} {n : Nat} {p : Nat → Nat} {s : SS} {σ : Nat → TS} (h : SW true w0 n p s σ v) :
    Calls Tryd.prog 20 #[.pointer (some ⟨n, 0, none⟩)] v fun e v' => ∃ o : Int, e = .returned (.int .i64 o) ∧ (0 ≤ o ∧ o ≤ 85280) ∧ ∃ q, v' = v.drewN q :=
  h.Out.mono fun _ _ ⟨e, hq⟩ => ⟨_, e, by have := outS_b h; omega, hq⟩

set_option maxRecDepth 100000 in
set_option maxHeartbeats 4000000 in
theorem soundRanges_walk (A : Option Addr) (nA cA : Nat) (l : List A4) (w : World) (hr : RdX shA4 w (· < w.heap.size) A nA cA l) (hm : cA ≤ maxLen) (hgl : ∀ y ∈ l, okA4 y) (hg : gs w) :
    Calls Tryd.prog 7 #[.slice A nA cA] w fun e w' => e = .returned (.bool true) ∧ Below w.heap.size w w' := by
  have hl := hr.len
  have hcap := hr.cap
  have hmm : cA ≤ 9223372036854775807 := hm
  have FA := awake12_any w hg.l
  have FN := fun w (hg : gs w) => sdnew_any true w hg.l (fun _ => hg.r)
  generalize newS = s0 at *
  generalize newσ = σ0 at *
  go_enter Tryd.func7, Tryd.ntmps7
  go_upto_region 4 with (first
    | (go_at_call 10; refine FA.mono ?_; rintro e w1 ⟨rfl, b0⟩; have g1 := hg.below b0)
    | (go_at_call 11; refine (FN _ g1).mono ?_; rintro e w2 ⟨w1, p, rfl, bn, hT⟩))
  have b1 := b0.trans (bn.mono b0.size)
  clear FA FN g1 b0 bn
  go_wp2
  go_loopw [12] (fun i wr => ∃ (k : Nat) (s : SS) (σ : Nat → TS), k ≤ nA ∧ i = .int .i64 k ∧ SW true w1 w1.heap.size p s σ wr) (fun i _ => nA - (intOf i).toNat)
  case atStart => exact ⟨0, s0, σ0, by omega, rfl, hT⟩
  case round =>
    clear hT
    obtain ⟨k, s, σ, hk, rfl, hT⟩ := hrel
    have hend : ∀ s σ v, SW true w1 w1.heap.size p s σ v → Below w.heap.size w v := fun s σ v h => b1.trans (h.bel.mono b1.size)
    have hb := hend _ _ _ hT
    by_cases hkn : k < nA
    · have t1 : (k : Int) < nA := by omega
      obtain ⟨b, off, rfl, hbb, cd, cr, cb, cn⟩ := rdA4_at hr k (by omega)
      obtain ⟨y1, y2, y3, y4⟩ := hgl l[k] (List.getElem_mem (by omega))
      generalize l[k] = y at *
      obtain ⟨yd, yr, yb, yn⟩ := y
      simp only at cd cr cb cn y1 y2 y3 y4
      have cd' := (hb.cell (p := ⟨b, off + k * 4, none⟩) hbb).trans cd
      have cr' := (hb.cell (p := ⟨b, off + k * 4 + 1, none⟩) hbb).trans cr
      have cb' := (hb.cell (p := ⟨b, off + k * 4 + 2, none⟩) hbb).trans cb
      have cn' := (hb.cell (p := ⟨b, off + k * 4 + 3, none⟩) hbb).trans cn
      have hbr : b < wr.heap.size := Nat.lt_of_lt_of_le hbb hb.size
      have hTa := hT.past ((Ext.refl wr).alloc (.cells #[.int .u8 yd, .int .u16 yr, .int .u8 yb, .int .u16 yn] 30)).below
      have yw : IntKind.u16.wrap (16384 + yr % 24) = 16384 + yr % 24 := by rw [wrap_u16_mod]; omega
      clear cd cr cb cn hr hgl hb
      by_cases h30 : (k : Int) < 30
      · rcases (by omega : yd % 8 = 4 ∨ yd % 8 = 5 ∨ yd % 8 = 7 ∨ (yd % 8 ≠ 4 ∧ yd % 8 ≠ 5 ∧ yd % 8 ≠ 7)) with hd | hd | hd | ⟨hd1, hd2, hd3⟩
        case inr.inr.inr =>
          clear hT
          have d1 : (yd % 8 == 4) = false := by rw [beq_eq_false_iff_ne]; exact hd1
          have d2 : (yd % 8 == 5) = false := by rw [beq_eq_false_iff_ne]; exact hd2
          have d3 : (yd % 8 == 7) = false := by rw [beq_eq_false_iff_ne]; exact hd3
          go_wp2_with (first
            | (go_at_call 15; refine (hTa.Put _ yb y3).mono ?_; clear hTa; rintro e w4 ⟨rfl, hT⟩)
            | (go_at_call 20; refine hT.outb.mono ?_; rintro e w5 ⟨o, rfl, ho, q, rfl⟩))
          go_roundw
          case rel => exact ⟨k + 1, _, _, by omega, by go_num, hT.drewN q⟩
          case measure => simp [intOf]; omega
        case inr.inr.inl =>
          clear hT
          go_wp2_with (first
            | (go_at_call 25; refine (hTa.Give yb y3).mono ?_; clear hTa; rintro e w4 ⟨rfl, hT⟩)
            | (go_at_call 20; refine hT.outb.mono ?_; rintro e w5 ⟨o, rfl, ho, q, rfl⟩))
          go_roundw
          case rel => exact ⟨k + 1, _, _, by omega, by go_num, hT.drewN q⟩
          case measure => simp [intOf]; omega
        all_goals
          obtain ⟨wo, rfl⟩ : ∃ wo : World, wo = wr := ⟨wr, rfl⟩
          clear hT
          go_wp2
          obtain ⟨N, hN⟩ : ∃ N, yn % 500 = N := ⟨_, rfl⟩
          have bN : 0 ≤ N ∧ N < 500 := by omega
          rw [hN]
          clear hN cd' cr' cb' cn' yw hd
          go_loopw [36] (fun i wr => ∃ (j : Nat) (s : SS) (σ : Nat → TS), (j : Int) ≤ N ∧ i = .int .u16 j ∧ SW true w1 w1.heap.size p s σ wr) (fun i _ => N.toNat - (intOf i).toNat)
          case atStart => exact ⟨0, s, σ, by omega, rfl, hTa⟩
          case round =>
            clear hTa
            obtain ⟨j, s, σ, hj, rfl, hT⟩ := hrel
            by_cases hjN : (j : Int) < N
            · go_wp2_with (go_at_call 17; refine hT.Clock.mono ?_; clear hT; rintro e w10 ⟨rfl, hT⟩)
              go_roundw
              case rel => exact ⟨j + 1, clkS s, clkT s σ, by omega, by go_num, hT⟩
              case measure => simp [intOf]; omega
            · go_wp2_with (go_at_call 20; refine hT.outb.mono ?_; rintro e w5 ⟨o, rfl, ho, q, rfl⟩)
              go_roundw
              case rel => exact ⟨k + 1, s, σ, by omega, by go_num, hT.drewN q⟩
              case measure => simp [intOf]; omega
      · go_wp2
        go_ret
        exact ⟨rfl, hend _ _ _ hTa⟩
    · go_wp2
      go_ret
      exact ⟨rfl, hb⟩

end Go.Proofs.YtghldekcnanciaaDoor
