/- WaveRanges' walk. No law is claimed here. -/
import Derived.Test.YtmhplbgoahknbaaDoorWvAct
namespace Go.Proofs.YtmhplbgoahknbaaDoor
open Go.RowKit

theorem WW.outb {B : Bool} {w0 v : World} {m : Nat} {s : WS} (h : WW B w0 m s v) :
    Calls Tryd.prog 14 #[.pointer (some ⟨m, 0, none⟩)] v fun e v' => ∃ o : Int, e = .returned (.int .i64 o) ∧ (0 ≤ o ∧ o ≤ 60480) ∧ ∃ q, v' = v.drewN q :=
  h.out.mono fun _ _ ⟨e, hq⟩ => ⟨_, e, outW_b h.ok, hq⟩

set_option maxRecDepth 100000 in
set_option maxHeartbeats 4000000 in
theorem waveRanges_walk (A : Option Addr) (nA cA : Nat) (l : List A4) (w : World) (hr : RdX shA4 w (· < w.heap.size) A nA cA l) (hm : cA ≤ maxLen) (hgl : ∀ y ∈ l, okA4 y) (hg : gc w) :
    Calls Tryd.prog 8 #[.slice A nA cA] w fun e w' => e = .returned (.bool true) ∧ Below w.heap.size w w' := by
  have hl := hr.len
  have hcap := hr.cap
  have hmm : cA ≤ 9223372036854775807 := hm
  have FA := awake13_any w hg.w
  have FN := fun w (hg : gc w) => WW.new true w w hg.w (fun _ => hg) (Below.refl _ _)
  generalize newW = s0 at *
  go_enter Tryd.func8, Tryd.ntmps8
  go_upto_region 4 with (first
    | (go_at_call 10; refine FA.mono ?_; rintro e w1 ⟨rfl, b1⟩; have g1 := hg.below b1)
    | (go_at_call 11; refine (FN _ g1).mono ?_; rintro e w2 ⟨rfl, hT⟩))
  clear FA FN g1
  go_wp2
  go_loopw [12] (fun i wr => ∃ (k : Nat) (s : WS), k ≤ nA ∧ i = .int .i64 k ∧ WW true w1 w1.heap.size s wr) (fun i _ => nA - (intOf i).toNat)
  case atStart => exact ⟨0, s0, by omega, rfl, hT⟩
  case round =>
    clear hT
    obtain ⟨k, s, hk, rfl, hT⟩ := hrel
    have hend : ∀ s v, WW true w1 w1.heap.size s v → Below w.heap.size w v := fun s v h => b1.trans (h.below.mono b1.size)
    have hb := hend _ _ hT
    by_cases hkn : k < nA
    · have t1 : (k : Int) < nA := by omega
      obtain ⟨b, off, rfl, hbb, cd, cr, cb, cn⟩ := rdA4_at hr k (by omega)
      obtain ⟨y1, y2, y3, y4⟩ := hgl l[k] (List.getElem_mem (by omega))
      generalize l[k] = y at *
      obtain ⟨yd, yr, yb, yn⟩ := y
      simp only at cd cr cb cn y1 y2 y3 y4
      have cd' := (hb.cell (p := ⟨b, off + k * 4, none⟩) hbb).trans cd
      have cr' := (hb.cell (p := ⟨b, off + k * 4 + 1, none⟩) hbb).trans cr
      have cb' := (hb.cell (p := ⟨b, off + k * 4 + 2, none⟩) hbb).trans cb
      have cn' := (hb.cell (p := ⟨b, off + k * 4 + 3, none⟩) hbb).trans cn
      have hbr : b < wr.heap.size := Nat.lt_of_lt_of_le hbb hb.size
      have hTa := hT.past ((Ext.refl wr).alloc (.cells #[.int .u8 yd, .int .u16 yr, .int .u8 yb, .int .u16 yn] 35)).below
      have yw : IntKind.u16.wrap (16448 + yr % 84) = 16448 + yr % 84 := by rw [wrap_u16_mod]; omega
      clear cd cr cb cn hr hgl hb
      by_cases h40 : (k : Int) < 40
      · rcases (by omega : yd % 8 < 5 ∨ 5 ≤ yd % 8) with hd | hd
        · clear hT
          go_wp2_with (first
            | (go_at_call 18; refine (hTa.put _ yb (by omega) y3).mono ?_; clear hTa; rintro e w4 ⟨rfl, hT⟩)
            | (go_at_call 14; refine hT.outb.mono ?_; rintro e w5 ⟨o, rfl, ho, q, rfl⟩))
          go_roundw
          case rel => exact ⟨k + 1, _, by omega, by go_num, hT.drewN q⟩
          case measure => simp [intOf]; omega
        · obtain ⟨wo, rfl⟩ : ∃ wo : World, wo = wr := ⟨wr, rfl⟩
          clear hT
          go_wp2
          obtain ⟨N, hN⟩ : ∃ N, yn % 500 = N := ⟨_, rfl⟩
          have bN : 0 ≤ N ∧ N < 500 := by omega
          rw [hN]
          clear hN cd' cr' cb' cn' yw hd
          go_loopw [34] (fun i wr => ∃ (j : Nat) (s : WS), (j : Int) ≤ N ∧ i = .int .u16 j ∧ WW true w1 w1.heap.size s wr) (fun i _ => N.toNat - (intOf i).toNat)
          case atStart => exact ⟨0, s, by omega, rfl, hTa⟩
          case round =>
            clear hTa
            obtain ⟨j, s, hj, rfl, hT⟩ := hrel
            by_cases hjN : (j : Int) < N
            · go_wp2_with (go_at_call 12; refine hT.clock.mono ?_; clear hT; rintro e w10 ⟨rfl, hT⟩)
              go_roundw
              case rel => exact ⟨j + 1, clockW s, by omega, by go_num, hT⟩
              case measure => simp [intOf]; omega
            · go_wp2_with (go_at_call 14; refine hT.outb.mono ?_; rintro e w5 ⟨o, rfl, ho, q, rfl⟩)
              go_roundw
              case rel => exact ⟨k + 1, s, by omega, by go_num, hT.drewN q⟩
              case measure => simp [intOf]; omega
      · go_wp2
        go_ret
        exact ⟨rfl, hend _ _ hTa⟩
    · go_wp2
      go_ret
      exact ⟨rfl, hb⟩

end Go.Proofs.YtmhplbgoahknbaaDoor
