/- WaveRounds' walk. No law is claimed here. -/
import Derived.Test.YtmhplbgoahknbaaDoorWvRounds
namespace Go.Proofs.YtmhplbgoahknbaaDoor
open Go.RowKit

theorem packR {Q : Int → Int → WS → Prop} {w0 v : World} {m : Nat} {s : WS} (h1 : Q 0 0 s) (h2 : WW true w0 m s v) : ∃ s, Q 0 0 s ∧ WW true w0 m s v := ⟨s, h1, h2⟩

set_option maxRecDepth 100000 in
set_option maxHeartbeats 4000000 in
theorem waveRounds_walk (pt m0 n0 : Int) (w : World) (hp : 0 ≤ pt ∧ pt < 65536) (hm : 0 ≤ m0 ∧ m0 < 256) (hn : 0 ≤ n0 ∧ n0 < 256) (hg : gc w) :
    Calls Tryd.prog 6 #[.int .u16 pt, .int .u8 m0, .int .u8 n0] w fun e w' => e = .returned (.bool true) ∧ Below w.heap.size w w' := by
  have FA := awake13_any w hg.w
  have FN := fun w (hg : gc w) => WW.new true w w hg.w (fun _ => hg) (Below.refl _ _)
  have z1 := m3 m0 hm
  obtain ⟨M, hM⟩ : ∃ M, m0 % 4 = M := ⟨_, rfl⟩
  rw [hM] at z1
  have bM : 0 ≤ M ∧ M < 4 := by omega
  obtain ⟨P, hP, bP⟩ := or2048 (pt % 4096) (by omega)
  obtain ⟨lo, hlo⟩ : ∃ lo, P % 256 = lo := ⟨_, rfl⟩
  obtain ⟨hi, hhi⟩ : ∃ hi, P / 256 = hi := ⟨_, rfl⟩
  have blo : 0 ≤ lo ∧ lo < 256 := by omega
  have bhi : 0 ≤ hi ∧ hi < 256 := by omega
  have y1 : IntKind.u8.wrap P = lo := by rw [wrap_u8_mod]; exact hlo
  have y2 : IntKind.u8.wrap hi = hi := by rw [wrap_u8_mod]; omega
  have hS := RI.start M P bM bP
  rw [hlo, hhi] at hS
  have h0 := hW_0
  have hNx := hW_next
  have rN := fun j T s (h : RI M P j T s) hj => h.next bP hj
  have rR := fun T s (h : RI M P 15 T s) => h.roll bP
  have rO := fun T s (h : RI M P 0 T s) => h.out bM
  clear hm hlo
  obtain ⟨Q, hQ⟩ : ∃ Q : Int → Int → WS → Prop, Q = RI M P := ⟨_, rfl⟩
  simp only [← hQ] at hS rN rR rO
  clear hQ
  obtain ⟨N, hN⟩ : ∃ N, n0 * 16 = N := ⟨_, rfl⟩
  have bN : 0 ≤ N ∧ N ≤ 4080 := by omega
  generalize newW = s0 at *
  generalize hW = sW at *
  rcases (by omega : M = 0 ∨ M = 1 ∨ M = 2 ∨ M = 3) with e | e | e | e
  all_goals
    subst e
    simp only [show at1 wgtL 0 = 30 from rfl, show at1 wgtL 1 = 20 from rfl, show at1 wgtL 2 = 15 from rfl, show at1 wgtL 3 = 12 from rfl] at rO
    go_enter Tryd.func6, Tryd.ntmps6
    go_upto_region 5 with (first
      | (go_at_call 10; refine FA.mono ?_; rintro e w1 ⟨rfl, b1⟩; have g1 := hg.below b1)
      | (go_at_call 11; refine (FN _ g1).mono ?_; rintro e w2 ⟨rfl, hT⟩)
      | (go_at_call 18; refine (hT.put 16521 128 (by decide) (by decide)).mono ?_; rw [← h0]; clear hT; rintro e w3 ⟨rfl, hT⟩))
    clear FA FN h0 g1
    go_wp2
    go_loopw [18] (fun i wr => ∃ k : Nat, k ≤ 64 ∧ i = .int .u16 k ∧ WW true w1 w1.heap.size (sW k) wr) (fun i _ => 64 - (intOf i).toNat)
    case atStart => exact ⟨0, by decide, rfl, hT⟩
    case round =>
      clear hT
      obtain ⟨k, hk, rfl, hT⟩ := hrel
      by_cases h : k < 64
      · have t0 : (k : Int) < 64 := by omega
        have x1 : IntKind.u16.wrap (16448 + (k : Int)) = 16448 + (k : Int) := by rw [wrap_u16_mod]; omega
        have x2 : IntKind.u8.wrap (k : Int) = (k : Int) := by rw [wrap_u8_mod]; omega
        have hNk := hNx k h
        go_wp2_with (go_at_call 18; refine (hT.put (16448 + k) k (by omega) (by omega)).mono ?_; rw [hNk]; clear hT; rintro e w4 ⟨rfl, hT⟩)
        go_roundw
        case rel => exact ⟨k + 1, by omega, by go_num, hT⟩
        case measure => simp [intOf]; omega
      · have h64 : k = 64 := by omega
        subst h64
        clear h hk hNx
        go_upto_region 18 with (first
          | (go_at_call_of 18 (Value.int IntKind.u16 16521); refine (hT.put 16521 _ (by decide) (by decide)).mono ?_; clear hT; rintro e w5 ⟨rfl, hT⟩)
          | (go_at_call_of 18 (Value.int IntKind.u16 16512); refine (hT.put 16512 129 (by decide) (by decide)).mono ?_; clear hT; rintro e w6 ⟨rfl, hT⟩)
          | (go_at_call_of 18 (Value.int IntKind.u16 16519); refine (hT.put 16519 128 (by decide) (by decide)).mono ?_; clear hT; rintro e w7 ⟨rfl, hT⟩)
          | (go_at_call_of 18 (Value.int IntKind.u16 16514); refine (hT.put 16514 lo (by decide) blo).mono ?_; clear hT; rintro e w8 ⟨rfl, hT⟩)
          | (go_at_call_of 18 (Value.int IntKind.u16 16515); refine (hT.put 16515 hi (by decide) bhi).mono ?_; clear hT; rintro e w9 ⟨rfl, hT⟩))
        obtain ⟨s1, hI, hT0⟩ := packR hS hT
        have hT1 := fun o => hT0.past ((Ext.refl w9).alloc o).below
        clear hS hT hT0
        go_wp2
        clear hP y1 y2 z1 hM hhi
        go_loopw [11, 57] (fun su i wr => ∃ (k : Nat) (T : Int) (s : WS), ((k : Int) ≤ N ∧ (k : Int) ≤ 2001) ∧ i = .int .i64 k ∧ su = .int .i64 T ∧ (0 ≤ T ∧ T ≤ 4096 * k) ∧ Q 0 T s ∧ WW true w1 w1.heap.size s wr) (fun _ i _ => N.toNat - (intOf i).toNat)
        case atStart => exact ⟨0, 0, s1, by omega, rfl, rfl, by omega, hI, hT1 _⟩
        case round =>
          clear hI hT1
          obtain ⟨k, T, s, ⟨hk, hk2⟩, rfl, rfl, ⟨bT1, bT2⟩, hI, hT⟩ := hrel
          have hend : ∀ s v, WW true w1 w1.heap.size s v → Below w.heap.size w v := fun s v h => b1.trans (h.below.mono b1.size)
          by_cases h : (k : Int) < N
          · have hO := hT.out
            rw [rO T s hI] at hO
            obtain ⟨wo, rfl⟩ : ∃ wo : World, wo = wr := ⟨wr, rfl⟩
            go_upto_region 23 with (go_at_call 14; refine hO.mono ?_; clear hO; rintro e w10 ⟨rfl, q, rfl⟩)
            replace hT := hT.drewN q
            go_wp2
            go_loopw [68] (fun i wr => ∃ (j : Nat) (s : WS), j ≤ 16 ∧ i = .int .i64 j ∧ ((j < 16 → Q j T s) ∧ (j = 16 → Q 0 (T + P) s)) ∧ WW true w1 w1.heap.size s wr) (fun i _ => 16 - (intOf i).toNat)
            case atStart => exact ⟨0, s, by decide, rfl, ⟨fun _ => hI, fun e => by omega⟩, hT⟩
            case round =>
              clear hI hT
              obtain ⟨j, s, hj, rfl, ⟨hA, hB⟩, hT⟩ := hrel
              by_cases hj16 : j < 16
              · have t2 : (j : Int) < 16 := by omega
                have hI := hA hj16
                have hA' : j + 1 < 16 → Q ((j + 1 : Nat) : Int) T (clockW s) := fun e => by push_cast; exact rN j T s hI ⟨by omega, by omega⟩
                have hB' : j + 1 = 16 → Q 0 (T + P) (clockW s) := fun e => by
                  obtain rfl : j = 15 := by omega
                  exact rR T s hI
                clear hA hB hI
                go_wp2_with (go_at_call 12; refine hT.clock.mono ?_; clear hT; rintro e w11 ⟨rfl, hT⟩)
                go_roundw
                case rel => exact ⟨j + 1, clockW s, by omega, by go_num, ⟨hA', hB'⟩, hT⟩
                case measure => simp [intOf]; omega
              · have hI := hB (by omega)
                clear hA hB
                rcases (by omega : (k : Int) ≤ 2000 ∨ 2000 < (k : Int)) with h2 | h2
                · go_wp2
                  go_roundw
                  case rel => exact ⟨k + 1, T + P, s, ⟨by omega, by omega⟩, by go_num, rfl, ⟨by omega, by omega⟩, hI, hT⟩
                  case measure => simp [intOf]; omega
                · have hE := hend _ _ hT
                  clear hI hT hend
                  go_wp2
                  go_ret
                  exact ⟨rfl, hE⟩
          · have hE := hend _ _ hT
            clear hI hT hend rO rN rR
            go_wp2
            go_ret
            exact ⟨rfl, hE⟩

end Go.Proofs.YtmhplbgoahknbaaDoor
