/- WaveTables' walk. No law is claimed here. -/
import Derived.Test.YtmhplbgoahknbaaDoorWvTables
namespace Go.Proofs.YtmhplbgoahknbaaDoor
open Go.RowKit

theorem packT {Q : (Nat → Int) → WS → Prop} {w0 v : World} {m B : Nat} {f : Nat → Int} {s : WS} (h1 : Q f s) (h2 : WP w0 m B f s v) : ∃ f s, Q f s ∧ WP w0 m B f s v := ⟨f, s, h1, h2⟩

set_option maxRecDepth 100000 in
set_option maxHeartbeats 4000000 in
theorem waveTables_walk (A : Option Addr) (nA cA : Nat) (x0 : List UInt8) (A2 : Option Addr) (nB cB : Nat) (x1 : List UInt8) (on : Bool) (g : Int) (w : World) (hr : Rd bv w w.heap.size A nA cA x0) (hm : cA ≤ maxLen) (hr2 : Rd bv w w.heap.size A2 nB cB x1) (hm2 : cB ≤ maxLen) (hgb : 0 ≤ g ∧ g < 256) (hg : gw w) :
    Calls Tryd.prog 5 #[.slice A nA cA, .slice A2 nB cB, .bool on, .int .u8 g] w fun e w' => e = .returned (.bool true) ∧ Below w.heap.size w w' := by
  have FA := awake13_any w hg
  have FN := fun w (hg : gw w) => WW.new false w w hg (fun e => by cases e) (Below.refl _ _)
  have hl := hr.len
  have hcap := hr.cap
  have hmm : cA ≤ 9223372036854775807 := hm
  have hl2 := hr2.len
  have hcap2 := hr2.cap
  have hmm2 : cB ≤ 9223372036854775807 := hm2
  have zg := m63 g hgb
  obtain ⟨⟨bX1, bX2⟩, hXG⟩ := o128g g hgb
  obtain ⟨X, hX⟩ : ∃ X, bits .or .u8 128 g = X := ⟨_, rfl⟩
  rw [hX] at bX1 bX2 hXG
  obtain ⟨G, hG⟩ : ∃ G, g % 64 = G := ⟨_, rfl⟩
  rw [hG] at hXG zg
  have bG : 0 ≤ G ∧ G < 64 := by omega
  have hS := TI.start on X bX1
  rw [hXG] at hS
  obtain ⟨Q, hQ⟩ : ∃ Q : (Nat → Int) → WS → Prop, Q = TI on G := ⟨_, rfl⟩
  have q0 : ∀ f s, Q f s → outW s = 0 := by rw [hQ]; intro f s h; exact h.out0
  have q1 : ∀ f s (j : Nat) y, Q f s → j < 64 → Q (if on then upd f j (y % 64) else f) (putW s (16448 + j) y) := by rw [hQ]; intro f s j y h hj; exact h.put j hj y
  have q2 : ∀ f s (i : Nat), Q f s → i < 64 → getV (getW s (16448 + i)) = .tuple #[.int .u8 (f i + 64), .bool true] := by rw [hQ]; intro f s i h hi; exact h.get i hi
  have q3 : ∀ f s, Q f s → outW (putW s 16521 0) = f 0 * min G 32 * 30 := by rw [hQ]; intro f s h; exact h.fin
  have q4 : ∀ f s, Q f s → ∀ i, 0 ≤ f i ∧ f i < 64 := by rw [hQ]; intro f s h; exact h.fb
  rw [← hQ] at hS
  clear hQ hXG hG hgb
  generalize newW = s0 at *
  cases on
  all_goals
    simp only [Bool.false_eq_true, if_false, if_true] at hS q1
    go_enter Tryd.func5, Tryd.ntmps5
    go_upto_region 8 with (first
      | (go_at_call 10; refine FA.mono ?_; rintro e w1 ⟨rfl, b1⟩; have g1 := hg.below b1)
      | (go_at_call 11; refine (FN _ g1).mono ?_; rintro e w2 ⟨rfl, hT⟩)
      | (go_at_call_of 18 (Value.int IntKind.u8 X); refine (hT.put 16512 X (by decide) (by omega)).mono ?_; clear hT; rintro e wz ⟨rfl, hT⟩)
      | (go_at_call 18; refine (hT.put 16521 128 (by decide) (by decide)).mono ?_; clear hT; rintro e wz ⟨rfl, hT⟩))
    obtain ⟨f0, s1, hI, hP⟩ := packT hS (WP.start hT)
    clear FA FN hT hS g1
    generalize wz.heap.size = BB at *
    go_wp2
    go_loopw [29] (fun i wr => ∃ (k : Nat) (f : Nat → Int) (s : WS), k ≤ nA ∧ i = .int .i64 k ∧ Q f s ∧ WP w1 w1.heap.size BB f s wr) (fun i _ => nA - (intOf i).toNat)
    case atStart => exact ⟨0, f0, s1, by omega, rfl, hI, hP⟩
    case round =>
      clear hI hP
      obtain ⟨k, f, s, hk, rfl, hI, hP⟩ := hrel
      have hend : ∀ f s v, WP w1 w1.heap.size BB f s v → Below w.heap.size w v := fun f s v h => b1.trans (h.below.mono b1.size)
      have hb := hend _ _ _ hP
      by_cases hkn : k < nA
      · have t1 : (k : Int) < nA := by omega
        obtain ⟨b, off, rfl, hbb, ca⟩ := hr.at_ k (by omega)
        unfold bv at ca
        have ba : 0 ≤ ((x0[k]'(by omega)).toNat : Int) ∧ ((x0[k]'(by omega)).toNat : Int) < 256 := by have := (x0[k]'(by omega)).toNat_lt; omega
        generalize ((x0[k]'(by omega)).toNat : Int) = z at *
        have ca' := (hb.cell (p := ⟨b, off + k, none⟩) hbb).trans ca
        clear ca
        by_cases h2 : k < nB ∧ k < 100
        · have t2 : (k : Int) < nB := by omega
          have t3 : (k : Int) < 100 := by omega
          obtain ⟨b2, off2, rfl, hbb2, cb⟩ := hr2.at_ k (by omega)
          unfold bv at cb
          have bb : 0 ≤ ((x1[k]'(by omega)).toNat : Int) ∧ ((x1[k]'(by omega)).toNat : Int) < 256 := by have := (x1[k]'(by omega)).toNat_lt; omega
          generalize ((x1[k]'(by omega)).toNat : Int) = y at *
          have cb' := (hb.cell (p := ⟨b2, off2 + k, none⟩) hbb2).trans cb
          have cB := fun f s v (h : WP w1 w1.heap.size BB f s v) => ((hend _ _ _ h).cell (p := ⟨b2, off2 + k, none⟩) hbb2).trans cb
          obtain ⟨j, hj⟩ := natOf (z % 64) (by omega)
          have j1 : j < 64 := by omega
          have j2 : (j : Int) < 64 := by omega
          have yw1 : IntKind.u16.wrap (j : Int) = (j : Int) := by rw [wrap_u16_mod]; omega
          have yw2 : IntKind.u16.wrap (16448 + (j : Int)) = 16448 + (j : Int) := by rw [wrap_u16_mod]; omega
          have zy := m63 y bb
          have hI2 := q1 f s j y hI j1
          have hO := q0 _ _ hI2
          clear cb hr hr2 h2 q0 q1 q2 q3 q4
          go_wp2_with (first
            | (go_at_call 18; refine (hP.put (16448 + j) y (by omega) bb).mono ?_; clear hP; rintro e w4 ⟨rfl, hP⟩; have cz := cB _ _ _ hP; have hw := hP.row; have c1 := rowF_cell hw j j1; have fz1 := rowF_fz hw; clear hw; have hP2 := hP.set j (y % 64))
            | (go_at_call 14; refine hP.out.mono ?_; rw [hO]; clear hO hP2; rintro e w5 ⟨rfl, q, rfl⟩; have hPP := hP.drewN q)
            | (go_at_call 14; refine hP2.out.mono ?_; rw [hO]; clear hO hP; rintro e w5 ⟨rfl, q, rfl⟩; have hPP := hP2.drewN q))
          go_roundw
          case rel => exact ⟨k + 1, _, _, by omega, by go_num, hI2, hPP⟩
          case measure => simp [intOf]; omega
        · clear hr hr2 q0 q1 q2 q3 q4
          rcases (by omega : ¬ (k : Int) < nB ∨ ((k : Int) < nB ∧ ¬ (k : Int) < 100)) with h3 | ⟨h3, h4⟩
          all_goals
            go_wp2
            go_roundw
            case rel => exact ⟨k + 1, f, s, by omega, by go_num, hI, hP⟩
            case measure => simp [intOf]; omega
      · clear hr hr2 q0 q1 hk
        have hrow := hP.row
        have hszC : (fl64 f).toArray.size = 64 := by unfold fl64; simp
        have hidx := fun (i : Nat) (hi : i < 64) w => idx64 f i hi w
        have hC : (Tryd.prog.info? 48).map (·.size) = some (fl64 f).toArray.size := by rw [hszC]; kernel_rfl
        unfold rowF at hrow
        generalize (fl64 f).toArray = C at *
        go_upto_region 18 with (fail)
        first | refine wp_region_lit ?_ | (refine wp_seq ?_; refine wp_region_lit ?_)
        refine wpList_load_row rfl 48 _ rfl BB rfl 48 C (0, 0) _ hrow Tryd.underlying48 rfl hC ?_
        clear hC hszC hrow hkn
        generalize Value.agg C = V at *
        go_wp2
        go_loopw [66] (fun i wr => ∃ j : Nat, j ≤ 64 ∧ i = .int .i64 j ∧ WP w1 w1.heap.size BB f s wr) (fun i _ => 64 - (intOf i).toNat)
        case atStart => exact ⟨0, by decide, rfl, hP⟩
        case round =>
          clear hP hb
          obtain ⟨j, hj, rfl, hP⟩ := hrel
          by_cases h64 : j < 64
          · have t5 : (j : Int) < 64 := by omega
            have hx := hidx j h64
            have bf := q4 f s hI j
            have zo := o64 (f j) bf
            have yw1 : IntKind.u16.wrap (j : Int) = (j : Int) := by rw [wrap_u16_mod]; omega
            have yw2 : IntKind.u16.wrap (16448 + (j : Int)) = 16448 + (j : Int) := by rw [wrap_u16_mod]; omega
            have FG := hP.get (16448 + j) (by omega)
            rw [q2 f s j hI h64] at FG
            clear hidx q2 q3 q4
            go_wp2_with (go_at_call 16; refine FG.mono ?_; clear FG; rintro e w7 ⟨rfl, rfl⟩)
            go_roundw
            case rel => exact ⟨j + 1, by omega, by go_num, hP⟩
            case measure => simp [intOf]; omega
          · have hO := q3 f s hI
            have bf := q4 f s hI 0
            clear hidx q2 q3 q4 hj
            go_upto_region 26 with (go_at_call 18; refine (hP.put 16521 0 (by decide) (by decide)).mono ?_; clear hP; rintro e w8 ⟨rfl, hP⟩)
            have c0 := rowF_cell hP.row 0 (by decide)
            have hE := hend _ _ _ hP
            have FO : ∀ q, Calls Tryd.prog 14 #[.pointer (some ⟨w1.heap.size, 0, none⟩)] (w8.drewN q) fun e v' => e = .returned (.int .i64 (f 0 * min G 32 * 30)) ∧ ∃ q', v' = (w8.drewN q).drewN q' := fun q => by
              have := (hP.drewN q).out
              rwa [hO] at this
            clear hP hO hend hI
            generalize f 0 = F at *
            have bm := mul3 F (min G 32) 30 bf (by omega) (by decide)
            obtain ⟨K, hK⟩ : ∃ K, min G 32 = K := ⟨_, rfl⟩
            rw [hK] at FO bm
            obtain ⟨Z, hZ⟩ : ∃ Z, F * K = Z := ⟨_, rfl⟩
            rw [hZ] at FO bm
            have y1 : wrap64 Z = Z := IntWalk.wrap64_in _ ⟨by omega, by omega⟩
            have y3 : wrap64 (Z * 30) = Z * 30 := IntWalk.wrap64_in _ ⟨by omega, by omega⟩
            go_quiet (first | (go_at_call 14; exact Calls.quiet_of (FO _)))
            go_wp2
            go_ret
            refine ⟨by first | rfl | (simp [hK, hZ, y1, y3]; done), hE.trans (still_below _ _ _)⟩

end Go.Proofs.YtmhplbgoahknbaaDoor
