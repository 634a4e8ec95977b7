/- PictureHits' walk. Written by gen/pchits.py. No law is claimed here. -/
import Derived.Test.YthldppdkheclkaaPc23
set_option linter.unusedSimpArgs false
set_option linter.unusedVariables false
namespace Go.Proofs.Ythldppdkheclkaa
open Go.RowKit Go.Great

variable {w0 v0 v v' : World} {m : Nat} {A : Nat → Value} {c : PC} {Y X lk k : Int}

theorem pnew_ex (w : World) :
    Calls Try.prog 13 #[] w fun e w' => e = .returned (.pointer (some ⟨w.heap.size, 0, none⟩)) ∧ ST w w' w.heap.size zA c0 w' := by
  go_enter Try.func13, Try.ntmps13
  go_upto_region 1 with (fail)
  first | refine wp_region_lit ?_ | (refine wp_seq ?_; refine wp_region_lit ?_)
  refine wpList_readTo rfl (some 1) rfl (.agg ZP) (by kernel_rfl) ?_
  refine wpList_boxTo rfl 85 _ rfl (some 2) rfl w.heap.size rfl ZP rfl ?_
  have hA : PA w w.heap.size zA (w.alloc (.cells ZP 85 (0, 0))) := by
    refine ⟨⟨ZP, heap_alloc_new w _, ?_, fun i hi => ?_⟩, ((Ext.refl w).alloc _).below⟩
    · have := zL_len; rw [← zp_eq] at this; rw [← Array.length_toList]; exact this
    · have h1 : ZP[i]? = zL[i]? := by rw [← zp_eq, Array.getElem?_toList]
      rw [h1]
      have h2 : i < zL.length := by rw [zL_len]; exact hi
      unfold zA
      rw [List.getElem?_eq_getElem h2]
      rfl
  generalize w.alloc (.cells ZP 85 (0, 0)) = w1 at *
  go_wp2
  go_ret
  exact ⟨rfl, ST.of hA zA_ty⟩
theorem zA_0 (i : Nat) (hi : i < 10240) : zA i = .int .u8 0 := zA_of (zL_0 i (by omega))

theorem clkC_bus (A : Nat → Value) (c : PC) : (clkC A c).bus = c.bus := by
  have k0 : (clkC A c).bus = (fouC A c).bus := by unfold clkC nexC; split <;> rfl
  have k1 : (fouC A c).bus = (thiC A c).bus := by
    unfold fouC; split
    · unfold pckC; split <;> rfl
    · rfl
  have k2 : (thiC A c).bus = (secC A c).bus := by unfold thiC; split <;> rfl
  have k3 : (secC A c).bus = (fstC c).bus := by
    unfold secC; split
    · unfold hitC; split <;> rfl
    · rfl
  have k4 : (fstC c).bus = c.bus := by
    unfold fstC; split
    · unfold flgC; split
      · rfl
      · split <;> rfl
    · rfl
  rw [k0, k1, k2, k3, k4]
theorem lk_hit (b : Int) (hb : 0 ≤ b ∧ b < 256) (o h k : Bool) : bits .and .u8 (lkB b o h k) 64 = (if h = true then 64 else 0) := by
  have H : ∀ n : Fin 256, ∀ o h k : Bool, bits .and .u8 (lkB (n.val : Int) o h k) 64 = (if h = true then 64 else 0) := by decide +kernel
  obtain ⟨n, rfl⟩ := natP b hb.1
  exact H ⟨n, by omega⟩ o h k

/-- what is laid so far: i bytes of tiles -/
structure L1 (A : Nat → Value) (j : Nat) : Prop where
  pat : ∀ i, i < j → A i = .int .u8 255
  nam : ∀ i, j ≤ i → i < 10240 → A i = .int .u8 0
theorem L1.step {j : Nat} (h : L1 A j) (hj : j < 16) (up : Bool) : L1 (updV A (adr up j) (.int .u8 (pokV j 255))) (j + 1) := by
  have e : adr up (j : Int) = j := by unfold adr; rw [if_pos (by omega)]; omega
  have e2 : pokV (j : Int) 255 = 255 := by unfold pokV; rw [if_pos (by omega)]
  rw [e, e2]
  refine ⟨fun i hi => ?_, fun i h1 h2 => ?_⟩
  · by_cases q : i = j
    · rw [q, updV_same]
    · rw [updV_other _ _ _ _ q]; exact h.pat i (by omega)
  · rw [updV_other _ _ _ _ (by omega)]; exact h.nam i (by omega) h2
/-- and so many bytes of sprites -/
structure L2 (A : Nat → Value) (Y X lk : Int) (t : Nat) : Prop where
  pat : ∀ i, i < 16 → A i = .int .u8 255
  nam : ∀ i, 16 ≤ i → i < 10240 → A i = .int .u8 0
  s0 : A 10282 = .int .u8 Y
  s1 : A 10283 = .int .u8 0
  s2 : A 10284 = .int .u8 lk
  s3 : A 10285 = .int .u8 X
  sr : ∀ i, 4 ≤ i → i < 4 + t → A (10282 + i) = .int .u8 255
theorem L2.step {t : Nat} (h : L2 A Y X lk t) : L2 (updV A (10282 + (4 + t)) (.int .u8 255)) Y X lk (t + 1) := by
  have o : ∀ i, i < 10282 + (4 + t) → updV A (10282 + (4 + t)) (.int .u8 255) i = A i := fun i hi => updV_other _ _ _ _ (by omega)
  refine ⟨fun i hi => (o i (by omega)).trans (h.pat i hi), fun i h1 h2 => (o i (by omega)).trans (h.nam i h1 h2), (o _ (by omega)).trans h.s0, (o _ (by omega)).trans h.s1, (o _ (by omega)).trans h.s2, (o _ (by omega)).trans h.s3, fun i h1 h2 => ?_⟩
  by_cases q : i = 4 + t
  · rw [q, updV_same]
  · exact (o _ (by omega)).trans (h.sr i h1 (by omega))
theorem L1.two (h : L1 A 16) (Y X lk : Int) : L2 (updV (updV (updV (updV A (10282 + 0) (.int .u8 Y)) (10282 + 1) (.int .u8 0)) (10282 + 2) (.int .u8 lk)) (10282 + 3) (.int .u8 X)) Y X lk 0 := by
  have o : ∀ i, i < 10282 → (updV (updV (updV (updV A (10282 + 0) (.int .u8 Y)) (10282 + 1) (.int .u8 0)) (10282 + 2) (.int .u8 lk)) (10282 + 3) (.int .u8 X)) i = A i := fun i hi => by
    rw [updV_other _ _ _ _ (by omega), updV_other _ _ _ _ (by omega), updV_other _ _ _ _ (by omega), updV_other _ _ _ _ (by omega)]
  refine ⟨fun i hi => (o i (by omega)).trans (h.pat i hi), fun i h1 h2 => (o i (by omega)).trans (h.nam i h1 h2), ?_, ?_, ?_, updV_same _ _ _, fun i h1 h2 => by omega⟩
  · rw [updV_other _ _ _ _ (by decide), updV_other _ _ _ _ (by decide), updV_other _ _ _ _ (by decide)]; exact updV_same _ _ _
  · rw [updV_other _ _ _ _ (by decide), updV_other _ _ _ _ (by decide)]; exact updV_same _ _ _
  · rw [updV_other _ _ _ _ (by decide)]; exact updV_same _ _ _
/-- its single cells while it is laid -/
structure C0 (c : PC) (n : Int) : Prop where
  ad : c.ad = n
  con : c.con = 0
  lin : LIn (scrC c)
  hit : c.hit = false
  line : c.line = 0
  dot : c.dot = 0
  fr : c.fr = 0
  cnt : c.cnt = 0
theorem C0.step {n : Int} (h : C0 c n) (b n' : Int) : C0 { c with bus := b, ad := n' } n' := ⟨rfl, h.con, h.lin, h.hit, h.line, h.dot, h.fr, h.cnt⟩
theorem C0.first : C0 c0 0 := ⟨rfl, rfl, ⟨by decide, by decide, by decide⟩, rfl, rfl, rfl, rfl, rfl⟩
theorem C0.hi {n : Int} (h : C0 c n) (hb : L2 A Y X lk 252) (hY : 0 ≤ Y ∧ Y < 230) : HI Y X lk k A { c with bus := k, msk := k } :=
  ⟨⟨hb.pat, hb.nam, hb.s0, hb.s1, hb.s2, hb.s3, fun i h1 h2 => hb.sr i h1 (by omega)⟩, rfl, h.con, h.fr, h.lin, h.hit, by show 0 ≤ c.line ∧ c.line ≤ Y + 1; rw [h.line]; omega, by show 0 ≤ c.dot ∧ c.dot ≤ 340; rw [h.dot]; decide,
    fun q => by have q1 : c.line = Y + 1 := q; rw [h.line] at q1; omega, fun _ => h.cnt,
    fun q _ => absurd (by
      rcases (by omega : 0 < Y ∨ Y = 0) with y | y
      · exact .inl (by show c.line < Y; rw [h.line]; exact y)
      · exact .inr ⟨by show c.line = Y; rw [h.line, y], by show c.dot ≤ 257; rw [h.dot]; decide⟩) q⟩

set_option maxRecDepth 100000 in
set_option maxHeartbeats 4000000 in
theorem pictureHits_walk (y x k lk : Int) (w : World) (hy0 : 0 ≤ y) (hy1 : y < 256) (hx0 : 0 ≤ x) (hx1 : x < 256) (hk0 : 0 ≤ k) (hk1 : k < 256) (hl0 : 0 ≤ lk) (hl1 : lk < 256) :
    Calls Try.prog 8 #[.int .u8 y, .int .u8 x, .int .u8 k, .int .u8 lk] w fun e w' => e = .returned (.bool true) ∧ Below w.heap.size w w' := by
  have FA := awake15_any w
  have hX : 0 ≤ x ∧ x < 256 := ⟨hx0, hx1⟩
  have hk : 0 ≤ k ∧ k < 256 := ⟨hk0, hk1⟩
  have hlk : 0 ≤ lk ∧ lk < 256 := ⟨hl0, hl1⟩
  have zy : y.tmod 230 = y % 230 := Int.tmod_eq_emod_of_nonneg hy0
  obtain ⟨Y, hYe⟩ : ∃ Y, y % 230 = Y := ⟨_, rfl⟩
  have hY : 0 ≤ Y ∧ Y < 230 := by omega
  rw [hYe] at zy
  clear hYe hx0 hx1 hk0 hk1 hl0 hl1
  have FF := fdX_b x k hX
  obtain ⟨N, hN⟩ := natP (341 * (Y + 1) + 1 + fdX x k) (by omega)
  go_enter Try.func8, Try.ntmps8
  go_upto_region 3 with (go_at_call 12; refine FA.mono ?_; rintro e w1 ⟨rfl, hb1⟩)
  clear FA
  have FN := pnew_ex w1
  obtain ⟨m, hm⟩ : ∃ m, w1.heap.size = m := ⟨_, rfl⟩
  rw [hm] at FN
  go_upto_region 5 with (go_at_call 13; refine FN.mono ?_; rintro e w2 ⟨rfl, h2⟩)
  clear FN
  go_upto_region 6 with (fail)
  go_loopw [20] (fun i wr => ∃ (j : Nat) (A : Nat → Value), i = .int .u16 j ∧ j ≤ 16 ∧ L1 A j ∧ ST w1 w2 m A c0 wr) (fun i _ => 16 - (intOf i).toNat)
  case atStart => exact ⟨0, zA, rfl, by omega, ⟨fun i hi => absurd hi (by omega), fun i _ hi => zA_0 i hi⟩, h2⟩
  case round =>
    clear h2
    obtain ⟨v1, rfl⟩ : ∃ v1, v1 = wr := ⟨wr, rfl⟩
    obtain ⟨j, A, rfl, hj, hL, hS⟩ := hrel
    by_cases t1 : (j : Int) < 16
    · have FP := hS.poke (j : Int) ⟨by omega, by omega⟩ 255 (by decide)
      have hL2 := hL.step (by omega) c0.up
      have hj2 : j + 1 ≤ 16 := by omega
      have hme : 16 - (j + 1) < 16 - j := by omega
      generalize updV A (adr c0.up j) (.int .u8 (pokV j 255)) = A2 at *
      clear hL hS
      go_wp2_with (go_at_call 19; refine FP.mono ?_; clear FP; rintro e v2 ⟨rfl, h3⟩)
      go_roundw
      case rel => exact ⟨j + 1, A2, by go_num, hj2, hL2, h3⟩
      case measure => simpa [intOf] using hme
    · have ej : j = 16 := by omega
      subst ej
      have hL4 := hL.two Y x lk
      have F0 := hS.put4 0 rfl (by decide) Y (by omega)
      clear hj t1 hL
      go_upto_region 11 with (go_at_call 31; refine F0.mono ?_; clear F0; rintro e v2 ⟨rfl, h2⟩)
      have F1 := h2.put4 1 (by show ((0 : Nat) : Int) + 1 = _; rfl) (by decide) 0 (by decide)
      clear hS
      go_upto_region 12 with (go_at_call 31; refine F1.mono ?_; clear F1; rintro e v3 ⟨rfl, h3⟩)
      have F2 := h3.put4 2 (by rfl) (by decide) lk hlk
      clear h2
      go_upto_region 13 with (go_at_call 31; refine F2.mono ?_; clear F2; rintro e v4 ⟨rfl, h4⟩)
      have F3 := h4.put4 3 (by rfl) (by decide) x hX
      clear h3
      go_upto_region 14 with (go_at_call 31; refine F3.mono ?_; clear F3; rintro e v5 ⟨rfl, h5⟩)
      clear h4
      have hC4 := (((C0.first.step Y ((((0 : Nat) : Int) + 1) % 256)).step 0 ((((1 : Nat) : Int) + 1) % 256)).step lk ((((2 : Nat) : Int) + 1) % 256)).step x ((((3 : Nat) : Int) + 1) % 256)
      generalize updV (updV (updV (updV A (10282 + 0) (.int .u8 Y)) (10282 + 1) (.int .u8 0)) (10282 + 2) (.int .u8 lk)) (10282 + 3) (.int .u8 x) = A4 at *
      obtain ⟨c4, hc4⟩ : ∃ c4, c4 = ({ { { { c0 with bus := Y, ad := (((0 : Nat) : Int) + 1) % 256 } with bus := 0, ad := (((1 : Nat) : Int) + 1) % 256 } with bus := lk, ad := (((2 : Nat) : Int) + 1) % 256 } with bus := x, ad := (((3 : Nat) : Int) + 1) % 256 } : PC) := ⟨_, rfl⟩
      rw [← hc4] at hC4
      replace h5 : ST w1 w2 m A4 c4 v5 := by rw [hc4]; exact h5
      clear hc4
      go_upto_region 15 with (fail)
      go_loopw [38] (fun i wr => ∃ (t : Nat) (A : Nat → Value) (c : PC), i = .int .i64 t ∧ t ≤ 252 ∧ L2 A Y x lk t ∧ C0 c ((4 + t : Nat) % 256 : Nat) ∧ ST w1 w2 m A c wr) (fun i _ => 252 - (intOf i).toNat)
      case atStart => exact ⟨0, A4, c4, rfl, by omega, hL4, hC4, h5⟩
      case round =>
        clear h5 hC4 hL4
        obtain ⟨v6, rfl⟩ : ∃ v6, v6 = wr := ⟨wr, rfl⟩
        obtain ⟨t, A, c, rfl, ht, hL, hC, hS⟩ := hrel
        by_cases t2 : (t : Int) < 252
        · have ea : c.ad = ((4 + t : Nat) : Int) := hC.ad.trans (by rw [Nat.mod_eq_of_lt (by omega)])
          have FP := hS.put4 (4 + t) ea (by omega) 255 (by decide)
          have hL2 := hL.step
          have hC2 := hC.step 255 ((((4 + t : Nat) : Int) + 1) % 256)
          rw [show ((((4 + t : Nat) : Int) + 1) % 256) = (((4 + (t + 1) : Nat) % 256 : Nat) : Int) by omega] at hC2 FP
          have ht2 : t + 1 ≤ 252 := by omega
          have hme : 252 - (t + 1) < 252 - t := by omega
          generalize updV A (10282 + (4 + t)) (.int .u8 255) = A2 at *
          obtain ⟨c2, hc2⟩ : ∃ c2, c2 = ({ c with bus := 255, ad := (((4 + (t + 1) : Nat) % 256 : Nat) : Int) } : PC) := ⟨_, rfl⟩
          rw [← hc2] at hC2
          have FQ : Calls Try.prog 31 #[.pointer (some ⟨m, 0, none⟩), .int .u8 4, .int .u8 255] v6 fun e v' => e = .returned (.tuple #[]) ∧ ST w1 w2 m A2 c2 v' := by rw [hc2]; exact FP
          clear hL hS hC ea FP hc2
          go_wp2_with (go_at_call 31; refine FQ.mono ?_; clear FQ; rintro e v2 ⟨rfl, h3⟩)
          go_roundw
          case rel => exact ⟨t + 1, A2, c2, by go_num, ht2, hL2, hC2, h3⟩
          case measure => simpa [intOf] using hme
        · have et : t = 252 := by omega
          subst et
          have hI := hC.hi (k := k) hL hY
          have hpos : 341 * c.line + c.dot = 0 := by rw [hC.line, hC.dot]; rfl
          have FP := hS.put1 k
          clear hC hS hL ht t2
          go_upto_region 19 with (go_at_call 31; refine FP.mono ?_; clear FP; rintro e v7 ⟨rfl, h7⟩)
          obtain ⟨c7, hc7⟩ : ∃ c7, c7 = ({ c with bus := k, msk := k } : PC) := ⟨_, rfl⟩
          rw [← hc7] at hI
          replace h7 : ST w1 w2 m A c7 v7 := by rw [hc7]; exact h7
          replace hpos : 341 * c7.line + c7.dot = 0 := by rw [hc7]; exact hpos
          have hbus : c7.bus = k := by rw [hc7]
          clear hc7
          have w1' : IntKind.i64.wrap x = x := IntWalk.i64_in _ ⟨by omega, by omega⟩
          have w2' : IntKind.i64.wrap Y = Y := IntWalk.i64_in _ ⟨by omega, by omega⟩
          have w3' : IntKind.i64.wrap (Y + 1) = Y + 1 := IntWalk.i64_in _ ⟨by omega, by omega⟩
          have w4' : IntKind.i64.wrap (341 * (Y + 1)) = 341 * (Y + 1) := IntWalk.i64_in _ ⟨by omega, by omega⟩
          have w5' : IntKind.i64.wrap (341 * (Y + 1) + 1) = 341 * (Y + 1) + 1 := IntWalk.i64_in _ ⟨by omega, by omega⟩
          have w7' : IntKind.i64.wrap (x + 8) = x + 8 := IntWalk.i64_in _ ⟨by omega, by omega⟩
          obtain ⟨f, hf⟩ : ∃ f, fdX x k = f := ⟨_, rfl⟩
          have hf2 : f = if x < 8 ∧ ¬ bits .and .u8 k 6 = 6 then 8 else x := by rw [← hf]; rfl
          rw [hf] at FF hN
          have w6' : IntKind.i64.wrap (341 * (Y + 1) + 1 + f) = (N : Int) := (IntWalk.i64_in _ ⟨by omega, by omega⟩).trans hN
          by_cases a1 : x < 8
          · by_cases a2 : bits .and .u8 k 6 = 6
            · rw [if_neg (fun q => q.2 a2)] at hf2
              replace hf2 := hf2.symm
              subst hf2
              by_cases b1 : bits .and .u8 k 24 = 24
              · by_cases b2 : x < 255
                · by_cases b3 : x < x + 8
                  · have he : (decide (bits .and .u8 k 24 = 24) && decide (x < 255) && decide (x < x + 8)) = true := by simp [b1, b2, b3]
                    go_upto_region 24 with (fail)
                    go_loopw [76] (fun i wr => ∃ (j : Nat) (A : Nat → Value) (c : PC), i = .int .i64 j ∧ j ≤ N ∧ 341 * c.line + c.dot = j ∧ c.bus = k ∧ HI Y x lk k A c ∧ ST w1 w2 m A c wr) (fun i _ => N - (intOf i).toNat)
                    case atStart => exact ⟨0, A, c7, rfl, by omega, hpos, hbus, hI, h7⟩
                    case round =>
                      clear h7 hI hpos hbus
                      obtain ⟨v8, rfl⟩ : ∃ v8, v8 = wr := ⟨wr, rfl⟩
                      obtain ⟨j, A, c, rfl, hj, hpos, hbus, hI, hS⟩ := hrel
                      have FC := hS.clk (hI.ok hY)
                      have hd := hI.dot
                      have hl := hI.line
                      by_cases t3 : (j : Int) < N
                      · obtain ⟨hI2, hp2⟩ := hI.step hY hk hX (fun q => by rw [hf]; rw [q] at hpos; omega)
                        have hbus2 := (clkC_bus A c).trans hbus
                        rw [hpos] at hp2
                        have hj2 : j + 1 ≤ N := by omega
                        have hme : N - (j + 1) < N - j := by omega
                        have wj : IntKind.i64.wrap ((j : Int) + 1) = (j : Int) + 1 := IntWalk.i64_in _ ⟨by omega, by omega⟩
                        have hp3 : 341 * (clkC A c).line + (clkC A c).dot = ((j + 1 : Nat) : Int) := by omega
                        generalize fouA A c = A2 at *
                        generalize clkC A c = c2 at *
                        clear hI hS hp2 hpos hN w6'
                        go_wp2_with (go_at_call 32; refine FC.mono ?_; clear FC; rintro e v9 ⟨rfl, h9⟩)
                        go_roundw
                        case rel => exact ⟨j + 1, A2, c2, by go_num, hj2, hp3, hbus2, hI2, h9⟩
                        case measure => simpa [intOf] using hme
                      · have ej : j = N := by omega
                        subst ej
                        have el : c.line = Y + 1 := by omega
                        have ed : c.dot = 1 + fdX x k := by rw [hf]; rw [el] at hpos; omega
                        have hH := hI.last hY hk hX el ed
                        rw [hf, he] at hH
                        have hbus2 := (clkC_bus A c).trans hbus
                        have FK := hS.copy
                        have hok := hI.ok hY
                        have g1 := lk_hit c.bus (by rw [hbus]; exact hk) c.over c.hit c.blank
                        obtain ⟨B1, hB1⟩ : ∃ B, lkB k c.over false c.blank = B := ⟨_, rfl⟩
                        rw [hI.hit, hbus, hB1] at g1
                        have g2 := lk_hit (clkC A c).bus (by rw [hbus2]; exact hk) (clkC A c).over (clkC A c).hit (clkC A c).blank
                        obtain ⟨B2, hB2⟩ : ∃ B, lkB k (clkC A c).over true (clkC A c).blank = B := ⟨_, rfl⟩
                        rw [hH, hbus2, hB2] at g2
                        have hhit := hI.hit
                        clear FC hI hpos hN w6' hd hl
                        go_upto_region 28 with (first | (go_at_call 35; refine FK.mono ?_; clear FK; rintro e v9 ⟨rfl, h9, h10⟩; have FG := pGet2_any h10.px; rw [hhit, hbus, hB1] at FG) | (go_at_call 17; refine FG.mono ?_; clear FG; rintro e v11 ⟨rfl, h11⟩))
                        have h12 := hS.past h11.bel
                        have FC := h12.clk hok
                        clear h9 h10 h11 hS
                        go_upto_region 29 with (go_at_call 32; refine FC.mono ?_; clear FC; rintro e v13 ⟨rfl, h13⟩)
                        have FG := pGet2_any h13.px
                        rw [hH, hbus2, hB2] at FG
                        clear hB1 hB2 hbus hbus2 hhit hH
                        go_wp2_with (go_at_call 17; refine FG.mono ?_; clear FG; rintro e v14 ⟨rfl, h14⟩)
                        go_ret
                        have hB := h14.bel
                        rw [← hm] at hB
                        exact ⟨rfl, hb1.trans (hB.mono hb1.size)⟩
                  · have he : (decide (bits .and .u8 k 24 = 24) && decide (x < 255) && decide (x < x + 8)) = false := by simp [b3]
                    go_upto_region 24 with (fail)
                    go_loopw [76] (fun i wr => ∃ (j : Nat) (A : Nat → Value) (c : PC), i = .int .i64 j ∧ j ≤ N ∧ 341 * c.line + c.dot = j ∧ c.bus = k ∧ HI Y x lk k A c ∧ ST w1 w2 m A c wr) (fun i _ => N - (intOf i).toNat)
                    case atStart => exact ⟨0, A, c7, rfl, by omega, hpos, hbus, hI, h7⟩
                    case round =>
                      clear h7 hI hpos hbus
                      obtain ⟨v8, rfl⟩ : ∃ v8, v8 = wr := ⟨wr, rfl⟩
                      obtain ⟨j, A, c, rfl, hj, hpos, hbus, hI, hS⟩ := hrel
                      have FC := hS.clk (hI.ok hY)
                      have hd := hI.dot
                      have hl := hI.line
                      by_cases t3 : (j : Int) < N
                      · obtain ⟨hI2, hp2⟩ := hI.step hY hk hX (fun q => by rw [hf]; rw [q] at hpos; omega)
                        have hbus2 := (clkC_bus A c).trans hbus
                        rw [hpos] at hp2
                        have hj2 : j + 1 ≤ N := by omega
                        have hme : N - (j + 1) < N - j := by omega
                        have wj : IntKind.i64.wrap ((j : Int) + 1) = (j : Int) + 1 := IntWalk.i64_in _ ⟨by omega, by omega⟩
                        have hp3 : 341 * (clkC A c).line + (clkC A c).dot = ((j + 1 : Nat) : Int) := by omega
                        generalize fouA A c = A2 at *
                        generalize clkC A c = c2 at *
                        clear hI hS hp2 hpos hN w6'
                        go_wp2_with (go_at_call 32; refine FC.mono ?_; clear FC; rintro e v9 ⟨rfl, h9⟩)
                        go_roundw
                        case rel => exact ⟨j + 1, A2, c2, by go_num, hj2, hp3, hbus2, hI2, h9⟩
                        case measure => simpa [intOf] using hme
                      · have ej : j = N := by omega
                        subst ej
                        have el : c.line = Y + 1 := by omega
                        have ed : c.dot = 1 + fdX x k := by rw [hf]; rw [el] at hpos; omega
                        have hH := hI.last hY hk hX el ed
                        rw [hf, he] at hH
                        have hbus2 := (clkC_bus A c).trans hbus
                        have FK := hS.copy
                        have hok := hI.ok hY
                        have g1 := lk_hit c.bus (by rw [hbus]; exact hk) c.over c.hit c.blank
                        obtain ⟨B1, hB1⟩ : ∃ B, lkB k c.over false c.blank = B := ⟨_, rfl⟩
                        rw [hI.hit, hbus, hB1] at g1
                        have g2 := lk_hit (clkC A c).bus (by rw [hbus2]; exact hk) (clkC A c).over (clkC A c).hit (clkC A c).blank
                        obtain ⟨B2, hB2⟩ : ∃ B, lkB k (clkC A c).over false (clkC A c).blank = B := ⟨_, rfl⟩
                        rw [hH, hbus2, hB2] at g2
                        have hhit := hI.hit
                        clear FC hI hpos hN w6' hd hl
                        go_upto_region 28 with (first | (go_at_call 35; refine FK.mono ?_; clear FK; rintro e v9 ⟨rfl, h9, h10⟩; have FG := pGet2_any h10.px; rw [hhit, hbus, hB1] at FG) | (go_at_call 17; refine FG.mono ?_; clear FG; rintro e v11 ⟨rfl, h11⟩))
                        have h12 := hS.past h11.bel
                        have FC := h12.clk hok
                        clear h9 h10 h11 hS
                        go_upto_region 29 with (go_at_call 32; refine FC.mono ?_; clear FC; rintro e v13 ⟨rfl, h13⟩)
                        have FG := pGet2_any h13.px
                        rw [hH, hbus2, hB2] at FG
                        clear hB1 hB2 hbus hbus2 hhit hH
                        go_wp2_with (go_at_call 17; refine FG.mono ?_; clear FG; rintro e v14 ⟨rfl, h14⟩)
                        go_ret
                        have hB := h14.bel
                        rw [← hm] at hB
                        exact ⟨rfl, hb1.trans (hB.mono hb1.size)⟩
                · have he : (decide (bits .and .u8 k 24 = 24) && decide (x < 255) && decide (x < x + 8)) = false := by simp [b2]
                  go_upto_region 24 with (fail)
                  go_loopw [76] (fun i wr => ∃ (j : Nat) (A : Nat → Value) (c : PC), i = .int .i64 j ∧ j ≤ N ∧ 341 * c.line + c.dot = j ∧ c.bus = k ∧ HI Y x lk k A c ∧ ST w1 w2 m A c wr) (fun i _ => N - (intOf i).toNat)
                  case atStart => exact ⟨0, A, c7, rfl, by omega, hpos, hbus, hI, h7⟩
                  case round =>
                    clear h7 hI hpos hbus
                    obtain ⟨v8, rfl⟩ : ∃ v8, v8 = wr := ⟨wr, rfl⟩
                    obtain ⟨j, A, c, rfl, hj, hpos, hbus, hI, hS⟩ := hrel
                    have FC := hS.clk (hI.ok hY)
                    have hd := hI.dot
                    have hl := hI.line
                    by_cases t3 : (j : Int) < N
                    · obtain ⟨hI2, hp2⟩ := hI.step hY hk hX (fun q => by rw [hf]; rw [q] at hpos; omega)
                      have hbus2 := (clkC_bus A c).trans hbus
                      rw [hpos] at hp2
                      have hj2 : j + 1 ≤ N := by omega
                      have hme : N - (j + 1) < N - j := by omega
                      have wj : IntKind.i64.wrap ((j : Int) + 1) = (j : Int) + 1 := IntWalk.i64_in _ ⟨by omega, by omega⟩
                      have hp3 : 341 * (clkC A c).line + (clkC A c).dot = ((j + 1 : Nat) : Int) := by omega
                      generalize fouA A c = A2 at *
                      generalize clkC A c = c2 at *
                      clear hI hS hp2 hpos hN w6'
                      go_wp2_with (go_at_call 32; refine FC.mono ?_; clear FC; rintro e v9 ⟨rfl, h9⟩)
                      go_roundw
                      case rel => exact ⟨j + 1, A2, c2, by go_num, hj2, hp3, hbus2, hI2, h9⟩
                      case measure => simpa [intOf] using hme
                    · have ej : j = N := by omega
                      subst ej
                      have el : c.line = Y + 1 := by omega
                      have ed : c.dot = 1 + fdX x k := by rw [hf]; rw [el] at hpos; omega
                      have hH := hI.last hY hk hX el ed
                      rw [hf, he] at hH
                      have hbus2 := (clkC_bus A c).trans hbus
                      have FK := hS.copy
                      have hok := hI.ok hY
                      have g1 := lk_hit c.bus (by rw [hbus]; exact hk) c.over c.hit c.blank
                      obtain ⟨B1, hB1⟩ : ∃ B, lkB k c.over false c.blank = B := ⟨_, rfl⟩
                      rw [hI.hit, hbus, hB1] at g1
                      have g2 := lk_hit (clkC A c).bus (by rw [hbus2]; exact hk) (clkC A c).over (clkC A c).hit (clkC A c).blank
                      obtain ⟨B2, hB2⟩ : ∃ B, lkB k (clkC A c).over false (clkC A c).blank = B := ⟨_, rfl⟩
                      rw [hH, hbus2, hB2] at g2
                      have hhit := hI.hit
                      clear FC hI hpos hN w6' hd hl
                      go_upto_region 28 with (first | (go_at_call 35; refine FK.mono ?_; clear FK; rintro e v9 ⟨rfl, h9, h10⟩; have FG := pGet2_any h10.px; rw [hhit, hbus, hB1] at FG) | (go_at_call 17; refine FG.mono ?_; clear FG; rintro e v11 ⟨rfl, h11⟩))
                      have h12 := hS.past h11.bel
                      have FC := h12.clk hok
                      clear h9 h10 h11 hS
                      go_upto_region 29 with (go_at_call 32; refine FC.mono ?_; clear FC; rintro e v13 ⟨rfl, h13⟩)
                      have FG := pGet2_any h13.px
                      rw [hH, hbus2, hB2] at FG
                      clear hB1 hB2 hbus hbus2 hhit hH
                      go_wp2_with (go_at_call 17; refine FG.mono ?_; clear FG; rintro e v14 ⟨rfl, h14⟩)
                      go_ret
                      have hB := h14.bel
                      rw [← hm] at hB
                      exact ⟨rfl, hb1.trans (hB.mono hb1.size)⟩
              · have b4 : (bits .and .u8 k 24 == 24) = false := by simpa using b1
                have he : (decide (bits .and .u8 k 24 = 24) && decide (x < 255) && decide (x < x + 8)) = false := by simp [b1]
                go_upto_region 24 with (fail)
                go_loopw [76] (fun i wr => ∃ (j : Nat) (A : Nat → Value) (c : PC), i = .int .i64 j ∧ j ≤ N ∧ 341 * c.line + c.dot = j ∧ c.bus = k ∧ HI Y x lk k A c ∧ ST w1 w2 m A c wr) (fun i _ => N - (intOf i).toNat)
                case atStart => exact ⟨0, A, c7, rfl, by omega, hpos, hbus, hI, h7⟩
                case round =>
                  clear h7 hI hpos hbus
                  obtain ⟨v8, rfl⟩ : ∃ v8, v8 = wr := ⟨wr, rfl⟩
                  obtain ⟨j, A, c, rfl, hj, hpos, hbus, hI, hS⟩ := hrel
                  have FC := hS.clk (hI.ok hY)
                  have hd := hI.dot
                  have hl := hI.line
                  by_cases t3 : (j : Int) < N
                  · obtain ⟨hI2, hp2⟩ := hI.step hY hk hX (fun q => by rw [hf]; rw [q] at hpos; omega)
                    have hbus2 := (clkC_bus A c).trans hbus
                    rw [hpos] at hp2
                    have hj2 : j + 1 ≤ N := by omega
                    have hme : N - (j + 1) < N - j := by omega
                    have wj : IntKind.i64.wrap ((j : Int) + 1) = (j : Int) + 1 := IntWalk.i64_in _ ⟨by omega, by omega⟩
                    have hp3 : 341 * (clkC A c).line + (clkC A c).dot = ((j + 1 : Nat) : Int) := by omega
                    generalize fouA A c = A2 at *
                    generalize clkC A c = c2 at *
                    clear hI hS hp2 hpos hN w6'
                    go_wp2_with (go_at_call 32; refine FC.mono ?_; clear FC; rintro e v9 ⟨rfl, h9⟩)
                    go_roundw
                    case rel => exact ⟨j + 1, A2, c2, by go_num, hj2, hp3, hbus2, hI2, h9⟩
                    case measure => simpa [intOf] using hme
                  · have ej : j = N := by omega
                    subst ej
                    have el : c.line = Y + 1 := by omega
                    have ed : c.dot = 1 + fdX x k := by rw [hf]; rw [el] at hpos; omega
                    have hH := hI.last hY hk hX el ed
                    rw [hf, he] at hH
                    have hbus2 := (clkC_bus A c).trans hbus
                    have FK := hS.copy
                    have hok := hI.ok hY
                    have g1 := lk_hit c.bus (by rw [hbus]; exact hk) c.over c.hit c.blank
                    obtain ⟨B1, hB1⟩ : ∃ B, lkB k c.over false c.blank = B := ⟨_, rfl⟩
                    rw [hI.hit, hbus, hB1] at g1
                    have g2 := lk_hit (clkC A c).bus (by rw [hbus2]; exact hk) (clkC A c).over (clkC A c).hit (clkC A c).blank
                    obtain ⟨B2, hB2⟩ : ∃ B, lkB k (clkC A c).over false (clkC A c).blank = B := ⟨_, rfl⟩
                    rw [hH, hbus2, hB2] at g2
                    have hhit := hI.hit
                    clear FC hI hpos hN w6' hd hl
                    go_upto_region 28 with (first | (go_at_call 35; refine FK.mono ?_; clear FK; rintro e v9 ⟨rfl, h9, h10⟩; have FG := pGet2_any h10.px; rw [hhit, hbus, hB1] at FG) | (go_at_call 17; refine FG.mono ?_; clear FG; rintro e v11 ⟨rfl, h11⟩))
                    have h12 := hS.past h11.bel
                    have FC := h12.clk hok
                    clear h9 h10 h11 hS
                    go_upto_region 29 with (go_at_call 32; refine FC.mono ?_; clear FC; rintro e v13 ⟨rfl, h13⟩)
                    have FG := pGet2_any h13.px
                    rw [hH, hbus2, hB2] at FG
                    clear hB1 hB2 hbus hbus2 hhit hH
                    go_wp2_with (go_at_call 17; refine FG.mono ?_; clear FG; rintro e v14 ⟨rfl, h14⟩)
                    go_ret
                    have hB := h14.bel
                    rw [← hm] at hB
                    exact ⟨rfl, hb1.trans (hB.mono hb1.size)⟩
            · rw [if_pos ⟨a1, a2⟩] at hf2
              subst hf2
              have a3 : (bits .and .u8 k 6 != 6) = true := by simpa using a2
              by_cases b1 : bits .and .u8 k 24 = 24
              · by_cases b2 : (8 : Int) < 255
                · by_cases b3 : (8 : Int) < x + 8
                  · have he : (decide (bits .and .u8 k 24 = 24) && decide ((8 : Int) < 255) && decide ((8 : Int) < x + 8)) = true := by simp [b1, b2, b3]
                    go_upto_region 24 with (fail)
                    go_loopw [76] (fun i wr => ∃ (j : Nat) (A : Nat → Value) (c : PC), i = .int .i64 j ∧ j ≤ N ∧ 341 * c.line + c.dot = j ∧ c.bus = k ∧ HI Y x lk k A c ∧ ST w1 w2 m A c wr) (fun i _ => N - (intOf i).toNat)
                    case atStart => exact ⟨0, A, c7, rfl, by omega, hpos, hbus, hI, h7⟩
                    case round =>
                      clear h7 hI hpos hbus
                      obtain ⟨v8, rfl⟩ : ∃ v8, v8 = wr := ⟨wr, rfl⟩
                      obtain ⟨j, A, c, rfl, hj, hpos, hbus, hI, hS⟩ := hrel
                      have FC := hS.clk (hI.ok hY)
                      have hd := hI.dot
                      have hl := hI.line
                      by_cases t3 : (j : Int) < N
                      · obtain ⟨hI2, hp2⟩ := hI.step hY hk hX (fun q => by rw [hf]; rw [q] at hpos; omega)
                        have hbus2 := (clkC_bus A c).trans hbus
                        rw [hpos] at hp2
                        have hj2 : j + 1 ≤ N := by omega
                        have hme : N - (j + 1) < N - j := by omega
                        have wj : IntKind.i64.wrap ((j : Int) + 1) = (j : Int) + 1 := IntWalk.i64_in _ ⟨by omega, by omega⟩
                        have hp3 : 341 * (clkC A c).line + (clkC A c).dot = ((j + 1 : Nat) : Int) := by omega
                        generalize fouA A c = A2 at *
                        generalize clkC A c = c2 at *
                        clear hI hS hp2 hpos hN w6'
                        go_wp2_with (go_at_call 32; refine FC.mono ?_; clear FC; rintro e v9 ⟨rfl, h9⟩)
                        go_roundw
                        case rel => exact ⟨j + 1, A2, c2, by go_num, hj2, hp3, hbus2, hI2, h9⟩
                        case measure => simpa [intOf] using hme
                      · have ej : j = N := by omega
                        subst ej
                        have el : c.line = Y + 1 := by omega
                        have ed : c.dot = 1 + fdX x k := by rw [hf]; rw [el] at hpos; omega
                        have hH := hI.last hY hk hX el ed
                        rw [hf, he] at hH
                        have hbus2 := (clkC_bus A c).trans hbus
                        have FK := hS.copy
                        have hok := hI.ok hY
                        have g1 := lk_hit c.bus (by rw [hbus]; exact hk) c.over c.hit c.blank
                        obtain ⟨B1, hB1⟩ : ∃ B, lkB k c.over false c.blank = B := ⟨_, rfl⟩
                        rw [hI.hit, hbus, hB1] at g1
                        have g2 := lk_hit (clkC A c).bus (by rw [hbus2]; exact hk) (clkC A c).over (clkC A c).hit (clkC A c).blank
                        obtain ⟨B2, hB2⟩ : ∃ B, lkB k (clkC A c).over true (clkC A c).blank = B := ⟨_, rfl⟩
                        rw [hH, hbus2, hB2] at g2
                        have hhit := hI.hit
                        clear FC hI hpos hN w6' hd hl
                        go_upto_region 28 with (first | (go_at_call 35; refine FK.mono ?_; clear FK; rintro e v9 ⟨rfl, h9, h10⟩; have FG := pGet2_any h10.px; rw [hhit, hbus, hB1] at FG) | (go_at_call 17; refine FG.mono ?_; clear FG; rintro e v11 ⟨rfl, h11⟩))
                        have h12 := hS.past h11.bel
                        have FC := h12.clk hok
                        clear h9 h10 h11 hS
                        go_upto_region 29 with (go_at_call 32; refine FC.mono ?_; clear FC; rintro e v13 ⟨rfl, h13⟩)
                        have FG := pGet2_any h13.px
                        rw [hH, hbus2, hB2] at FG
                        clear hB1 hB2 hbus hbus2 hhit hH
                        go_wp2_with (go_at_call 17; refine FG.mono ?_; clear FG; rintro e v14 ⟨rfl, h14⟩)
                        go_ret
                        have hB := h14.bel
                        rw [← hm] at hB
                        exact ⟨rfl, hb1.trans (hB.mono hb1.size)⟩
                  · have he : (decide (bits .and .u8 k 24 = 24) && decide ((8 : Int) < 255) && decide ((8 : Int) < x + 8)) = false := by simp [b3]
                    go_upto_region 24 with (fail)
                    go_loopw [76] (fun i wr => ∃ (j : Nat) (A : Nat → Value) (c : PC), i = .int .i64 j ∧ j ≤ N ∧ 341 * c.line + c.dot = j ∧ c.bus = k ∧ HI Y x lk k A c ∧ ST w1 w2 m A c wr) (fun i _ => N - (intOf i).toNat)
                    case atStart => exact ⟨0, A, c7, rfl, by omega, hpos, hbus, hI, h7⟩
                    case round =>
                      clear h7 hI hpos hbus
                      obtain ⟨v8, rfl⟩ : ∃ v8, v8 = wr := ⟨wr, rfl⟩
                      obtain ⟨j, A, c, rfl, hj, hpos, hbus, hI, hS⟩ := hrel
                      have FC := hS.clk (hI.ok hY)
                      have hd := hI.dot
                      have hl := hI.line
                      by_cases t3 : (j : Int) < N
                      · obtain ⟨hI2, hp2⟩ := hI.step hY hk hX (fun q => by rw [hf]; rw [q] at hpos; omega)
                        have hbus2 := (clkC_bus A c).trans hbus
                        rw [hpos] at hp2
                        have hj2 : j + 1 ≤ N := by omega
                        have hme : N - (j + 1) < N - j := by omega
                        have wj : IntKind.i64.wrap ((j : Int) + 1) = (j : Int) + 1 := IntWalk.i64_in _ ⟨by omega, by omega⟩
                        have hp3 : 341 * (clkC A c).line + (clkC A c).dot = ((j + 1 : Nat) : Int) := by omega
                        generalize fouA A c = A2 at *
                        generalize clkC A c = c2 at *
                        clear hI hS hp2 hpos hN w6'
                        go_wp2_with (go_at_call 32; refine FC.mono ?_; clear FC; rintro e v9 ⟨rfl, h9⟩)
                        go_roundw
                        case rel => exact ⟨j + 1, A2, c2, by go_num, hj2, hp3, hbus2, hI2, h9⟩
                        case measure => simpa [intOf] using hme
                      · have ej : j = N := by omega
                        subst ej
                        have el : c.line = Y + 1 := by omega
                        have ed : c.dot = 1 + fdX x k := by rw [hf]; rw [el] at hpos; omega
                        have hH := hI.last hY hk hX el ed
                        rw [hf, he] at hH
                        have hbus2 := (clkC_bus A c).trans hbus
                        have FK := hS.copy
                        have hok := hI.ok hY
                        have g1 := lk_hit c.bus (by rw [hbus]; exact hk) c.over c.hit c.blank
                        obtain ⟨B1, hB1⟩ : ∃ B, lkB k c.over false c.blank = B := ⟨_, rfl⟩
                        rw [hI.hit, hbus, hB1] at g1
                        have g2 := lk_hit (clkC A c).bus (by rw [hbus2]; exact hk) (clkC A c).over (clkC A c).hit (clkC A c).blank
                        obtain ⟨B2, hB2⟩ : ∃ B, lkB k (clkC A c).over false (clkC A c).blank = B := ⟨_, rfl⟩
                        rw [hH, hbus2, hB2] at g2
                        have hhit := hI.hit
                        clear FC hI hpos hN w6' hd hl
                        go_upto_region 28 with (first | (go_at_call 35; refine FK.mono ?_; clear FK; rintro e v9 ⟨rfl, h9, h10⟩; have FG := pGet2_any h10.px; rw [hhit, hbus, hB1] at FG) | (go_at_call 17; refine FG.mono ?_; clear FG; rintro e v11 ⟨rfl, h11⟩))
                        have h12 := hS.past h11.bel
                        have FC := h12.clk hok
                        clear h9 h10 h11 hS
                        go_upto_region 29 with (go_at_call 32; refine FC.mono ?_; clear FC; rintro e v13 ⟨rfl, h13⟩)
                        have FG := pGet2_any h13.px
                        rw [hH, hbus2, hB2] at FG
                        clear hB1 hB2 hbus hbus2 hhit hH
                        go_wp2_with (go_at_call 17; refine FG.mono ?_; clear FG; rintro e v14 ⟨rfl, h14⟩)
                        go_ret
                        have hB := h14.bel
                        rw [← hm] at hB
                        exact ⟨rfl, hb1.trans (hB.mono hb1.size)⟩
                · have he : (decide (bits .and .u8 k 24 = 24) && decide ((8 : Int) < 255) && decide ((8 : Int) < x + 8)) = false := by simp [b2]
                  go_upto_region 24 with (fail)
                  go_loopw [76] (fun i wr => ∃ (j : Nat) (A : Nat → Value) (c : PC), i = .int .i64 j ∧ j ≤ N ∧ 341 * c.line + c.dot = j ∧ c.bus = k ∧ HI Y x lk k A c ∧ ST w1 w2 m A c wr) (fun i _ => N - (intOf i).toNat)
                  case atStart => exact ⟨0, A, c7, rfl, by omega, hpos, hbus, hI, h7⟩
                  case round =>
                    clear h7 hI hpos hbus
                    obtain ⟨v8, rfl⟩ : ∃ v8, v8 = wr := ⟨wr, rfl⟩
                    obtain ⟨j, A, c, rfl, hj, hpos, hbus, hI, hS⟩ := hrel
                    have FC := hS.clk (hI.ok hY)
                    have hd := hI.dot
                    have hl := hI.line
                    by_cases t3 : (j : Int) < N
                    · obtain ⟨hI2, hp2⟩ := hI.step hY hk hX (fun q => by rw [hf]; rw [q] at hpos; omega)
                      have hbus2 := (clkC_bus A c).trans hbus
                      rw [hpos] at hp2
                      have hj2 : j + 1 ≤ N := by omega
                      have hme : N - (j + 1) < N - j := by omega
                      have wj : IntKind.i64.wrap ((j : Int) + 1) = (j : Int) + 1 := IntWalk.i64_in _ ⟨by omega, by omega⟩
                      have hp3 : 341 * (clkC A c).line + (clkC A c).dot = ((j + 1 : Nat) : Int) := by omega
                      generalize fouA A c = A2 at *
                      generalize clkC A c = c2 at *
                      clear hI hS hp2 hpos hN w6'
                      go_wp2_with (go_at_call 32; refine FC.mono ?_; clear FC; rintro e v9 ⟨rfl, h9⟩)
                      go_roundw
                      case rel => exact ⟨j + 1, A2, c2, by go_num, hj2, hp3, hbus2, hI2, h9⟩
                      case measure => simpa [intOf] using hme
                    · have ej : j = N := by omega
                      subst ej
                      have el : c.line = Y + 1 := by omega
                      have ed : c.dot = 1 + fdX x k := by rw [hf]; rw [el] at hpos; omega
                      have hH := hI.last hY hk hX el ed
                      rw [hf, he] at hH
                      have hbus2 := (clkC_bus A c).trans hbus
                      have FK := hS.copy
                      have hok := hI.ok hY
                      have g1 := lk_hit c.bus (by rw [hbus]; exact hk) c.over c.hit c.blank
                      obtain ⟨B1, hB1⟩ : ∃ B, lkB k c.over false c.blank = B := ⟨_, rfl⟩
                      rw [hI.hit, hbus, hB1] at g1
                      have g2 := lk_hit (clkC A c).bus (by rw [hbus2]; exact hk) (clkC A c).over (clkC A c).hit (clkC A c).blank
                      obtain ⟨B2, hB2⟩ : ∃ B, lkB k (clkC A c).over false (clkC A c).blank = B := ⟨_, rfl⟩
                      rw [hH, hbus2, hB2] at g2
                      have hhit := hI.hit
                      clear FC hI hpos hN w6' hd hl
                      go_upto_region 28 with (first | (go_at_call 35; refine FK.mono ?_; clear FK; rintro e v9 ⟨rfl, h9, h10⟩; have FG := pGet2_any h10.px; rw [hhit, hbus, hB1] at FG) | (go_at_call 17; refine FG.mono ?_; clear FG; rintro e v11 ⟨rfl, h11⟩))
                      have h12 := hS.past h11.bel
                      have FC := h12.clk hok
                      clear h9 h10 h11 hS
                      go_upto_region 29 with (go_at_call 32; refine FC.mono ?_; clear FC; rintro e v13 ⟨rfl, h13⟩)
                      have FG := pGet2_any h13.px
                      rw [hH, hbus2, hB2] at FG
                      clear hB1 hB2 hbus hbus2 hhit hH
                      go_wp2_with (go_at_call 17; refine FG.mono ?_; clear FG; rintro e v14 ⟨rfl, h14⟩)
                      go_ret
                      have hB := h14.bel
                      rw [← hm] at hB
                      exact ⟨rfl, hb1.trans (hB.mono hb1.size)⟩
              · have b4 : (bits .and .u8 k 24 == 24) = false := by simpa using b1
                have he : (decide (bits .and .u8 k 24 = 24) && decide ((8 : Int) < 255) && decide ((8 : Int) < x + 8)) = false := by simp [b1]
                go_upto_region 24 with (fail)
                go_loopw [76] (fun i wr => ∃ (j : Nat) (A : Nat → Value) (c : PC), i = .int .i64 j ∧ j ≤ N ∧ 341 * c.line + c.dot = j ∧ c.bus = k ∧ HI Y x lk k A c ∧ ST w1 w2 m A c wr) (fun i _ => N - (intOf i).toNat)
                case atStart => exact ⟨0, A, c7, rfl, by omega, hpos, hbus, hI, h7⟩
                case round =>
                  clear h7 hI hpos hbus
                  obtain ⟨v8, rfl⟩ : ∃ v8, v8 = wr := ⟨wr, rfl⟩
                  obtain ⟨j, A, c, rfl, hj, hpos, hbus, hI, hS⟩ := hrel
                  have FC := hS.clk (hI.ok hY)
                  have hd := hI.dot
                  have hl := hI.line
                  by_cases t3 : (j : Int) < N
                  · obtain ⟨hI2, hp2⟩ := hI.step hY hk hX (fun q => by rw [hf]; rw [q] at hpos; omega)
                    have hbus2 := (clkC_bus A c).trans hbus
                    rw [hpos] at hp2
                    have hj2 : j + 1 ≤ N := by omega
                    have hme : N - (j + 1) < N - j := by omega
                    have wj : IntKind.i64.wrap ((j : Int) + 1) = (j : Int) + 1 := IntWalk.i64_in _ ⟨by omega, by omega⟩
                    have hp3 : 341 * (clkC A c).line + (clkC A c).dot = ((j + 1 : Nat) : Int) := by omega
                    generalize fouA A c = A2 at *
                    generalize clkC A c = c2 at *
                    clear hI hS hp2 hpos hN w6'
                    go_wp2_with (go_at_call 32; refine FC.mono ?_; clear FC; rintro e v9 ⟨rfl, h9⟩)
                    go_roundw
                    case rel => exact ⟨j + 1, A2, c2, by go_num, hj2, hp3, hbus2, hI2, h9⟩
                    case measure => simpa [intOf] using hme
                  · have ej : j = N := by omega
                    subst ej
                    have el : c.line = Y + 1 := by omega
                    have ed : c.dot = 1 + fdX x k := by rw [hf]; rw [el] at hpos; omega
                    have hH := hI.last hY hk hX el ed
                    rw [hf, he] at hH
                    have hbus2 := (clkC_bus A c).trans hbus
                    have FK := hS.copy
                    have hok := hI.ok hY
                    have g1 := lk_hit c.bus (by rw [hbus]; exact hk) c.over c.hit c.blank
                    obtain ⟨B1, hB1⟩ : ∃ B, lkB k c.over false c.blank = B := ⟨_, rfl⟩
                    rw [hI.hit, hbus, hB1] at g1
                    have g2 := lk_hit (clkC A c).bus (by rw [hbus2]; exact hk) (clkC A c).over (clkC A c).hit (clkC A c).blank
                    obtain ⟨B2, hB2⟩ : ∃ B, lkB k (clkC A c).over false (clkC A c).blank = B := ⟨_, rfl⟩
                    rw [hH, hbus2, hB2] at g2
                    have hhit := hI.hit
                    clear FC hI hpos hN w6' hd hl
                    go_upto_region 28 with (first | (go_at_call 35; refine FK.mono ?_; clear FK; rintro e v9 ⟨rfl, h9, h10⟩; have FG := pGet2_any h10.px; rw [hhit, hbus, hB1] at FG) | (go_at_call 17; refine FG.mono ?_; clear FG; rintro e v11 ⟨rfl, h11⟩))
                    have h12 := hS.past h11.bel
                    have FC := h12.clk hok
                    clear h9 h10 h11 hS
                    go_upto_region 29 with (go_at_call 32; refine FC.mono ?_; clear FC; rintro e v13 ⟨rfl, h13⟩)
                    have FG := pGet2_any h13.px
                    rw [hH, hbus2, hB2] at FG
                    clear hB1 hB2 hbus hbus2 hhit hH
                    go_wp2_with (go_at_call 17; refine FG.mono ?_; clear FG; rintro e v14 ⟨rfl, h14⟩)
                    go_ret
                    have hB := h14.bel
                    rw [← hm] at hB
                    exact ⟨rfl, hb1.trans (hB.mono hb1.size)⟩
          · rw [if_neg (fun q => a1 q.1)] at hf2
            replace hf2 := hf2.symm
            subst hf2
            by_cases b1 : bits .and .u8 k 24 = 24
            · by_cases b2 : x < 255
              · by_cases b3 : x < x + 8
                · have he : (decide (bits .and .u8 k 24 = 24) && decide (x < 255) && decide (x < x + 8)) = true := by simp [b1, b2, b3]
                  go_upto_region 24 with (fail)
                  go_loopw [76] (fun i wr => ∃ (j : Nat) (A : Nat → Value) (c : PC), i = .int .i64 j ∧ j ≤ N ∧ 341 * c.line + c.dot = j ∧ c.bus = k ∧ HI Y x lk k A c ∧ ST w1 w2 m A c wr) (fun i _ => N - (intOf i).toNat)
                  case atStart => exact ⟨0, A, c7, rfl, by omega, hpos, hbus, hI, h7⟩
                  case round =>
                    clear h7 hI hpos hbus
                    obtain ⟨v8, rfl⟩ : ∃ v8, v8 = wr := ⟨wr, rfl⟩
                    obtain ⟨j, A, c, rfl, hj, hpos, hbus, hI, hS⟩ := hrel
                    have FC := hS.clk (hI.ok hY)
                    have hd := hI.dot
                    have hl := hI.line
                    by_cases t3 : (j : Int) < N
                    · obtain ⟨hI2, hp2⟩ := hI.step hY hk hX (fun q => by rw [hf]; rw [q] at hpos; omega)
                      have hbus2 := (clkC_bus A c).trans hbus
                      rw [hpos] at hp2
                      have hj2 : j + 1 ≤ N := by omega
                      have hme : N - (j + 1) < N - j := by omega
                      have wj : IntKind.i64.wrap ((j : Int) + 1) = (j : Int) + 1 := IntWalk.i64_in _ ⟨by omega, by omega⟩
                      have hp3 : 341 * (clkC A c).line + (clkC A c).dot = ((j + 1 : Nat) : Int) := by omega
                      generalize fouA A c = A2 at *
                      generalize clkC A c = c2 at *
                      clear hI hS hp2 hpos hN w6'
                      go_wp2_with (go_at_call 32; refine FC.mono ?_; clear FC; rintro e v9 ⟨rfl, h9⟩)
                      go_roundw
                      case rel => exact ⟨j + 1, A2, c2, by go_num, hj2, hp3, hbus2, hI2, h9⟩
                      case measure => simpa [intOf] using hme
                    · have ej : j = N := by omega
                      subst ej
                      have el : c.line = Y + 1 := by omega
                      have ed : c.dot = 1 + fdX x k := by rw [hf]; rw [el] at hpos; omega
                      have hH := hI.last hY hk hX el ed
                      rw [hf, he] at hH
                      have hbus2 := (clkC_bus A c).trans hbus
                      have FK := hS.copy
                      have hok := hI.ok hY
                      have g1 := lk_hit c.bus (by rw [hbus]; exact hk) c.over c.hit c.blank
                      obtain ⟨B1, hB1⟩ : ∃ B, lkB k c.over false c.blank = B := ⟨_, rfl⟩
                      rw [hI.hit, hbus, hB1] at g1
                      have g2 := lk_hit (clkC A c).bus (by rw [hbus2]; exact hk) (clkC A c).over (clkC A c).hit (clkC A c).blank
                      obtain ⟨B2, hB2⟩ : ∃ B, lkB k (clkC A c).over true (clkC A c).blank = B := ⟨_, rfl⟩
                      rw [hH, hbus2, hB2] at g2
                      have hhit := hI.hit
                      clear FC hI hpos hN w6' hd hl
                      go_upto_region 28 with (first | (go_at_call 35; refine FK.mono ?_; clear FK; rintro e v9 ⟨rfl, h9, h10⟩; have FG := pGet2_any h10.px; rw [hhit, hbus, hB1] at FG) | (go_at_call 17; refine FG.mono ?_; clear FG; rintro e v11 ⟨rfl, h11⟩))
                      have h12 := hS.past h11.bel
                      have FC := h12.clk hok
                      clear h9 h10 h11 hS
                      go_upto_region 29 with (go_at_call 32; refine FC.mono ?_; clear FC; rintro e v13 ⟨rfl, h13⟩)
                      have FG := pGet2_any h13.px
                      rw [hH, hbus2, hB2] at FG
                      clear hB1 hB2 hbus hbus2 hhit hH
                      go_wp2_with (go_at_call 17; refine FG.mono ?_; clear FG; rintro e v14 ⟨rfl, h14⟩)
                      go_ret
                      have hB := h14.bel
                      rw [← hm] at hB
                      exact ⟨rfl, hb1.trans (hB.mono hb1.size)⟩
                · have he : (decide (bits .and .u8 k 24 = 24) && decide (x < 255) && decide (x < x + 8)) = false := by simp [b3]
                  go_upto_region 24 with (fail)
                  go_loopw [76] (fun i wr => ∃ (j : Nat) (A : Nat → Value) (c : PC), i = .int .i64 j ∧ j ≤ N ∧ 341 * c.line + c.dot = j ∧ c.bus = k ∧ HI Y x lk k A c ∧ ST w1 w2 m A c wr) (fun i _ => N - (intOf i).toNat)
                  case atStart => exact ⟨0, A, c7, rfl, by omega, hpos, hbus, hI, h7⟩
                  case round =>
                    clear h7 hI hpos hbus
                    obtain ⟨v8, rfl⟩ : ∃ v8, v8 = wr := ⟨wr, rfl⟩
                    obtain ⟨j, A, c, rfl, hj, hpos, hbus, hI, hS⟩ := hrel
                    have FC := hS.clk (hI.ok hY)
                    have hd := hI.dot
                    have hl := hI.line
                    by_cases t3 : (j : Int) < N
                    · obtain ⟨hI2, hp2⟩ := hI.step hY hk hX (fun q => by rw [hf]; rw [q] at hpos; omega)
                      have hbus2 := (clkC_bus A c).trans hbus
                      rw [hpos] at hp2
                      have hj2 : j + 1 ≤ N := by omega
                      have hme : N - (j + 1) < N - j := by omega
                      have wj : IntKind.i64.wrap ((j : Int) + 1) = (j : Int) + 1 := IntWalk.i64_in _ ⟨by omega, by omega⟩
                      have hp3 : 341 * (clkC A c).line + (clkC A c).dot = ((j + 1 : Nat) : Int) := by omega
                      generalize fouA A c = A2 at *
                      generalize clkC A c = c2 at *
                      clear hI hS hp2 hpos hN w6'
                      go_wp2_with (go_at_call 32; refine FC.mono ?_; clear FC; rintro e v9 ⟨rfl, h9⟩)
                      go_roundw
                      case rel => exact ⟨j + 1, A2, c2, by go_num, hj2, hp3, hbus2, hI2, h9⟩
                      case measure => simpa [intOf] using hme
                    · have ej : j = N := by omega
                      subst ej
                      have el : c.line = Y + 1 := by omega
                      have ed : c.dot = 1 + fdX x k := by rw [hf]; rw [el] at hpos; omega
                      have hH := hI.last hY hk hX el ed
                      rw [hf, he] at hH
                      have hbus2 := (clkC_bus A c).trans hbus
                      have FK := hS.copy
                      have hok := hI.ok hY
                      have g1 := lk_hit c.bus (by rw [hbus]; exact hk) c.over c.hit c.blank
                      obtain ⟨B1, hB1⟩ : ∃ B, lkB k c.over false c.blank = B := ⟨_, rfl⟩
                      rw [hI.hit, hbus, hB1] at g1
                      have g2 := lk_hit (clkC A c).bus (by rw [hbus2]; exact hk) (clkC A c).over (clkC A c).hit (clkC A c).blank
                      obtain ⟨B2, hB2⟩ : ∃ B, lkB k (clkC A c).over false (clkC A c).blank = B := ⟨_, rfl⟩
                      rw [hH, hbus2, hB2] at g2
                      have hhit := hI.hit
                      clear FC hI hpos hN w6' hd hl
                      go_upto_region 28 with (first | (go_at_call 35; refine FK.mono ?_; clear FK; rintro e v9 ⟨rfl, h9, h10⟩; have FG := pGet2_any h10.px; rw [hhit, hbus, hB1] at FG) | (go_at_call 17; refine FG.mono ?_; clear FG; rintro e v11 ⟨rfl, h11⟩))
                      have h12 := hS.past h11.bel
                      have FC := h12.clk hok
                      clear h9 h10 h11 hS
                      go_upto_region 29 with (go_at_call 32; refine FC.mono ?_; clear FC; rintro e v13 ⟨rfl, h13⟩)
                      have FG := pGet2_any h13.px
                      rw [hH, hbus2, hB2] at FG
                      clear hB1 hB2 hbus hbus2 hhit hH
                      go_wp2_with (go_at_call 17; refine FG.mono ?_; clear FG; rintro e v14 ⟨rfl, h14⟩)
                      go_ret
                      have hB := h14.bel
                      rw [← hm] at hB
                      exact ⟨rfl, hb1.trans (hB.mono hb1.size)⟩
              · have he : (decide (bits .and .u8 k 24 = 24) && decide (x < 255) && decide (x < x + 8)) = false := by simp [b2]
                go_upto_region 24 with (fail)
                go_loopw [76] (fun i wr => ∃ (j : Nat) (A : Nat → Value) (c : PC), i = .int .i64 j ∧ j ≤ N ∧ 341 * c.line + c.dot = j ∧ c.bus = k ∧ HI Y x lk k A c ∧ ST w1 w2 m A c wr) (fun i _ => N - (intOf i).toNat)
                case atStart => exact ⟨0, A, c7, rfl, by omega, hpos, hbus, hI, h7⟩
                case round =>
                  clear h7 hI hpos hbus
                  obtain ⟨v8, rfl⟩ : ∃ v8, v8 = wr := ⟨wr, rfl⟩
                  obtain ⟨j, A, c, rfl, hj, hpos, hbus, hI, hS⟩ := hrel
                  have FC := hS.clk (hI.ok hY)
                  have hd := hI.dot
                  have hl := hI.line
                  by_cases t3 : (j : Int) < N
                  · obtain ⟨hI2, hp2⟩ := hI.step hY hk hX (fun q => by rw [hf]; rw [q] at hpos; omega)
                    have hbus2 := (clkC_bus A c).trans hbus
                    rw [hpos] at hp2
                    have hj2 : j + 1 ≤ N := by omega
                    have hme : N - (j + 1) < N - j := by omega
                    have wj : IntKind.i64.wrap ((j : Int) + 1) = (j : Int) + 1 := IntWalk.i64_in _ ⟨by omega, by omega⟩
                    have hp3 : 341 * (clkC A c).line + (clkC A c).dot = ((j + 1 : Nat) : Int) := by omega
                    generalize fouA A c = A2 at *
                    generalize clkC A c = c2 at *
                    clear hI hS hp2 hpos hN w6'
                    go_wp2_with (go_at_call 32; refine FC.mono ?_; clear FC; rintro e v9 ⟨rfl, h9⟩)
                    go_roundw
                    case rel => exact ⟨j + 1, A2, c2, by go_num, hj2, hp3, hbus2, hI2, h9⟩
                    case measure => simpa [intOf] using hme
                  · have ej : j = N := by omega
                    subst ej
                    have el : c.line = Y + 1 := by omega
                    have ed : c.dot = 1 + fdX x k := by rw [hf]; rw [el] at hpos; omega
                    have hH := hI.last hY hk hX el ed
                    rw [hf, he] at hH
                    have hbus2 := (clkC_bus A c).trans hbus
                    have FK := hS.copy
                    have hok := hI.ok hY
                    have g1 := lk_hit c.bus (by rw [hbus]; exact hk) c.over c.hit c.blank
                    obtain ⟨B1, hB1⟩ : ∃ B, lkB k c.over false c.blank = B := ⟨_, rfl⟩
                    rw [hI.hit, hbus, hB1] at g1
                    have g2 := lk_hit (clkC A c).bus (by rw [hbus2]; exact hk) (clkC A c).over (clkC A c).hit (clkC A c).blank
                    obtain ⟨B2, hB2⟩ : ∃ B, lkB k (clkC A c).over false (clkC A c).blank = B := ⟨_, rfl⟩
                    rw [hH, hbus2, hB2] at g2
                    have hhit := hI.hit
                    clear FC hI hpos hN w6' hd hl
                    go_upto_region 28 with (first | (go_at_call 35; refine FK.mono ?_; clear FK; rintro e v9 ⟨rfl, h9, h10⟩; have FG := pGet2_any h10.px; rw [hhit, hbus, hB1] at FG) | (go_at_call 17; refine FG.mono ?_; clear FG; rintro e v11 ⟨rfl, h11⟩))
                    have h12 := hS.past h11.bel
                    have FC := h12.clk hok
                    clear h9 h10 h11 hS
                    go_upto_region 29 with (go_at_call 32; refine FC.mono ?_; clear FC; rintro e v13 ⟨rfl, h13⟩)
                    have FG := pGet2_any h13.px
                    rw [hH, hbus2, hB2] at FG
                    clear hB1 hB2 hbus hbus2 hhit hH
                    go_wp2_with (go_at_call 17; refine FG.mono ?_; clear FG; rintro e v14 ⟨rfl, h14⟩)
                    go_ret
                    have hB := h14.bel
                    rw [← hm] at hB
                    exact ⟨rfl, hb1.trans (hB.mono hb1.size)⟩
            · have b4 : (bits .and .u8 k 24 == 24) = false := by simpa using b1
              have he : (decide (bits .and .u8 k 24 = 24) && decide (x < 255) && decide (x < x + 8)) = false := by simp [b1]
              go_upto_region 24 with (fail)
              go_loopw [76] (fun i wr => ∃ (j : Nat) (A : Nat → Value) (c : PC), i = .int .i64 j ∧ j ≤ N ∧ 341 * c.line + c.dot = j ∧ c.bus = k ∧ HI Y x lk k A c ∧ ST w1 w2 m A c wr) (fun i _ => N - (intOf i).toNat)
              case atStart => exact ⟨0, A, c7, rfl, by omega, hpos, hbus, hI, h7⟩
              case round =>
                clear h7 hI hpos hbus
                obtain ⟨v8, rfl⟩ : ∃ v8, v8 = wr := ⟨wr, rfl⟩
                obtain ⟨j, A, c, rfl, hj, hpos, hbus, hI, hS⟩ := hrel
                have FC := hS.clk (hI.ok hY)
                have hd := hI.dot
                have hl := hI.line
                by_cases t3 : (j : Int) < N
                · obtain ⟨hI2, hp2⟩ := hI.step hY hk hX (fun q => by rw [hf]; rw [q] at hpos; omega)
                  have hbus2 := (clkC_bus A c).trans hbus
                  rw [hpos] at hp2
                  have hj2 : j + 1 ≤ N := by omega
                  have hme : N - (j + 1) < N - j := by omega
                  have wj : IntKind.i64.wrap ((j : Int) + 1) = (j : Int) + 1 := IntWalk.i64_in _ ⟨by omega, by omega⟩
                  have hp3 : 341 * (clkC A c).line + (clkC A c).dot = ((j + 1 : Nat) : Int) := by omega
                  generalize fouA A c = A2 at *
                  generalize clkC A c = c2 at *
                  clear hI hS hp2 hpos hN w6'
                  go_wp2_with (go_at_call 32; refine FC.mono ?_; clear FC; rintro e v9 ⟨rfl, h9⟩)
                  go_roundw
                  case rel => exact ⟨j + 1, A2, c2, by go_num, hj2, hp3, hbus2, hI2, h9⟩
                  case measure => simpa [intOf] using hme
                · have ej : j = N := by omega
                  subst ej
                  have el : c.line = Y + 1 := by omega
                  have ed : c.dot = 1 + fdX x k := by rw [hf]; rw [el] at hpos; omega
                  have hH := hI.last hY hk hX el ed
                  rw [hf, he] at hH
                  have hbus2 := (clkC_bus A c).trans hbus
                  have FK := hS.copy
                  have hok := hI.ok hY
                  have g1 := lk_hit c.bus (by rw [hbus]; exact hk) c.over c.hit c.blank
                  obtain ⟨B1, hB1⟩ : ∃ B, lkB k c.over false c.blank = B := ⟨_, rfl⟩
                  rw [hI.hit, hbus, hB1] at g1
                  have g2 := lk_hit (clkC A c).bus (by rw [hbus2]; exact hk) (clkC A c).over (clkC A c).hit (clkC A c).blank
                  obtain ⟨B2, hB2⟩ : ∃ B, lkB k (clkC A c).over false (clkC A c).blank = B := ⟨_, rfl⟩
                  rw [hH, hbus2, hB2] at g2
                  have hhit := hI.hit
                  clear FC hI hpos hN w6' hd hl
                  go_upto_region 28 with (first | (go_at_call 35; refine FK.mono ?_; clear FK; rintro e v9 ⟨rfl, h9, h10⟩; have FG := pGet2_any h10.px; rw [hhit, hbus, hB1] at FG) | (go_at_call 17; refine FG.mono ?_; clear FG; rintro e v11 ⟨rfl, h11⟩))
                  have h12 := hS.past h11.bel
                  have FC := h12.clk hok
                  clear h9 h10 h11 hS
                  go_upto_region 29 with (go_at_call 32; refine FC.mono ?_; clear FC; rintro e v13 ⟨rfl, h13⟩)
                  have FG := pGet2_any h13.px
                  rw [hH, hbus2, hB2] at FG
                  clear hB1 hB2 hbus hbus2 hhit hH
                  go_wp2_with (go_at_call 17; refine FG.mono ?_; clear FG; rintro e v14 ⟨rfl, h14⟩)
                  go_ret
                  have hB := h14.bel
                  rw [← hm] at hB
                  exact ⟨rfl, hb1.trans (hB.mono hb1.size)⟩

end Go.Proofs.Ythldppdkheclkaa
