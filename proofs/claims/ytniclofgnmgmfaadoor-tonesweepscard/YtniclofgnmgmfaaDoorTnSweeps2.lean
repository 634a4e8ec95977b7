/- ToneSweeps' walk. No law is claimed here. -/
import Derived.Test.YtniclofgnmgmfaaDoorTnSweeps
namespace Go.Proofs.YtniclofgnmgmfaaDoor
open Go.RowKit

theorem or8 (c : Int) (h : 0 ≤ c ∧ c < 6) : bits .or .u8 128 (1 + c) = 129 + c ∧ bits .or .u8 (129 + c) 8 = 137 + c := by
  have k : ∀ n : Fin 6, bits .or .u8 128 (1 + (n.val : Int)) = 129 + (n.val : Int) ∧ bits .or .u8 (129 + (n.val : Int)) 8 = 137 + (n.val : Int) := by decide +kernel
  have := k ⟨c.toNat, by omega⟩; rwa [show ((⟨c.toNat, by omega⟩ : Fin 6).val : Int) = c from Int.toNat_of_nonneg h.1] at this
/-- the kinds that are swept, in a block -/
structure SL (X : Nat) (v : World) : Prop where
  lt : X < v.heap.size
  c0 : v.cell? ⟨X, 0, none⟩ = some (.int .u8 0)
  c1 : v.cell? ⟨X, 1, none⟩ = some (.int .u8 1)
theorem SL.below {X B : Nat} {v v' : World} (h : SL X v) (hB : X < B) (hb : Below B v v') (hs : B ≤ v'.heap.size) : SL X v' :=
  ⟨by omega, (hb.cell (p := ⟨X, 0, none⟩) hB).trans h.c0, (hb.cell (p := ⟨X, 1, none⟩) hB).trans h.c1⟩

set_option maxRecDepth 100000 in
set_option maxHeartbeats 400000 in
theorem toneSweeps_walk (p0 y0 : Int) (down : Bool) (w : World) (hp0 : 0 ≤ p0 ∧ p0 < 65536) (hy0 : 0 ≤ y0 ∧ y0 < 256) (hg : gl w) :
    Calls Tryd.prog 9 #[.int .u16 p0, .int .u8 y0, .bool down] w fun e w' => e = .returned (.bool true) ∧ Below w.heap.size w w' := by
  have FA := awake11_any w hg
  obtain ⟨p, hp⟩ : ∃ p, 64 + p0 % 900 = p := ⟨_, rfl⟩
  have bp : 64 ≤ p ∧ p < 964 := by omega
  obtain ⟨y, hy⟩ : ∃ y, 1 + y0 % 6 = y := ⟨_, rfl⟩
  have by1 : 1 ≤ y ∧ y < 7 := by omega
  obtain ⟨o1, o2⟩ := or8 (y0 % 6) (by omega)
  rw [hy] at o1
  obtain ⟨r, hr⟩ : ∃ r, 129 + y0 % 6 = r := ⟨_, rfl⟩
  rw [hr] at o1 o2
  have hr2 : 137 + y0 % 6 = 8 + r := by omega
  rw [hr2] at o2
  obtain ⟨R, hR⟩ : ∃ R, (if down then 8 + r else r) = R := ⟨_, rfl⟩
  obtain ⟨c, hc⟩ : ∃ c, p / 2 ^ y.toNat = c := ⟨_, rfl⟩
  have hc2 : 0 ≤ c ∧ 2 * c ≤ p := by
    have h2 : (2 : Int) ^ y.toNat = 2 * 2 ^ (y.toNat - 1) := by
      rw [show y.toNat = (y.toNat - 1) + 1 by omega, Int.pow_succ, Int.mul_comm]; simp
    have hpos : (0 : Int) < 2 ^ (y.toNat - 1) := Int.pow_pos (by decide)
    have h0 : 0 ≤ c := by rw [← hc]; exact Int.ediv_nonneg (by omega) (by omega)
    have h1 : c * 2 ^ y.toNat ≤ p := by rw [← hc]; exact Int.ediv_mul_le _ (by omega)
    have h3 : c * 2 ≤ c * 2 ^ y.toNat := Int.mul_le_mul_of_nonneg_left (by omega) h0
    omega
  have FS := fun (K : Int) (hK : 0 ≤ K ∧ K < 2) => swS_is K R p y c down hK bp by1 (by rw [← hR, ← hr]; cases down <;> simp <;> omega) hc hc2
  have bR : 0 ≤ R ∧ R < 256 := by rw [← hR, ← hr]; cases down <;> simp <;> omega
  unfold swS at FS
  replace FS := fun (K : Int) (hK : 0 ≤ K ∧ K < 2) => (⟨swT K p c down, rfl, FS K hK⟩ : ∃ T, swT K p c down = T ∧ SWI T K 0 (clockT (putT (halfT (putT (putT (putT (putT (enT (newT K) true) 0 191) 1 R) 2 (p % 256)) 3 (p / 256))) 1 8)))
  have z1 : IntKind.u16.wrap (64 + p0 % 900) = p := by rw [wrap_u16_mod]; omega
  have z2 : IntKind.u8.wrap p = p % 256 := wrap_u8_mod _
  have z3 : IntKind.u8.wrap (p / 256) = p / 256 := by rw [wrap_u8_mod]; omega
  have blo : 0 ≤ p % 256 ∧ p % 256 < 256 := by omega
  have bhi : 0 ≤ p / 256 ∧ p / 256 < 256 := by omega
  obtain ⟨lo, hlo⟩ : ∃ lo, p % 256 = lo := ⟨_, rfl⟩
  obtain ⟨hi, hhi⟩ : ∃ hi, p / 256 = hi := ⟨_, rfl⟩
  rw [hlo] at blo z2 FS
  rw [hhi] at bhi FS
  rw [hhi] at z3
  clear hr hr2
  cases down
  all_goals
    simp only [if_true, if_false, Bool.false_eq_true] at hR
    subst hR
    go_enter Tryd.func9, Tryd.ntmps9
    go_upto_region 9 with (go_at_call 11; refine FA.mono ?_; rintro e w1 ⟨rfl, b1⟩; have g1 := hg.below b1)
    clear FA hp hy z1 o1 o2 hp0 hy0
    have hS0 : SL w1.heap.size (w1.alloc (.cells #[.int .u8 0, .int .u8 1] 5)) := ⟨by simp, cell_of_row _ _ _ _ _ _ (heap_alloc_new w1 _), cell_of_row _ _ _ _ _ _ (heap_alloc_new w1 _)⟩
    have hg0 : gl (w1.alloc (.cells #[.int .u8 0, .int .u8 1] 5)) := g1.ext ((Ext.refl _).alloc _)
    have hb0 : Below w1.heap.size w1 (w1.alloc (.cells #[.int .u8 0, .int .u8 1] 5)) := ((Ext.refl _).alloc _).below
    go_loopw [28] (fun i wr => ∃ k : Nat, k ≤ 2 ∧ i = .int .i64 k ∧ SL w1.heap.size wr ∧ gl wr ∧ Below w1.heap.size w1 wr) (fun i _ => 2 - (intOf i).toNat)
    case atStart => exact ⟨0, by decide, rfl, hS0, hg0, hb0⟩
    case round =>
      clear hS0 hg0 hb0
      obtain ⟨v, rfl⟩ : ∃ v, v = wr := ⟨wr, rfl⟩
      obtain ⟨k, hk, rfl, hS, hgv, hbv⟩ := hrel
      obtain ⟨x0, x1, x2⟩ := hS
      have hS : SL w1.heap.size v := ⟨x0, x1, x2⟩
      rcases (by omega : k = 0 ∨ k = 1 ∨ k = 2) with rfl | rfl | rfl
      · obtain ⟨T, hTe, hI⟩ := FS 0 (by decide)
        have FN := tnew_tw 0 v v (by decide) hgv (Below.refl _ _)
        clear FS
        unfold swT at hTe
        simp only [if_true, if_false, Bool.false_eq_true] at hTe
        have hT8 : 8 ≤ T ∧ T ≤ 2047 := by omega
        generalize newT 0 = s0 at *
        go_upto_region 21 with (first
          | (go_at_call 12; refine FN.mono ?_; rintro e w3 ⟨rfl, hT⟩)
          | (go_at_call 16; refine (hT.en true).mono ?_; clear hT; rintro e w4 ⟨rfl, hT⟩)
          | (go_at_call_of 18 (Value.int IntKind.u8 191); refine (hT.put 0 191 (by decide) (by decide)).mono ?_; clear hT; rintro e w5 ⟨rfl, hT⟩)
          | (go_at_call_of 18 (Value.int IntKind.u8 2); refine (hT.put 2 lo (by decide) blo).mono ?_; clear hT; rintro e w7 ⟨rfl, hT⟩)
          | (go_at_call_of 18 (Value.int IntKind.u8 3); refine (hT.put 3 hi (by decide) bhi).mono ?_; clear hT; rintro e w8 ⟨rfl, hT⟩)
          | (go_at_call_of 18 (Value.int IntKind.u8 8); refine (hT.put 1 8 (by decide) (by decide)).mono ?_; clear hT; rintro e w10 ⟨rfl, hT⟩)
          | (go_at_call_of 18 (Value.int IntKind.u8 1); refine (hT.put 1 _ (by decide) bR).mono ?_; clear hT; rintro e w6 ⟨rfl, hT⟩)
          | (go_at_call 26; refine hT.half.mono ?_; clear hT; rintro e w9 ⟨rfl, hT⟩)
          | (go_at_call 22; refine hT.clock.mono ?_; clear hT; rintro e w11 ⟨rfl, hT⟩))
        clear FN
        generalize clockT _ = s5 at hI hT
        go_loopw [11] (fun cn wr => ∃ (n : Nat) (s : TS), cn = .int .i64 n ∧ n ≤ 10000 ∧ SWI T 0 n s ∧ TW v v.heap.size s wr) (fun cn _ => 20000 - (intOf cn).toNat)
        case atStart => exact ⟨0, s5, rfl, by decide, hI, hT⟩
        case round =>
          clear hI hT
          obtain ⟨n, s, rfl, hn, hI, hT⟩ := hrel
          obtain ⟨q4, q5⟩ := hI.outs hT8.1 (by decide)
          have hst := hI.stp
          have htm := hI.tim
          have hO := hT.out
          rcases (by omega : s.stp ≤ 4 ∨ s.stp = 5) with h | h
          · rw [q4 h] at hO
            have hcn : (n : Int) + 1 ≤ 8192 := by
              have hc5 := hI.cnt
              rcases (by omega : s.stp = 1 ∨ s.stp = 2 ∨ s.stp = 3 ∨ s.stp = 4) with e | e | e | e <;> rw [e] at hc5 <;> omega
            have t1 : (n : Int) < 20000 := by omega
            have hN := hI.next (by decide) h
            go_wp2_with (first
              | (go_at_call 29; refine hO.mono ?_; clear hO; rintro e w12 ⟨rfl, q, rfl⟩; replace hT := hT.drewN q)
              | (go_at_call 22; refine hT.clock.mono ?_; clear hT; rintro e w13 ⟨rfl, hT⟩))
            go_roundw
            case rel => exact ⟨n + 1, clockT s, by go_num, by omega, by push_cast; exact hN, hT⟩
            case measure => simp [intOf]; omega
          · rw [q5 h] at hO
            have hc5 := hI.cnt
            rw [h, hI.fin h] at hc5
            have hnT : (n : Int) = 4 * (T + 1) := by omega
            rw [← hTe] at hnT
            clear q4 q5 hst htm hc5
            go_wp2_with (go_at_call 29; refine hO.mono ?_; clear hO; rintro e w12 ⟨rfl, q, rfl⟩; replace hT := hT.drewN q)
            go_roundw
            case rel => exact ⟨1, by decide, by go_num, hS.below x0 hT.below hT.below.size, hT.gl, hbv.trans (hT.below.mono hbv.size)⟩
            case measure => simp [intOf]
      · obtain ⟨T, hTe, hI⟩ := FS 1 (by decide)
        have FN := tnew_tw 1 v v (by decide) hgv (Below.refl _ _)
        clear FS
        unfold swT at hTe
        simp only [if_true, if_false, Bool.false_eq_true, show ¬ ((1 : Int) = 0) by decide] at hTe
        have hT8 : 8 ≤ T ∧ T ≤ 2047 := by omega
        generalize newT 1 = s0 at *
        go_upto_region 21 with (first
          | (go_at_call 12; refine FN.mono ?_; rintro e w3 ⟨rfl, hT⟩)
          | (go_at_call 16; refine (hT.en true).mono ?_; clear hT; rintro e w4 ⟨rfl, hT⟩)
          | (go_at_call_of 18 (Value.int IntKind.u8 191); refine (hT.put 0 191 (by decide) (by decide)).mono ?_; clear hT; rintro e w5 ⟨rfl, hT⟩)
          | (go_at_call_of 18 (Value.int IntKind.u8 2); refine (hT.put 2 lo (by decide) blo).mono ?_; clear hT; rintro e w7 ⟨rfl, hT⟩)
          | (go_at_call_of 18 (Value.int IntKind.u8 3); refine (hT.put 3 hi (by decide) bhi).mono ?_; clear hT; rintro e w8 ⟨rfl, hT⟩)
          | (go_at_call_of 18 (Value.int IntKind.u8 8); refine (hT.put 1 8 (by decide) (by decide)).mono ?_; clear hT; rintro e w10 ⟨rfl, hT⟩)
          | (go_at_call_of 18 (Value.int IntKind.u8 1); refine (hT.put 1 _ (by decide) bR).mono ?_; clear hT; rintro e w6 ⟨rfl, hT⟩)
          | (go_at_call 26; refine hT.half.mono ?_; clear hT; rintro e w9 ⟨rfl, hT⟩)
          | (go_at_call 22; refine hT.clock.mono ?_; clear hT; rintro e w11 ⟨rfl, hT⟩))
        clear FN
        generalize clockT _ = s5 at hI hT
        go_loopw [11] (fun cn wr => ∃ (n : Nat) (s : TS), cn = .int .i64 n ∧ n ≤ 10000 ∧ SWI T 1 n s ∧ TW v v.heap.size s wr) (fun cn _ => 20000 - (intOf cn).toNat)
        case atStart => exact ⟨0, s5, rfl, by decide, hI, hT⟩
        case round =>
          clear hI hT
          obtain ⟨n, s, rfl, hn, hI, hT⟩ := hrel
          obtain ⟨q4, q5⟩ := hI.outs hT8.1 (by decide)
          have hst := hI.stp
          have htm := hI.tim
          have hO := hT.out
          rcases (by omega : s.stp ≤ 4 ∨ s.stp = 5) with h | h
          · rw [q4 h] at hO
            have hcn : (n : Int) + 1 ≤ 8192 := by
              have hc5 := hI.cnt
              rcases (by omega : s.stp = 1 ∨ s.stp = 2 ∨ s.stp = 3 ∨ s.stp = 4) with e | e | e | e <;> rw [e] at hc5 <;> omega
            have t1 : (n : Int) < 20000 := by omega
            have hN := hI.next (by decide) h
            go_wp2_with (first
              | (go_at_call 29; refine hO.mono ?_; clear hO; rintro e w12 ⟨rfl, q, rfl⟩; replace hT := hT.drewN q)
              | (go_at_call 22; refine hT.clock.mono ?_; clear hT; rintro e w13 ⟨rfl, hT⟩))
            go_roundw
            case rel => exact ⟨n + 1, clockT s, by go_num, by omega, by push_cast; exact hN, hT⟩
            case measure => simp [intOf]; omega
          · rw [q5 h] at hO
            have hc5 := hI.cnt
            rw [h, hI.fin h] at hc5
            have hnT : (n : Int) = 4 * (T + 1) := by omega
            rw [← hTe] at hnT
            clear q4 q5 hst htm hc5
            go_wp2_with (go_at_call 29; refine hO.mono ?_; clear hO; rintro e w12 ⟨rfl, q, rfl⟩; replace hT := hT.drewN q)
            go_roundw
            case rel => exact ⟨2, by decide, by go_num, hS.below x0 hT.below hT.below.size, hT.gl, hbv.trans (hT.below.mono hbv.size)⟩
            case measure => simp [intOf]
      · go_wp2
        go_ret
        exact ⟨rfl, b1.trans (hbv.mono b1.size)⟩

end Go.Proofs.YtniclofgnmgmfaaDoor
