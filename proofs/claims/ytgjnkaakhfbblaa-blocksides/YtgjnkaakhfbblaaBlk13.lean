/- Contract of the document's Right (kotatsuref05). No law is claimed here. -/
import Derived.Test.YtgjnkaakhfbblaaBlk8
import Derived.Deep.DeepCutAuto
namespace Go.Proofs.Ytgjnkaakhfbblaa
open Go.RowKit

set_option maxRecDepth 100000 in
set_option maxHeartbeats 4000000 in
theorem right5_any (A : Option Addr) (n c : Nat) (S : Nat → Prop) (l : List Bm) (w : World) (hr : RdX shB w S A n c l) (hS : ∀ b, S b → b < w.heap.size) (hn : n ≤ 1000000) (hd : Hid (∀ x ∈ l, x.data.length ≤ 9223372036854775807)) :
    Calls Try.prog 24 #[.slice A n c] w fun e w' => e = .returned (.bool (rgtB l)) ∧ Below w.heap.size w w' := by
  have HL := Lib.hid hr.len
  have HG : Hid (rgtB l = (decide (n ≤ 512) && fitsB l n)) := by show _ = _; unfold rgtB; rw [HL.out]
  generalize rgtB l = ans at *
  go_enter Try.func24, Try.ntmps24
  go_wp2
  go_loopw [8] (fun i wr => ∃ (k : Nat), k ≤ n ∧ k ≤ 512 ∧ i = .int .i64 k ∧ Hid (fitsB l k = true) ∧ Below w.heap.size w wr) (fun i _ => n - (intOf i).toNat)
  case atStart => exact ⟨0, Nat.zero_le _, by omega, rfl, rfl, Below.refl _ _⟩
  case round =>
    obtain ⟨k, hk, hk5, rfl, hfit, hb⟩ := hrel
    have hsz := hb.size
    by_cases hlt : k < n
    · have hkx : k < l.length := by rw [HL.out]; exact hlt
      have hrk := hr.keep (Kp.below hb hS) (fun _ h => h)
      obtain ⟨b, off, A3, n3, c3, rfl, hSb, hc0, hc1, hrd⟩ := rdB_at hrk k hkx
      have hbA := hb.alloc hsz (.cells #[.int .u8 (l[k].kind.toNat : Int), .slice A3 n3 c3] 60)
      have hrt := hr.keep (Kp.below hbA hS) (fun _ h => h)
      have HO : Hid (okB l k = (decide (l[k].kind.toNat = kindN k) && decide (n3 = sizeN k (ahead l k)))) := by
        show _ = _; unfold okB; rw [getD_get _ _ _ hkx, hrd.len]
      have HS := Lib.hid (fitsB_succ (l := l) (k := k) hfit.out)
      have HF : Hid (okB l k = false → ans = false) := fun h => by
        rw [HG.out, Bool.and_eq_false_iff]; right
        rw [Bool.eq_false_iff]; intro hh; rw [fitsB_iff] at hh; rw [hh k hlt] at h; cases h
      have hx := (l[k].kind).toNat_lt
      have hz := sizeN_lt k (ahead l k)
      have hq := kindN_lt k
      have HK := fun w => kind5_any k w (by omega)
      have hbx := hS b hSb
      have hbig := hd.out _ (List.getElem_mem hkx)
      have hl3 := hrd.len
      have hn3 : n3 ≤ 9223372036854775807 := by omega
      have hL0 : (wr.alloc (.cells #[.int .u8 (l[k].kind.toNat : Int), .slice A3 n3 c3] 60)).cell? ⟨wr.heap.size, 0, none⟩ = some (.int .u8 (l[k].kind.toNat : Int)) := by
        rw [cell_of_row _ _ _ _ _ _ (heap_alloc_new wr _)]; rfl
      have hL1 : (wr.alloc (.cells #[.int .u8 (l[k].kind.toNat : Int), .slice A3 n3 c3] 60)).cell? ⟨wr.heap.size, 1, none⟩ = some (.slice A3 n3 c3) := by
        rw [cell_of_row _ _ _ _ _ _ (heap_alloc_new wr _)]; rfl
      clear hl3 hbig hrd hrk
      by_cases h1 : l[k].kind.toNat = kindN k
      case neg =>
        have HOk : Hid (ans = false) := HF.out (by rw [HO.out]; simp [h1])
        clear HO HS HF
        generalize l[k].kind.toNat = x at *
        generalize kindN k = q at *
        have t1 : ((x : Int) != (q : Int)) = true := by rw [bne_iff_ne]; omega
        clear h1
        go_wp2
        go_quiet (first | (go_at_call 29; exact quiet_still (HK _)))
        go_wp2
        go_ret
        rw [HOk.out]
        exact ⟨rfl, hbA.trans (Still.below ⟨_, rfl⟩ _)⟩
      case pos =>
        rw [← h1] at HK
        have HO2 : Hid (okB l k = decide (n3 = sizeN k (ahead l k))) := by show _ = _; rw [HO.out, h1]; simp
        clear HO hq h1
        generalize l[k].kind.toNat = x at *
        have t1 : ((x : Int) != (x : Int)) = false := by simp
        by_cases h5 : k < 512
        case neg =>
          have HOk : Hid (ans = false) := by show _ = _; rw [HG.out, decide_eq_false (by omega)]; rfl
          have t2 : decide ((k : Int) ≥ 512) = true := decide_eq_true (by omega)
          clear HO2 HS HF
          go_wp2
          go_quiet (first | (go_at_call 29; exact quiet_still (HK _)))
          go_wp2
          go_ret
          rw [HOk.out]
          exact ⟨rfl, hbA.trans (Still.below ⟨_, rfl⟩ _)⟩
        case pos =>
          have t2 : decide ((k : Int) ≥ 512) = false := decide_eq_false (by omega)
          go_wp2
          go_quiet (first | (go_at_call 29; exact quiet_still (HK _)))
          rename_i nq
          have hbq := hbA.trans (Still.below ⟨nq, rfl⟩ w.heap.size)
          have hL1q : ((wr.alloc (.cells #[.int .u8 (x : Int), .slice A3 n3 c3] 60)).drewN nq).cell? ⟨wr.heap.size, 1, none⟩ = some (.slice A3 n3 c3) := hL1
          have hrq := hrt.keep (Kp.drewN _ _ nq) (fun _ h => h)
          generalize wr.heap.size = B0 at *
          clear hrt hL0 hL1 hbA hb
          generalize (wr.alloc (.cells #[.int .u8 (x : Int), .slice A3 n3 c3] 60)).drewN nq = W at *
          go_upto_if 23 with fail
          go_cut [5] (fun v wx => ∃ (A2 : Option Addr) (n2 c2 : Nat), v = .slice A2 n2 c2 ∧ wx = W ∧ Hid (∀ W', Still W W' → Calls Try.prog 30 #[.int .i64 (k : Int), .slice A2 n2 c2] W' fun e w' => e = .returned (.int .i64 (sizeN k (ahead l k) : Int)) ∧ Still W' w'))
          case first =>
            by_cases hz0' : k = 0
            · have hg : decide ((k : Int) > 0) = false := decide_eq_false (by omega)
              go_wp2
              go_meet
              case rel =>
                refine ⟨none, 0, 0, rfl, rfl, fun W' _ => ?_⟩
                have h1 := bytes5_any k none 0 0 0 [] W' Rd.nil (by omega) (by omega) (by omega)
                subst hz0'
                exact h1
            · have hg : decide ((k : Int) > 0) = true := decide_eq_true (by omega)
              have hkl : k - 1 < l.length := by omega
              obtain ⟨b2, off2, A4, n4, c4, e4, _, hd0, hd1, hrd⟩ := rdB_at hrq (k - 1) hkl
              injection e4 with e4; injection e4 with e1 e2; subst e1; subst e2
              have ea : (l[k - 1]'hkl).data = ahead l k := by
                unfold ahead; rw [List.getD_eq_getElem?_getD, List.getElem?_eq_getElem hkl]; exact rfl
              have hbig := hd.out _ (List.getElem_mem hkl)
              rw [ea] at hrd hbig
              have hl4 := hrd.len
              have hto : k % 2 = 1 → 1 < k → 14 ≤ n4 := fun h1 h2 => by
                have := (okB_iff.1 (fitsB_iff.1 hfit.out (k - 1) (by omega))).2
                rw [← hl4]
                unfold ahead
                rw [this]
                unfold sizeN
                rw [if_neg (by omega), if_neg (by omega), if_pos (by omega)]
                omega
              have HC : Hid (∀ W', Still W W' → Calls Try.prog 30 #[.int .i64 (k : Int), .slice A4 n4 c4] W' fun e w' => e = .returned (.int .i64 (sizeN k (ahead l k) : Int)) ∧ Still W' w') :=
                fun W' hs' => bytes5_any k A4 n4 c4 _ (ahead l k) W' (hrd.toRd.still hs') (by omega) hto (by omega)
              have hc' : W.cell? ⟨b, off + (k - 1) * 2 + 1, none⟩ = some (.slice A4 n4 c4) := hd1
              have hi1 : ((k : Int) - 1) < n := by omega
              have hi0 : (0 : Int) ≤ (k : Int) - 1 := by omega
              have ht3 : ((k : Int) - 1).toNat = k - 1 := by omega
              clear hto hl4 hbig ea hrd hd0
              go_wp2
              go_meet
              case rel => exact ⟨A4, n4, c4, rfl, rfl, HC⟩
          case rest =>
            obtain ⟨A2, n2, c2, rfl, rfl, HC⟩ := hcut
            generalize sizeN k (ahead l k) = s at *
            by_cases h6 : n3 = s
            · subst h6
              have HOk := HS.out (by rw [HO2.out]; simp)
              have t3 : ((n3 : Int) != (n3 : Int)) = false := by simp
              clear HO2 HS HF
              go_wp2
              go_quiet (first | (go_at_call 30; exact quiet_still (HC.out _ ⟨_, rfl⟩)))
              go_wp2
              go_roundw
              case rel => exact ⟨k + 1, by omega, by omega, by go_num, HOk, hbq.trans (Still.below ⟨_, rfl⟩ _)⟩
              case measure => simp [intOf]; omega
            · have HOk : Hid (ans = false) := HF.out (by rw [HO2.out]; simp [h6])
              have t3 : ((n3 : Int) != (s : Int)) = true := by rw [bne_iff_ne]; omega
              clear HO2 HS HF h6
              go_wp2
              go_quiet (first | (go_at_call 30; exact quiet_still (HC.out _ ⟨_, rfl⟩)))
              go_wp2
              go_ret
              rw [HOk.out]
              exact ⟨rfl, hbq.trans (Still.below ⟨_, rfl⟩ _)⟩
    · go_wp2
      go_ret
      have hkn : k = n := by omega
      subst hkn
      have : ans = true := by rw [HG.out, hfit.out, decide_eq_true (by omega)]; rfl
      rw [this]
      exact ⟨rfl, hb⟩

end Go.Proofs.Ytgjnkaakhfbblaa
