/- A wave's methods. No law is claimed here. -/
import Derived.Test.YtmhplbgoahknbaaDoorWv7
import Derived.StillTailTactics
namespace Go.Proofs.YtmhplbgoahknbaaDoor
open Go.RowKit

theorem pr_3 (s : WS) (b : Int) : prW s 3 b = if 128 ≤ b then { s with sum := 0, pos := 0 } else s := rfl
theorem pr_7 (s : WS) (b : Int) : prW s 7 b = if 128 ≤ b then { s with ms := 0 } else s := rfl
theorem pr_8 (s : WS) (b : Int) : prW s 8 b = if 128 ≤ s.reg 7 then entW s b else s := rfl
theorem pr_9 (s : WS) (b : Int) : prW s 9 b = if 128 ≤ b ∧ s.reg 9 < 128 then { s with held := outW s } else s := rfl
def ent1 (s : WS) (b : Int) : WS := { s with mt := upd s.mt s.mp.toNat (b % 8), mp := (s.mp + 1) % 64 }
def entK (s : WS) (b : Int) : Nat → WS
  | 0 => s
  | k + 1 => ent1 (entK s b k) b
theorem entK_b {s : WS} (b : Int) (h : 0 ≤ s.mp ∧ s.mp < 64) : ∀ k, 0 ≤ (entK s b k).mp ∧ (entK s b k).mp < 64
  | 0 => h
  | k + 1 => by show 0 ≤ ((entK s b k).mp + 1) % 64 ∧ ((entK s b k).mp + 1) % 64 < 64; omega
theorem entK_2 (s : WS) (b : Int) : entK s b 2 = entW s b := rfl

set_option maxRecDepth 100000 in
set_option maxHeartbeats 1000000 in
theorem AtW.enter {w v : World} {n : Nat} {s : WS} (hx : AtW w n s v) (h : n < w.heap.size) (bp : 0 ≤ s.mp ∧ s.mp < 64) (b : Int) (hb : 0 ≤ b ∧ b < 256) :
    Calls Tryd.prog 43 #[.pointer (some ⟨n, 83, none⟩), .int .u8 b] v fun e v' => e = .returned (.tuple #[]) ∧ AtW w n (entW s b) v' := by
  have z1 := m7 b hb
  have bK := entK_b (s := s) b bp
  rw [← entK_2]
  go_enter Tryd.func43, Tryd.ntmps43
  go_upto_region 0 with (fail)
  go_wp2
  go_loopw [4] (fun i wr => ∃ k : Nat, k ≤ 2 ∧ i = .int .i64 k ∧ AtW w n (entK s b k) wr) (fun i _ => 2 - (intOf i).toNat)
  case atStart => exact ⟨0, by decide, rfl, hx⟩
  case round =>
    clear hx
    obtain ⟨k, hk, rfl, hx⟩ := hrel
    by_cases h2 : k < 2
    · have h3 : (k : Int) < 2 := by omega
      have b1 := bK k
      obtain ⟨j, hj⟩ := natOf (entK s b k).mp b1.1
      have hjt : (entK s b k).mp.toNat = j := by omega
      have j1 : j < 64 := by omega
      have j2 : (j : Int) < 64 := by omega
      have FS : ∀ v, AtW w n { entK s b k with mt := upd (entK s b k).mt j (b % 8) } v → Calls Tryd.prog 40 #[.pointer (some ⟨n, 147, none⟩), .int .i64 1] v fun e v' => e = .returned (.tuple #[]) ∧ AtW w n (entK s b (k + 1)) v' := by
        intro v hv
        have e : entK s b (k + 1) = { entK s b k with mt := upd (entK s b k).mt j (b % 8), mp := ((entK s b k).mp + 1) % 64 } := by
          show ent1 (entK s b k) b = _
          unfold ent1; rw [hjt]
        rw [e]
        exact hv.mstep h b1
      have hset : ∀ v, AtW w n (entK s b k) v → AtW w n { entK s b k with mt := upd (entK s b k).mt j (b % 8) } (v.setCell ⟨n, 83 + j, none⟩ (.int .u8 (b % 8))) := fun v hv => hv.set (fun w => sw_mt w n _ j _ j1) rfl
      have cw := hx.cw h
      have c1 := cw.mp
      have fz := cw.fz
      have c2 := cw.mt j j1
      rw [hj] at c1
      clear cw hj hjt bK b1
      go_upto_region 2 with (fail)
      go_still_tail 11, (by kernel_rfl)
      change wpList _ _ _ _ _ (World.drew _)
      go_wp2_with (go_at_call 40; refine (FS _ (hset _ hx.drew)).mono ?_; rintro e w' ⟨rfl, hx2⟩)
      go_roundw
      case rel => exact ⟨k + 1, by omega, by go_num, hx2⟩
      case measure => simp [intOf]; omega
    · have hk2 : k = 2 := by omega
      subst hk2
      clear h2 hk
      go_wp2
      (first | refine bodyPost_end (results_none rfl _ _ _) rfl ?_ | refine bodyPost_ret (results_none rfl _ _ _) rfl ?_)
      exact ⟨rfl, hx⟩

set_option maxRecDepth 100000 in
set_option maxHeartbeats 1000000 in
theorem AtW.preg0 {w v : World} {n : Nat} {s : WS} (hx : AtW w n s v) (h : n < w.heap.size) (_ok : WOk s) (_hg : gw w) (_h1n : 0 < n) (b : Int) (hb : 0 ≤ b ∧ b < 256) :
    Calls Tryd.prog 29 #[.pointer (some ⟨n, 0, none⟩), .int .u16 0, .int .u8 b] v fun e v' => e = .returned (.tuple #[]) ∧ AtW w n (putR s 0 b) v' := by
  have hfin : ∀ s v, AtW w n s v → AtW w n (regW s 0 b) (v.setCell ⟨n, 0, none⟩ (.int .u8 b)) := fun s v hv => hv.set (fun w => sw_reg w n s 0 b (by decide)) rfl
  unfold putR
  have fz := (hx.cw h).fz
  have cr := (hx.cw h).reg 0 (by decide)
  rw [show prW s 0 b = evW s b from rfl]
  have F0 := hx.eput0 h b hb
  go_enter Tryd.func29, Tryd.ntmps29
  go_wp2_with (go_at_call 41; refine F0.mono ?_; rintro e w' ⟨rfl, hx2⟩; have fz2 := (hx2.cw h).fz; have cr2 := (hx2.cw h).reg 0 (by decide))
  (first | refine bodyPost_end (results_none rfl _ _ _) rfl ?_ | refine bodyPost_ret (results_none rfl _ _ _) rfl ?_)
  exact ⟨rfl, hfin _ _ hx2⟩

set_option maxRecDepth 100000 in
set_option maxHeartbeats 1000000 in
theorem AtW.preg1 {w v : World} {n : Nat} {s : WS} (hx : AtW w n s v) (h : n < w.heap.size) (_ok : WOk s) (_hg : gw w) (_h1n : 0 < n) (b : Int) (_hb : 0 ≤ b ∧ b < 256) :
    Calls Tryd.prog 29 #[.pointer (some ⟨n, 0, none⟩), .int .u16 1, .int .u8 b] v fun e v' => e = .returned (.tuple #[]) ∧ AtW w n (putR s 1 b) v' := by
  have hfin : ∀ s v, AtW w n s v → AtW w n (regW s 1 b) (v.setCell ⟨n, 1, none⟩ (.int .u8 b)) := fun s v hv => hv.set (fun w => sw_reg w n s 1 b (by decide)) rfl
  unfold putR
  have fz := (hx.cw h).fz
  have cr := (hx.cw h).reg 1 (by decide)
  rw [show prW s 1 b = s from rfl]
  go_enter Tryd.func29, Tryd.ntmps29
  go_wp2
  (first | refine bodyPost_end (results_none rfl _ _ _) rfl ?_ | refine bodyPost_ret (results_none rfl _ _ _) rfl ?_)
  exact ⟨rfl, hfin _ _ hx⟩

set_option maxRecDepth 100000 in
set_option maxHeartbeats 1000000 in
theorem AtW.preg2 {w v : World} {n : Nat} {s : WS} (hx : AtW w n s v) (h : n < w.heap.size) (_ok : WOk s) (_hg : gw w) (_h1n : 0 < n) (b : Int) (_hb : 0 ≤ b ∧ b < 256) :
    Calls Tryd.prog 29 #[.pointer (some ⟨n, 0, none⟩), .int .u16 2, .int .u8 b] v fun e v' => e = .returned (.tuple #[]) ∧ AtW w n (putR s 2 b) v' := by
  have hfin : ∀ s v, AtW w n s v → AtW w n (regW s 2 b) (v.setCell ⟨n, 2, none⟩ (.int .u8 b)) := fun s v hv => hv.set (fun w => sw_reg w n s 2 b (by decide)) rfl
  unfold putR
  have fz := (hx.cw h).fz
  have cr := (hx.cw h).reg 2 (by decide)
  rw [show prW s 2 b = s from rfl]
  go_enter Tryd.func29, Tryd.ntmps29
  go_wp2
  (first | refine bodyPost_end (results_none rfl _ _ _) rfl ?_ | refine bodyPost_ret (results_none rfl _ _ _) rfl ?_)
  exact ⟨rfl, hfin _ _ hx⟩

set_option maxRecDepth 100000 in
set_option maxHeartbeats 1000000 in
theorem AtW.preg3 {w v : World} {n : Nat} {s : WS} (hx : AtW w n s v) (h : n < w.heap.size) (_ok : WOk s) (_hg : gw w) (_h1n : 0 < n) (b : Int) (hb : 0 ≤ b ∧ b < 256) :
    Calls Tryd.prog 29 #[.pointer (some ⟨n, 0, none⟩), .int .u16 3, .int .u8 b] v fun e v' => e = .returned (.tuple #[]) ∧ AtW w n (putR s 3 b) v' := by
  have hfin : ∀ s v, AtW w n s v → AtW w n (regW s 3 b) (v.setCell ⟨n, 3, none⟩ (.int .u8 b)) := fun s v hv => hv.set (fun w => sw_reg w n s 3 b (by decide)) rfl
  unfold putR
  have fz := (hx.cw h).fz
  have cr := (hx.cw h).reg 3 (by decide)
  rcases c128 b hb with ⟨h1, h2⟩ | ⟨h1, h2⟩
  · rw [pr_3, if_neg (by omega)]
    go_enter Tryd.func29, Tryd.ntmps29
    go_wp2
    (first | refine bodyPost_end (results_none rfl _ _ _) rfl ?_ | refine bodyPost_ret (results_none rfl _ _ _) rfl ?_)
    exact ⟨rfl, hfin _ _ hx⟩
  · rw [pr_3, if_pos h1]
    have ca := (hx.cw h).sum
    have ca2 := (hx.cw h).pos
    have hs : ∀ v, AtW w n s v → AtW w n { s with sum := 0, pos := 0 } ((v.setCell ⟨n, 75, none⟩ (.int .i64 0)).setCell ⟨n, 76, none⟩ (.int .i64 0)) := fun v hv => (hv.set (fun w => sw_sum w n s 0) rfl).set (fun w => sw_pos w n _ 0) rfl
    go_enter Tryd.func29, Tryd.ntmps29
    go_wp2
    (first | refine bodyPost_end (results_none rfl _ _ _) rfl ?_ | refine bodyPost_ret (results_none rfl _ _ _) rfl ?_)
    exact ⟨rfl, hfin _ _ (hs _ hx)⟩

set_option maxRecDepth 100000 in
set_option maxHeartbeats 1000000 in
theorem AtW.preg4 {w v : World} {n : Nat} {s : WS} (hx : AtW w n s v) (h : n < w.heap.size) (_ok : WOk s) (_hg : gw w) (_h1n : 0 < n) (b : Int) (hb : 0 ≤ b ∧ b < 256) :
    Calls Tryd.prog 29 #[.pointer (some ⟨n, 0, none⟩), .int .u16 4, .int .u8 b] v fun e v' => e = .returned (.tuple #[]) ∧ AtW w n (putR s 4 b) v' := by
  have hfin : ∀ s v, AtW w n s v → AtW w n (regW s 4 b) (v.setCell ⟨n, 4, none⟩ (.int .u8 b)) := fun s v hv => hv.set (fun w => sw_reg w n s 4 b (by decide)) rfl
  unfold putR
  have fz := (hx.cw h).fz
  have cr := (hx.cw h).reg 4 (by decide)
  rw [show prW s 4 b = edW s b from rfl]
  have F0 := hx.eput4 h b hb
  go_enter Tryd.func29, Tryd.ntmps29
  go_wp2_with (go_at_call 41; refine F0.mono ?_; rintro e w' ⟨rfl, hx2⟩; have fz2 := (hx2.cw h).fz; have cr2 := (hx2.cw h).reg 4 (by decide))
  (first | refine bodyPost_end (results_none rfl _ _ _) rfl ?_ | refine bodyPost_ret (results_none rfl _ _ _) rfl ?_)
  exact ⟨rfl, hfin _ _ hx2⟩

set_option maxRecDepth 100000 in
set_option maxHeartbeats 1000000 in
theorem AtW.preg5 {w v : World} {n : Nat} {s : WS} (hx : AtW w n s v) (h : n < w.heap.size) (_ok : WOk s) (_hg : gw w) (_h1n : 0 < n) (b : Int) (hb : 0 ≤ b ∧ b < 256) :
    Calls Tryd.prog 29 #[.pointer (some ⟨n, 0, none⟩), .int .u16 5, .int .u8 b] v fun e v' => e = .returned (.tuple #[]) ∧ AtW w n (putR s 5 b) v' := by
  have hfin : ∀ s v, AtW w n s v → AtW w n (regW s 5 b) (v.setCell ⟨n, 5, none⟩ (.int .u8 b)) := fun s v hv => hv.set (fun w => sw_reg w n s 5 b (by decide)) rfl
  unfold putR
  have fz := (hx.cw h).fz
  have cr := (hx.cw h).reg 5 (by decide)
  rw [show prW s 5 b = { s with mc := sgnW (b % 128) } from rfl]
  have ca := (hx.cw h).mc
  have z1 := m127 b hb
  have FG := fun w => wsigned_any (b % 128) w ⟨by omega, by omega⟩
  have hs : ∀ x v, AtW w n s v → AtW w n { s with mc := x } (v.setCell ⟨n, 149, none⟩ (.int .i64 x)) := fun x v hv => hv.set (fun w => sw_mc w n s x) rfl
  go_enter Tryd.func29, Tryd.ntmps29
  go_wp2_with (go_at_call 42; refine (FG _).mono ?_; rintro e w' ⟨rfl, rfl⟩)
  (first | refine bodyPost_end (results_none rfl _ _ _) rfl ?_ | refine bodyPost_ret (results_none rfl _ _ _) rfl ?_)
  exact ⟨rfl, hfin _ _ (hs _ _ hx)⟩

set_option maxRecDepth 100000 in
set_option maxHeartbeats 1000000 in
theorem AtW.preg6 {w v : World} {n : Nat} {s : WS} (hx : AtW w n s v) (h : n < w.heap.size) (_ok : WOk s) (_hg : gw w) (_h1n : 0 < n) (b : Int) (_hb : 0 ≤ b ∧ b < 256) :
    Calls Tryd.prog 29 #[.pointer (some ⟨n, 0, none⟩), .int .u16 6, .int .u8 b] v fun e v' => e = .returned (.tuple #[]) ∧ AtW w n (putR s 6 b) v' := by
  have hfin : ∀ s v, AtW w n s v → AtW w n (regW s 6 b) (v.setCell ⟨n, 6, none⟩ (.int .u8 b)) := fun s v hv => hv.set (fun w => sw_reg w n s 6 b (by decide)) rfl
  unfold putR
  have fz := (hx.cw h).fz
  have cr := (hx.cw h).reg 6 (by decide)
  rw [show prW s 6 b = s from rfl]
  go_enter Tryd.func29, Tryd.ntmps29
  go_wp2
  (first | refine bodyPost_end (results_none rfl _ _ _) rfl ?_ | refine bodyPost_ret (results_none rfl _ _ _) rfl ?_)
  exact ⟨rfl, hfin _ _ hx⟩

set_option maxRecDepth 100000 in
set_option maxHeartbeats 1000000 in
theorem AtW.preg7 {w v : World} {n : Nat} {s : WS} (hx : AtW w n s v) (h : n < w.heap.size) (_ok : WOk s) (_hg : gw w) (_h1n : 0 < n) (b : Int) (hb : 0 ≤ b ∧ b < 256) :
    Calls Tryd.prog 29 #[.pointer (some ⟨n, 0, none⟩), .int .u16 7, .int .u8 b] v fun e v' => e = .returned (.tuple #[]) ∧ AtW w n (putR s 7 b) v' := by
  have hfin : ∀ s v, AtW w n s v → AtW w n (regW s 7 b) (v.setCell ⟨n, 7, none⟩ (.int .u8 b)) := fun s v hv => hv.set (fun w => sw_reg w n s 7 b (by decide)) rfl
  unfold putR
  have fz := (hx.cw h).fz
  have cr := (hx.cw h).reg 7 (by decide)
  rcases c128 b hb with ⟨h1, h2⟩ | ⟨h1, h2⟩
  · rw [pr_7, if_neg (by omega)]
    go_enter Tryd.func29, Tryd.ntmps29
    go_wp2
    (first | refine bodyPost_end (results_none rfl _ _ _) rfl ?_ | refine bodyPost_ret (results_none rfl _ _ _) rfl ?_)
    exact ⟨rfl, hfin _ _ hx⟩
  · rw [pr_7, if_pos h1]
    have ca := (hx.cw h).ms
    have hs : ∀ v, AtW w n s v → AtW w n { s with ms := 0 } (v.setCell ⟨n, 147, none⟩ (.int .i64 0)) := fun v hv => hv.set (fun w => sw_ms w n s 0) rfl
    go_enter Tryd.func29, Tryd.ntmps29
    go_wp2
    (first | refine bodyPost_end (results_none rfl _ _ _) rfl ?_ | refine bodyPost_ret (results_none rfl _ _ _) rfl ?_)
    exact ⟨rfl, hfin _ _ (hs _ hx)⟩

set_option maxRecDepth 100000 in
set_option maxHeartbeats 1000000 in
theorem AtW.preg8 {w v : World} {n : Nat} {s : WS} (hx : AtW w n s v) (h : n < w.heap.size) (ok : WOk s) (_hg : gw w) (_h1n : 0 < n) (b : Int) (hb : 0 ≤ b ∧ b < 256) :
    Calls Tryd.prog 29 #[.pointer (some ⟨n, 0, none⟩), .int .u16 8, .int .u8 b] v fun e v' => e = .returned (.tuple #[]) ∧ AtW w n (putR s 8 b) v' := by
  have hfin : ∀ s v, AtW w n s v → AtW w n (regW s 8 b) (v.setCell ⟨n, 8, none⟩ (.int .u8 b)) := fun s v hv => hv.set (fun w => sw_reg w n s 8 b (by decide)) rfl
  unfold putR
  have fz := (hx.cw h).fz
  have cr := (hx.cw h).reg 8 (by decide)
  have FH := hx.has7 h ok
  rcases (by omega : 128 ≤ s.reg 7 ∨ ¬ 128 ≤ s.reg 7) with h1 | h1
  · rw [pr_8, if_pos h1]
    have d1 : decide (128 ≤ s.reg 7) = true := by simp; omega
    rw [d1] at FH
    have FE := fun v (hx : AtW w n s v) => hx.enter h ok.mp b hb
    clear d1 h1
    go_enter Tryd.func29, Tryd.ntmps29
    go_wp2_with (first
      | (go_at_call 35; refine FH.mono ?_; rintro e w' ⟨rfl, rfl⟩)
      | (go_at_call 43; refine (FE _ hx).mono ?_; rintro e w' ⟨rfl, hx2⟩; have fz2 := (hx2.cw h).fz; have cr2 := (hx2.cw h).reg 8 (by decide)))
    (first | refine bodyPost_end (results_none rfl _ _ _) rfl ?_ | refine bodyPost_ret (results_none rfl _ _ _) rfl ?_)
    exact ⟨rfl, hfin _ _ hx2⟩
  · rw [pr_8, if_neg h1]
    have d1 : decide (128 ≤ s.reg 7) = false := by simp; omega
    rw [d1] at FH
    clear d1 h1
    go_enter Tryd.func29, Tryd.ntmps29
    go_wp2_with (go_at_call 35; refine FH.mono ?_; rintro e w' ⟨rfl, rfl⟩)
    (first | refine bodyPost_end (results_none rfl _ _ _) rfl ?_ | refine bodyPost_ret (results_none rfl _ _ _) rfl ?_)
    exact ⟨rfl, hfin _ _ hx⟩

set_option maxRecDepth 100000 in
set_option maxHeartbeats 1000000 in
theorem AtW.preg9 {w v : World} {n : Nat} {s : WS} (hx : AtW w n s v) (h : n < w.heap.size) (ok : WOk s) (hg : gw w) (h1n : 0 < n) (b : Int) (hb : 0 ≤ b ∧ b < 256) :
    Calls Tryd.prog 29 #[.pointer (some ⟨n, 0, none⟩), .int .u16 9, .int .u8 b] v fun e v' => e = .returned (.tuple #[]) ∧ AtW w n (putR s 9 b) v' := by
  have hfin : ∀ s v, AtW w n s v → AtW w n (regW s 9 b) (v.setCell ⟨n, 9, none⟩ (.int .u8 b)) := fun s v hv => hv.set (fun w => sw_reg w n s 9 b (by decide)) rfl
  unfold putR
  have fz := (hx.cw h).fz
  have cr := (hx.cw h).reg 9 (by decide)
  have FH := hx.isHeld h ok
  have ca := (hx.cw h).held
  have FO := hx.out h ok hg h1n
  have hs : ∀ x v, AtW w n s v → AtW w n { s with held := x } (v.setCell ⟨n, 151, none⟩ (.int .i64 x)) := fun x v hv => hv.set (fun w => sw_held w n s x) rfl
  rcases c128 b hb with ⟨h1, h2⟩ | ⟨h1, h2⟩
  · rw [pr_9, if_neg (by omega)]
    go_enter Tryd.func29, Tryd.ntmps29
    go_wp2
    (first | refine bodyPost_end (results_none rfl _ _ _) rfl ?_ | refine bodyPost_ret (results_none rfl _ _ _) rfl ?_)
    exact ⟨rfl, hfin _ _ hx⟩
  · rcases (by omega : 128 ≤ s.reg 9 ∨ s.reg 9 < 128) with h3 | h3
    · rw [pr_9, if_neg (by omega)]
      have d1 : decide (128 ≤ s.reg 9) = true := by simp; omega
      rw [d1] at FH
      clear d1 h3
      go_enter Tryd.func29, Tryd.ntmps29
      go_wp2_with (go_at_call 27; refine FH.mono ?_; rintro e w' ⟨rfl, rfl⟩)
      (first | refine bodyPost_end (results_none rfl _ _ _) rfl ?_ | refine bodyPost_ret (results_none rfl _ _ _) rfl ?_)
      exact ⟨rfl, hfin _ _ hx⟩
    · rw [pr_9, if_pos ⟨h1, h3⟩]
      have d1 : decide (128 ≤ s.reg 9) = false := by simp; omega
      rw [d1] at FH
      clear d1 h3
      generalize outW s = O at *
      go_enter Tryd.func29, Tryd.ntmps29
      go_wp2_with (first
        | (go_at_call 27; refine FH.mono ?_; rintro e w' ⟨rfl, rfl⟩)
        | (go_at_call 14; refine FO.mono ?_; rintro e w' ⟨rfl, q, rfl⟩; replace hx := hx.drewN q; replace fz := (hx.cw h).fz; replace cr := (hx.cw h).reg 9 (by decide); replace ca := (hx.cw h).held; generalize World.drewN _ q = v at *))
      (first | refine bodyPost_end (results_none rfl _ _ _) rfl ?_ | refine bodyPost_ret (results_none rfl _ _ _) rfl ?_)
      exact ⟨rfl, hfin _ _ (hs _ _ hx)⟩

set_option maxRecDepth 100000 in
set_option maxHeartbeats 1000000 in
theorem AtW.preg10 {w v : World} {n : Nat} {s : WS} (hx : AtW w n s v) (h : n < w.heap.size) (_ok : WOk s) (_hg : gw w) (_h1n : 0 < n) (b : Int) (_hb : 0 ≤ b ∧ b < 256) :
    Calls Tryd.prog 29 #[.pointer (some ⟨n, 0, none⟩), .int .u16 10, .int .u8 b] v fun e v' => e = .returned (.tuple #[]) ∧ AtW w n (putR s 10 b) v' := by
  have hfin : ∀ s v, AtW w n s v → AtW w n (regW s 10 b) (v.setCell ⟨n, 10, none⟩ (.int .u8 b)) := fun s v hv => hv.set (fun w => sw_reg w n s 10 b (by decide)) rfl
  unfold putR
  have fz := (hx.cw h).fz
  have cr := (hx.cw h).reg 10 (by decide)
  rw [show prW s 10 b = s from rfl]
  go_enter Tryd.func29, Tryd.ntmps29
  go_wp2
  (first | refine bodyPost_end (results_none rfl _ _ _) rfl ?_ | refine bodyPost_ret (results_none rfl _ _ _) rfl ?_)
  exact ⟨rfl, hfin _ _ hx⟩

end Go.Proofs.YtmhplbgoahknbaaDoor
