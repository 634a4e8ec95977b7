/- A sound unit's methods. No law is claimed here. -/
import Derived.Test.YtghldekcnanciaaDoorSd5
namespace Go.Proofs.YtghldekcnanciaaDoor
open Go.RowKit

variable {B : Bool} {w0 v : World} {n : Nat} {p : Nat → Nat} {s : SS} {σ : Nat → TS}
theorem SW.ens (h : SW B w0 n p s σ v) (on : Bool) :
    Calls Tryd.prog 62 #[.pointer (some ⟨n, 4, none⟩), .bool on] v fun e w' => e = .returned (.tuple #[]) ∧ SW B w0 n p (ensS s on) σ w' :=
  h.onS (ok_ens h.ok on) (sdens_any v n p s on (lt_of_has h.snd) h.ok.r2 h.ok.r3 h.ok.rem.1)
theorem SW.sput (h : SW B w0 n p s σ v) (r : Nat) (hr : r < 4) (b : Int) (hb : 0 ≤ b ∧ b < 256) :
    Calls Tryd.prog 34 #[.pointer (some ⟨n, 4, none⟩), .int .u16 r, .int .u8 b] v fun e w' => e = .returned (.tuple #[]) ∧ SW B w0 n p (putS s r b) σ w' := by
  refine h.onS (ok_putS h.ok r b hb) ?_
  have hl := lt_of_has h.snd
  rcases (by omega : r = 0 ∨ r = 1 ∨ r = 2 ∨ r = 3) with rfl | rfl | rfl | rfl
  · exact sdput_0 v n p s b hl hb
  · exact sdput_1 v n p s b hl hb
  · exact sdput_2 v n p s b hl
  · exact sdput_3 v n p s b hl
theorem SW.frp (h : SW B w0 n p s σ v) (b : Int) (hb : 0 ≤ b ∧ b < 256) :
    Calls Tryd.prog 63 #[.pointer (some ⟨n, 18, none⟩), .int .u8 b] v fun e w' => e = .returned (.tuple #[]) ∧ SW B w0 n p (frpS s b) σ w' :=
  h.onS (ok_frp h.ok b) (sdfrp_any v n p s b (lt_of_has h.snd) hb)
theorem SW.frc (h : SW B w0 n p s σ v) :
    Calls Tryd.prog 42 #[.pointer (some ⟨n, 18, none⟩)] v fun e w' => e = .returned (.tuple #[.bool (quaB s), .bool (hlfB s)]) ∧ SW B w0 n p (frcS s) σ w' :=
  h.onS (ok_frc h.ok) (sdfrc_any v n p s (lt_of_has h.snd) h.ok.cnt)
theorem SW.smp (h : SW true w0 n p s σ v) :
    Calls Tryd.prog 47 #[.pointer (some ⟨n, 4, none⟩)] v fun e w' => e = .returned (.tuple #[]) ∧ SW true w0 n p (smpS s) σ w' :=
  h.onS (ok_smp h.ok) (sdsmp_any v n p s (lt_of_has h.snd) h.ok (h.gr rfl) (by have := h.hi; omega))
theorem SW.giv (h : SW B w0 n p s σ v) (b : Int) (hb : 0 ≤ b ∧ b < 256) (hr : 0 < s.rem) :
    Calls Tryd.prog 54 #[.pointer (some ⟨n, 4, none⟩), .int .u8 b] v fun e w' => e = .returned (.tuple #[]) ∧ SW B w0 n p (givS s b) σ w' :=
  h.onS (ok_giv h.ok b hb hr) (sdgiv_any v n p s b (lt_of_has h.snd) h.ok.r0 h.ok.r2 h.ok.r3 ⟨hr, h.ok.rem.2⟩ h.ok.adr)
theorem SW.ask (h : SW B w0 n p s σ v) :
    Calls Tryd.prog 53 #[.pointer (some ⟨n, 4, none⟩)] v fun e w' => e = .returned (.bool (askS s)) ∧ w' = v := by
  have := sdask_any v n p s (lt_of_has h.snd)
  rwa [hasS_is h.snd] at this

def bitB (b : Int) (k : Nat) : Bool := decide (b / 2 ^ k % 2 = 1)
theorem bitB_is (b : Int) (h : 0 ≤ b ∧ b < 256) : (bits .and .u8 b 1 != 0) = bitB b 0 ∧ (bits .and .u8 b 2 != 0) = bitB b 1 ∧ (bits .and .u8 b 4 != 0) = bitB b 2 ∧ (bits .and .u8 b 8 != 0) = bitB b 3 ∧ (bits .and .u8 b 16 != 0) = bitB b 4 := by
  have k : ∀ n : Fin 256, (bits .and .u8 (n.val : Int) 1 != 0) = bitB n.val 0 ∧ (bits .and .u8 (n.val : Int) 2 != 0) = bitB n.val 1 ∧ (bits .and .u8 (n.val : Int) 4 != 0) = bitB n.val 2 ∧ (bits .and .u8 (n.val : Int) 8 != 0) = bitB n.val 3 ∧ (bits .and .u8 (n.val : Int) 16 != 0) = bitB n.val 4 := by decide +kernel
  have := k ⟨b.toNat, by omega⟩; rwa [show ((⟨b.toNat, by omega⟩ : Fin 256).val : Int) = b from Int.toNat_of_nonneg h.1] at this

set_option maxRecDepth 100000 in
set_option maxHeartbeats 2000000 in
theorem SW.enable (h : SW B w0 n p s σ v) (b : Int) (hb : 0 ≤ b ∧ b < 256) :
    Calls Tryd.prog 35 #[.pointer (some ⟨n, 0, none⟩), .int .u8 b] v fun e w' => e = .returned (.tuple #[]) ∧ SW B w0 n p (ensS s (bitB b 4)) (stpT (fun k t => enT t (bitB b k)) σ 4) w' := by
  have h0 : SW B w0 n p s (stpT (fun k t => enT t (bitB b k)) σ 0) v := by rw [stpT_0]; exact h
  have cs := h.cs
  have t0 := cs.t0
  have t1 := cs.t1
  have t2 := cs.t2
  have t3 := cs.t3
  have hidx := fun k hk w => idx4 p k hk w
  obtain ⟨g0, g1, g2, g3, g4⟩ := bitB_is b hb
  clear h cs
  go_enter Tryd.func35, Tryd.ntmps35
  go_wp2
  unfold agg4 at hidx
  generalize Value.agg #[.pointer (some ⟨p 0, 0, none⟩), .pointer (some ⟨p 1, 0, none⟩), .pointer (some ⟨p 2, 0, none⟩), .pointer (some ⟨p 3, 0, none⟩)] = V at *
  clear t0 t1 t2 t3
  have hx0 : ∀ w, (Instr.index 65 V (.int .i64 0)).run Tryd.prog w = .ok (.pointer (some ⟨p 0, 0, none⟩)) w := hidx 0 (by decide)
  have hx1 : ∀ w, (Instr.index 65 V (.int .i64 1)).run Tryd.prog w = .ok (.pointer (some ⟨p 1, 0, none⟩)) w := hidx 1 (by decide)
  have hx2 : ∀ w, (Instr.index 65 V (.int .i64 2)).run Tryd.prog w = .ok (.pointer (some ⟨p 2, 0, none⟩)) w := hidx 2 (by decide)
  have hx3 : ∀ w, (Instr.index 65 V (.int .i64 3)).run Tryd.prog w = .ok (.pointer (some ⟨p 3, 0, none⟩)) w := hidx 3 (by decide)
  clear hidx
  go_loopw [10] (fun i wr => ∃ k : Nat, k ≤ 4 ∧ i = .int .i64 k ∧ SW B w0 n p s (stpT (fun k t => enT t (bitB b k)) σ k) wr) (fun i _ => 4 - (intOf i).toNat)
  case atStart => exact ⟨0, by decide, rfl, h0⟩
  case round =>
    clear h0
    obtain ⟨k, hk, rfl, hI⟩ := hrel
    by_cases h4 : k < 4
    · have FQ := hI.ten k h4 (bitB b k)
      rw [stpT_next (fun k t => enT t (bitB b k)) σ k] at FQ
      clear hI
      rcases (by omega : k = 0 ∨ k = 1 ∨ k = 2 ∨ k = 3) with rfl | rfl | rfl | rfl
      all_goals
        go_wp2_with (go_at_call 61; refine FQ.mono ?_; clear FQ; rintro e w1 ⟨rfl, hJ⟩)
        go_roundw
        case rel => exact ⟨_, by decide, rfl, hJ⟩
        case measure => simp [intOf]
    · obtain rfl : k = 4 := by omega
      have FE := hI.ens (bitB b 4)
      clear h4 hk
      go_wp2_with (go_at_call 62; refine FE.mono ?_; clear FE; rintro e w1 ⟨rfl, hJ⟩)
      (first | refine bodyPost_end (results_none rfl _ _ _) rfl ?_ | refine bodyPost_ret (results_none rfl _ _ _) rfl ?_)
      exact ⟨rfl, hJ⟩

/-- a quarter and a half of all tones -/
def qhT (σ : Nat → TS) : Nat → TS := stpT (fun _ => halfT) (stpT (fun _ => quaT) σ 4) 4
set_option maxRecDepth 100000 in
set_option maxHeartbeats 2000000 in
theorem SW.putFrame (h : SW B w0 n p s σ v) (b : Int) (hb : 0 ≤ b ∧ b < 256) :
    Calls Tryd.prog 36 #[.pointer (some ⟨n, 0, none⟩), .int .u8 b] v fun e w' => e = .returned (.tuple #[]) ∧ SW B w0 n p (frpS s b) (if 128 ≤ b then qhT σ else σ) w' := by
  have FP := h.frp b hb
  clear h
  by_cases h1 : 128 ≤ b
  · rw [if_pos h1]
    have hs : (frpS s b).sec = true := by unfold frpS; simp; omega
    go_enter Tryd.func36, Tryd.ntmps36
    go_wp2_with (first
      | (go_at_call 63; refine FP.mono ?_; clear FP; rintro e w1 ⟨rfl, h1'⟩; have c1 := h1'.cs.sec; rw [hs] at c1; have FQ := h1'.eachQ; clear h1')
      | (go_at_call 43; refine FQ.mono ?_; clear FQ; rintro e w2 ⟨rfl, h2⟩; have FH := h2.eachH; clear h2)
      | (go_at_call 43; refine FH.mono ?_; clear FH; rintro e w3 ⟨rfl, h3⟩))
    (first | refine bodyPost_end (results_none rfl _ _ _) rfl ?_ | refine bodyPost_ret (results_none rfl _ _ _) rfl ?_)
    exact ⟨rfl, h3⟩
  · rw [if_neg h1]
    have hs : (frpS s b).sec = false := by unfold frpS; simp; omega
    go_enter Tryd.func36, Tryd.ntmps36
    go_wp2_with (go_at_call 63; refine FP.mono ?_; clear FP; rintro e w1 ⟨rfl, h1'⟩; have c1 := h1'.cs.sec; rw [hs] at c1)
    (first | refine bodyPost_end (results_none rfl _ _ _) rfl ?_ | refine bodyPost_ret (results_none rfl _ _ _) rfl ?_)
    exact ⟨rfl, h1'⟩

end Go.Proofs.YtghldekcnanciaaDoor
