/- A sound unit's bounds; what goes through its four tones. No law is claimed here. -/
import Derived.Test.YtghldekcnanciaaDoorSd4
namespace Go.Proofs.YtghldekcnanciaaDoor
open Go.RowKit

theorem ok_beg {s : SS} (ok : SOk s) : SOk (begS s) := by
  have b2 := ok.r2
  have b3 := ok.r3
  exact ⟨ok.r0, ok.r1, ok.r2, ok.r3, ok.lev, ok.tim, ok.buf, ok.shf, ok.bits, by show 0 ≤ 49152 + 64 * s.r2 ∧ 49152 + 64 * s.r2 < 65536; omega, by show 0 ≤ 16 * s.r3 + 1 ∧ 16 * s.r3 + 1 ≤ 4081; omega, fun _ => by show 32768 ≤ 49152 + 64 * s.r2; omega, ok.cnt, ok.cnt1⟩
theorem ok_req {s : SS} (ok : SOk s) (b : Bool) : SOk { s with req := b } := ⟨ok.r0, ok.r1, ok.r2, ok.r3, ok.lev, ok.tim, ok.buf, ok.shf, ok.bits, ok.adr, ok.rem, ok.far, ok.cnt, ok.cnt1⟩
theorem ok_putS {s : SS} (ok : SOk s) (r : Nat) (b : Int) (hb : 0 ≤ b ∧ b < 256) : SOk (putS s r b) := by
  unfold putS
  split
  · exact ⟨hb, ok.r1, ok.r2, ok.r3, ok.lev, ok.tim, ok.buf, ok.shf, ok.bits, ok.adr, ok.rem, ok.far, ok.cnt, ok.cnt1⟩
  · split
    · exact ⟨ok.r0, hb, ok.r2, ok.r3, by show 0 ≤ b % 128 ∧ b % 128 < 128; omega, ok.tim, ok.buf, ok.shf, ok.bits, ok.adr, ok.rem, ok.far, ok.cnt, ok.cnt1⟩
    · split
      · exact ⟨ok.r0, ok.r1, hb, ok.r3, ok.lev, ok.tim, ok.buf, ok.shf, ok.bits, ok.adr, ok.rem, ok.far, ok.cnt, ok.cnt1⟩
      · exact ⟨ok.r0, ok.r1, ok.r2, hb, ok.lev, ok.tim, ok.buf, ok.shf, ok.bits, ok.adr, ok.rem, ok.far, ok.cnt, ok.cnt1⟩
theorem ok_ens {s : SS} (ok : SOk s) (on : Bool) : SOk (ensS s on) := by
  unfold ensS
  split
  · split
    · exact ok_beg (ok_req ok false)
    · exact ok_req ok false
  · exact ⟨ok.r0, ok.r1, ok.r2, ok.r3, ok.lev, ok.tim, ok.buf, ok.shf, ok.bits, ok.adr, by show (0 : Int) ≤ 0 ∧ (0 : Int) ≤ 4081; decide, fun k => absurd (show (0 : Int) < 0 from k) (by decide), ok.cnt, ok.cnt1⟩
theorem ok_giv {s : SS} (ok : SOk s) (b : Int) (hb : 0 ≤ b ∧ b < 256) (hr : 0 < s.rem) : SOk (givS s b) := by
  have h1 := ok.adr
  have h2 := ok.far hr
  have h3 := ok.rem
  have hA : 32768 ≤ orA (s.adr + 1) ∧ orA (s.adr + 1) < 65536 := by unfold orA; split <;> omega
  have okA : SOk (givA s b) := ⟨ok.r0, ok.r1, ok.r2, ok.r3, ok.lev, ok.tim, hb, ok.shf, ok.bits, by show 0 ≤ orA (s.adr + 1) ∧ orA (s.adr + 1) < 65536; omega, by show 0 ≤ s.rem - 1 ∧ s.rem - 1 ≤ 4081; omega, fun _ => hA.1, ok.cnt, ok.cnt1⟩
  unfold givS
  split
  · exact okA
  · split
    · exact ok_beg okA
    · split
      · exact ok_req okA true
      · exact okA
theorem ok_smp {s : SS} (ok : SOk s) : SOk (smpS s) := by
  have b1 := ok.tim
  have b2 := ok.bits
  have b3 := ok.lev
  have b4 := ok.shf
  have b5 := ratL_pos (s.r0 % 16) (by have := ok.r0; omega)
  have hbit : ∀ t : SS, SOk t → SOk (bitS t) := fun t ht => by
    have c1 := ht.bits
    unfold bitS
    split
    · exact ⟨ht.r0, ht.r1, ht.r2, ht.r3, ht.lev, ht.tim, ht.buf, by show 0 ≤ (if t.full then t.buf else t.shf) ∧ (if t.full then t.buf else t.shf) < 256; split; exact ht.buf; exact ht.shf, by show (1 : Int) ≤ 8 ∧ (8 : Int) ≤ 8; decide, ht.adr, ht.rem, ht.far, ht.cnt, ht.cnt1⟩
    · exact ⟨ht.r0, ht.r1, ht.r2, ht.r3, ht.lev, ht.tim, ht.buf, ht.shf, by show 1 ≤ t.bits - 1 ∧ t.bits - 1 ≤ 8; omega, ht.adr, ht.rem, ht.far, ht.cnt, ht.cnt1⟩
  have okT : SOk { s with tim := at0 ratL (s.r0 % 16) - 1 } := ⟨ok.r0, ok.r1, ok.r2, ok.r3, ok.lev, by show 0 ≤ at0 ratL (s.r0 % 16) - 1 ∧ at0 ratL (s.r0 % 16) - 1 < 428; omega, ok.buf, ok.shf, ok.bits, ok.adr, ok.rem, ok.far, ok.cnt, ok.cnt1⟩
  unfold smpS
  split
  · exact ⟨ok.r0, ok.r1, ok.r2, ok.r3, ok.lev, by show 0 ≤ s.tim - 1 ∧ s.tim - 1 < 428; omega, ok.buf, ok.shf, ok.bits, ok.adr, ok.rem, ok.far, ok.cnt, ok.cnt1⟩
  · split
    · exact hbit _ okT
    · refine hbit _ ⟨ok.r0, ok.r1, ok.r2, ok.r3, ?_, okT.tim, ok.buf, ?_, ok.bits, ok.adr, ok.rem, ok.far, ok.cnt, ok.cnt1⟩
      · show 0 ≤ levS s.lev s.shf ∧ levS s.lev s.shf < 128
        unfold levS; (repeat' split) <;> omega
      · show 0 ≤ s.shf / 2 ∧ s.shf / 2 < 256
        omega
theorem ok_frp {s : SS} (ok : SOk s) (b : Int) : SOk (frpS s b) :=
  ⟨ok.r0, ok.r1, ok.r2, ok.r3, ok.lev, ok.tim, ok.buf, ok.shf, ok.bits, ok.adr, ok.rem, ok.far, by show (0 : Int) ≤ 0 ∧ (0 : Int) ≤ 37281; decide, fun _ => by show (0 : Int) ≤ 29829; decide⟩
theorem ok_frc {s : SS} (ok : SOk s) : SOk (frcS s) := by
  have b1 := ok.cnt
  have b2 := ok.cnt1
  have hL : (s.sec = true ∧ lastS s = 37281) ∨ (s.sec = false ∧ lastS s = 29829) := by
    unfold lastS
    rcases Bool.eq_false_or_eq_true s.sec with e | e <;> simp [e]
  refine ⟨ok.r0, ok.r1, ok.r2, ok.r3, ok.lev, ok.tim, ok.buf, ok.shf, ok.bits, ok.adr, ok.rem, ok.far, ?_, ?_⟩
  · show 0 ≤ (if s.cnt + 1 = lastS s + 1 then 0 else s.cnt + 1) ∧ (if s.cnt + 1 = lastS s + 1 then 0 else s.cnt + 1) ≤ 37281
    rcases hL with ⟨e1, e2⟩ | ⟨e1, e2⟩ <;> rw [e2] <;> split <;> first | omega | (have := b2 e1; omega)
  · intro e
    have e' : s.sec = false := e
    show (if s.cnt + 1 = lastS s + 1 then 0 else s.cnt + 1) ≤ 29829
    have := b2 e'
    rcases hL with ⟨e1, e2⟩ | ⟨e1, e2⟩
    · rw [e'] at e1; cases e1
    · rw [e2]; split <;> omega
theorem ok_odd {s : SS} (ok : SOk s) (b : Bool) : SOk { s with odd := b } := ⟨ok.r0, ok.r1, ok.r2, ok.r3, ok.lev, ok.tim, ok.buf, ok.shf, ok.bits, ok.adr, ok.rem, ok.far, ok.cnt, ok.cnt1⟩
theorem ok_frq {s : SS} (ok : SOk s) (b : Bool) : SOk { s with frq := b } := ⟨ok.r0, ok.r1, ok.r2, ok.r3, ok.lev, ok.tim, ok.buf, ok.shf, ok.bits, ok.adr, ok.rem, ok.far, ok.cnt, ok.cnt1⟩

/-- the first k tones stepped -/
def stpT (f : Nat → TS → TS) (σ : Nat → TS) (k : Nat) : Nat → TS := fun j => if j < k then f j (σ j) else σ j
theorem stpT_0 (f : Nat → TS → TS) (σ : Nat → TS) : stpT f σ 0 = σ := by funext j; unfold stpT; rw [if_neg (by omega)]
theorem stpT_next (f : Nat → TS → TS) (σ : Nat → TS) (k : Nat) : updT (stpT f σ k) k (f k (stpT f σ k k)) = stpT f σ (k + 1) := by
  funext j
  unfold updT stpT
  by_cases e : j = k
  · subst e; rw [if_pos rfl, if_neg (by omega), if_pos (by omega)]
  · rw [if_neg e]
    by_cases e2 : j < k
    · rw [if_pos e2, if_pos (by omega)]
    · rw [if_neg e2, if_neg (by omega)]

def agg4 (p : Nat → Nat) : Value := .agg #[.pointer (some ⟨p 0, 0, none⟩), .pointer (some ⟨p 1, 0, none⟩), .pointer (some ⟨p 2, 0, none⟩), .pointer (some ⟨p 3, 0, none⟩)]
theorem idx4 (p : Nat → Nat) (k : Nat) (hk : k < 4) (w : World) : (Instr.index 65 (agg4 p) (.int .i64 (k : Int))).run Tryd.prog w = .ok (.pointer (some ⟨p k, 0, none⟩)) w := by
  rcases (by omega : k = 0 ∨ k = 1 ∨ k = 2 ∨ k = 3) with rfl | rfl | rfl | rfl <;> kernel_rfl

set_option maxRecDepth 100000 in
set_option maxHeartbeats 2000000 in
theorem SW.eachQ {B : Bool} {w0 v : World} {n : Nat} {p : Nat → Nat} {s : SS} {σ : Nat → TS} (h : SW B w0 n p s σ v) :
    Calls Tryd.prog 43 #[.pointer (some ⟨n, 0, none⟩), .func (.func 44) #[] #[]] v fun e w' => e = .returned (.tuple #[]) ∧ SW B w0 n p s (stpT (fun _ => quaT) σ 4) w' := by
  have h0 : SW B w0 n p s (stpT (fun _ => quaT) σ 0) v := by rw [stpT_0]; exact h
  have cs := h.cs
  have t0 := cs.t0
  have t1 := cs.t1
  have t2 := cs.t2
  have t3 := cs.t3
  have hidx := fun k hk w => idx4 p k hk w
  clear h cs
  go_enter Tryd.func43, Tryd.ntmps43
  go_wp2
  unfold agg4 at hidx
  generalize Value.agg #[.pointer (some ⟨p 0, 0, none⟩), .pointer (some ⟨p 1, 0, none⟩), .pointer (some ⟨p 2, 0, none⟩), .pointer (some ⟨p 3, 0, none⟩)] = V at *
  clear t0 t1 t2 t3
  go_loopw [10] (fun i wr => ∃ k : Nat, k ≤ 4 ∧ i = .int .i64 k ∧ SW B w0 n p s (stpT (fun _ => quaT) σ k) wr) (fun i _ => 4 - (intOf i).toNat)
  case atStart => exact ⟨0, by decide, rfl, h0⟩
  case round =>
    clear h0
    obtain ⟨k, hk, rfl, hI⟩ := hrel
    by_cases h4 : k < 4
    · have t5 : (k : Int) < 4 := by omega
      have hx := hidx k h4
      have FQ := hI.tqua k h4
      rw [stpT_next (fun _ => quaT) σ k] at FQ
      clear hidx hI
      go_wp2_with (go_at_call 44; refine FQ.mono ?_; clear FQ; rintro e w1 ⟨rfl, hJ⟩)
      go_roundw
      case rel => exact ⟨k + 1, by omega, by go_num, hJ⟩
      case measure => simp [intOf]; omega
    · obtain rfl : k = 4 := by omega
      clear hidx h4 hk
      go_wp2
      (first | refine bodyPost_end (results_none rfl _ _ _) rfl ?_ | refine bodyPost_ret (results_none rfl _ _ _) rfl ?_)
      exact ⟨rfl, hI⟩

set_option maxRecDepth 100000 in
set_option maxHeartbeats 2000000 in
theorem SW.eachH {B : Bool} {w0 v : World} {n : Nat} {p : Nat → Nat} {s : SS} {σ : Nat → TS} (h : SW B w0 n p s σ v) :
    Calls Tryd.prog 43 #[.pointer (some ⟨n, 0, none⟩), .func (.func 45) #[] #[]] v fun e w' => e = .returned (.tuple #[]) ∧ SW B w0 n p s (stpT (fun _ => halfT) σ 4) w' := by
  have h0 : SW B w0 n p s (stpT (fun _ => halfT) σ 0) v := by rw [stpT_0]; exact h
  have cs := h.cs
  have t0 := cs.t0
  have t1 := cs.t1
  have t2 := cs.t2
  have t3 := cs.t3
  have hidx := fun k hk w => idx4 p k hk w
  clear h cs
  go_enter Tryd.func43, Tryd.ntmps43
  go_wp2
  unfold agg4 at hidx
  generalize Value.agg #[.pointer (some ⟨p 0, 0, none⟩), .pointer (some ⟨p 1, 0, none⟩), .pointer (some ⟨p 2, 0, none⟩), .pointer (some ⟨p 3, 0, none⟩)] = V at *
  clear t0 t1 t2 t3
  go_loopw [10] (fun i wr => ∃ k : Nat, k ≤ 4 ∧ i = .int .i64 k ∧ SW B w0 n p s (stpT (fun _ => halfT) σ k) wr) (fun i _ => 4 - (intOf i).toNat)
  case atStart => exact ⟨0, by decide, rfl, h0⟩
  case round =>
    clear h0
    obtain ⟨k, hk, rfl, hI⟩ := hrel
    by_cases h4 : k < 4
    · have t5 : (k : Int) < 4 := by omega
      have hx := hidx k h4
      have FQ := hI.thalf k h4
      rw [stpT_next (fun _ => halfT) σ k] at FQ
      clear hidx hI
      go_wp2_with (go_at_call 45; refine FQ.mono ?_; clear FQ; rintro e w1 ⟨rfl, hJ⟩)
      go_roundw
      case rel => exact ⟨k + 1, by omega, by go_num, hJ⟩
      case measure => simp [intOf]; omega
    · obtain rfl : k = 4 := by omega
      clear hidx h4 hk
      go_wp2
      (first | refine bodyPost_end (results_none rfl _ _ _) rfl ?_ | refine bodyPost_ret (results_none rfl _ _ _) rfl ?_)
      exact ⟨rfl, hI⟩

end Go.Proofs.YtghldekcnanciaaDoor
