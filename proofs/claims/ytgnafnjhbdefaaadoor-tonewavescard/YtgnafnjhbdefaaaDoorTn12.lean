/- A tone's methods as steps: bounds are kept; 'TW': in the world v the block m is the tone s, all below it as it was. No law is claimed here. -/
import Derived.Test.YtgnafnjhbdefaaaDoorTn11
namespace Go.Proofs.YtgnafnjhbdefaaaDoor
open Go.RowKit

theorem ok_en {s : TS} (ok : TOk s) (on : Bool) : TOk (enT s on) := by
  have := ok.len
  cases on <;> exact ⟨ok.kind, ok.ctl, by unfold enT; simp; try omega, ok.tim, ok.per, ok.pulse, ok.stp, ok.st8, ok.lev, ok.div, ok.sreg, ok.sdiv, ok.lin, ok.bits⟩
theorem ok_adv {s : TS} (ok : TOk s) : TOk (advT s) := by
  have o1 := ok.stp
  have o2 := ok.bits
  have o3 := ok.st8
  unfold advT
  split
  · next k2 =>
    split
    · exact ⟨ok.kind, ok.ctl, ok.len, ok.tim, ok.per, ok.pulse, by show 0 ≤ (s.stp + 1) % 32 ∧ (s.stp + 1) % 32 < 32; omega, fun k => absurd k2 k, ok.lev, ok.div, ok.sreg, ok.sdiv, ok.lin, ok.bits⟩
    · exact ok
  · split
    · exact ⟨ok.kind, ok.ctl, ok.len, ok.tim, ok.per, ok.pulse, ok.stp, ok.st8, ok.lev, ok.div, ok.sreg, ok.sdiv, ok.lin, by show 0 ≤ bitT s ∧ bitT s < 32768; unfold bitT; split <;> omega⟩
    · exact ⟨ok.kind, ok.ctl, ok.len, ok.tim, ok.per, ok.pulse, by show 0 ≤ (s.stp + 1) % 8 ∧ (s.stp + 1) % 8 < 32; omega, fun _ => by show (s.stp + 1) % 8 < 8; omega, ok.lev, ok.div, ok.sreg, ok.sdiv, ok.lin, ok.bits⟩
theorem ok_clock {s : TS} (ok : TOk s) : TOk (clockT s) := by
  have o1 := ok.tim
  unfold clockT
  split
  · exact ⟨ok.kind, ok.ctl, ok.len, by show 0 ≤ s.tim - 1 ∧ s.tim - 1 < 4096; omega, ok.per, ok.pulse, ok.stp, ok.st8, ok.lev, ok.div, ok.sreg, ok.sdiv, ok.lin, ok.bits⟩
  · exact ok_adv ⟨ok.kind, ok.ctl, ok.len, ok.per, ok.per, ok.pulse, ok.stp, ok.st8, ok.lev, ok.div, ok.sreg, ok.sdiv, ok.lin, ok.bits⟩
theorem ok_lin {s : TS} (ok : TOk s) : TOk (linT s) := by
  have o1 := ok.lin
  have o2 := ok.ctl
  exact ⟨ok.kind, ok.ctl, ok.len, ok.tim, ok.per, ok.pulse, ok.stp, ok.st8, ok.lev, ok.div, ok.sreg, ok.sdiv, by unfold linT; simp only; (repeat' split) <;> omega, ok.bits⟩
theorem ok_env {s : TS} (ok : TOk s) : TOk (envT s) := by
  have o1 := ok.div
  have o2 := ok.lev
  have o3 := ok.ctl
  unfold envT
  split
  · exact ⟨ok.kind, ok.ctl, ok.len, ok.tim, ok.per, ok.pulse, ok.stp, ok.st8, by show (0 : Int) ≤ 15 ∧ (15 : Int) < 16; decide, by show 0 ≤ s.ctl % 16 ∧ s.ctl % 16 < 16; omega, ok.sreg, ok.sdiv, ok.lin, ok.bits⟩
  · split
    · exact ⟨ok.kind, ok.ctl, ok.len, ok.tim, ok.per, ok.pulse, ok.stp, ok.st8, ok.lev, by show 0 ≤ s.div - 1 ∧ s.div - 1 < 16; omega, ok.sreg, ok.sdiv, ok.lin, ok.bits⟩
    · exact ⟨ok.kind, ok.ctl, ok.len, ok.tim, ok.per, ok.pulse, ok.stp, ok.st8, by unfold fadeL; simp only; (repeat' split) <;> omega, by show 0 ≤ s.ctl % 16 ∧ s.ctl % 16 < 16; omega, ok.sreg, ok.sdiv, ok.lin, ok.bits⟩
theorem ok_qua {s : TS} (ok : TOk s) : TOk (quaT s) := by
  unfold quaT; split
  · exact ok_lin ok
  · exact ok_env ok
theorem ok_count {s : TS} (ok : TOk s) : TOk (countT s) := by
  have o1 := ok.sdiv
  exact ⟨ok.kind, ok.ctl, ok.len, ok.tim, ok.per, ok.pulse, ok.stp, ok.st8, ok.lev, ok.div, ok.sreg, by unfold countT; simp only; split <;> omega, ok.lin, ok.bits⟩
theorem ok_sweep {s : TS} (ok : TOk s) (hp : s.kind ≠ 3) : TOk (sweepT s) := by
  unfold sweepT
  split
  · next h => exact ok_count (ok.targ hp (by cases hm : mutT s <;> simp_all))
  · exact ok_count ok
theorem ok_len {s : TS} (ok : TOk s) : TOk (lenT s) := by
  have o1 := ok.len
  unfold lenT
  split
  · next h => exact ⟨ok.kind, ok.ctl, by show 0 ≤ s.len - 1 ∧ s.len - 1 < 256; omega, ok.tim, ok.per, ok.pulse, ok.stp, ok.st8, ok.lev, ok.div, ok.sreg, ok.sdiv, ok.lin, ok.bits⟩
  · exact ok
theorem ok_half {s : TS} (ok : TOk s) : TOk (halfT s) := by
  unfold halfT; split
  · exact ok_sweep (ok_len ok) (by omega)
  · exact ok_len ok
theorem ok_putN {s : TS} (ok : TOk s) (b : Int) (hk : s.kind = 3) (_hb : 0 ≤ b ∧ b < 256) : TOk (putN s b) := by
  have o1 := noiL_pos (b % 16) (by omega)
  exact ⟨ok.kind, ok.ctl, ok.len, ok.tim, by show 0 ≤ at0 noiL (b % 16) - 1 ∧ at0 noiL (b % 16) - 1 < 4096; omega, fun k => absurd hk k, ok.stp, ok.st8, ok.lev, ok.div, ok.sreg, ok.sdiv, ok.lin, ok.bits⟩
theorem ok_put2 {s : TS} (ok : TOk s) (b : Int) (hb : 0 ≤ b ∧ b < 256) : TOk (put2 s b) := by
  unfold put2; split
  · next h => exact ok_putN ok b h hb
  · exact ⟨ok.kind, ok.ctl, ok.len, ok.tim, by show 0 ≤ s.per / 256 % 8 * 256 + b ∧ s.per / 256 % 8 * 256 + b < 4096; omega, fun _ => by show s.per / 256 % 8 * 256 + b < 2048; omega, ok.stp, ok.st8, ok.lev, ok.div, ok.sreg, ok.sdiv, ok.lin, ok.bits⟩
theorem ok_put3 {s : TS} (ok : TOk s) (b : Int) (hb : 0 ≤ b ∧ b < 256) : TOk (put3 s b) := by
  have o1 := lenL_pos (b / 8) (by omega)
  have o2 := ok.len
  have o3 := ok.per
  have o4 := ok.stp
  exact ⟨ok.kind, ok.ctl, by unfold put3; simp only; split <;> omega, ok.tim, by unfold put3; simp only; split <;> omega, fun k => by have k' : s.kind ≠ 3 := k; unfold put3; simp only; rw [if_neg k']; omega,
    by unfold put3; simp only; split <;> omega, fun k => by have k' : s.kind ≠ 2 := k; unfold put3; simp only; rw [if_neg k']; decide, ok.lev, ok.div, ok.sreg, ok.sdiv, ok.lin, ok.bits⟩
theorem ok_put {s : TS} (ok : TOk s) (r b : Int) (hb : 0 ≤ b ∧ b < 256) : TOk (putT s r b) := by
  unfold putT
  split
  · exact ⟨ok.kind, hb, ok.len, ok.tim, ok.per, ok.pulse, ok.stp, ok.st8, ok.lev, ok.div, ok.sreg, ok.sdiv, ok.lin, ok.bits⟩
  · split
    · exact ⟨ok.kind, ok.ctl, ok.len, ok.tim, ok.per, ok.pulse, ok.stp, ok.st8, ok.lev, ok.div, hb, ok.sdiv, ok.lin, ok.bits⟩
    · split
      · exact ok_put2 ok b hb
      · split
        · exact ok_put3 ok b hb
        · exact ok

theorem gl.below {v v' : World} (h : gl v) (hb : Below v.heap.size v v') : gl v' := by
  have := h.lt
  exact ⟨Nat.lt_of_lt_of_le h.lt hb.size, fun i hi => (hb.cell (by show 0 < _; omega)).trans (h.noi i hi), fun i hi => (hb.cell (by show 1 < _; omega)).trans (h.len i hi), fun i hi => (hb.cell (by show 2 < _; omega)).trans (h.dut i hi)⟩
theorem rowT_more (w : World) (n : Nat) (t : TypeId) (l : List Value) (os : List Obj) (d : Nat) (h : n < w.heap.size) : more (rowT w n t l) os d = rowT (more w os d) n t l := by
  unfold more
  rw [rowT_fold os n t l w h]
  rfl

/-- in the world v the block m is the tone s; all below m is as it was in w0 -/
structure TW (w0 : World) (m : Nat) (s : TS) (v : World) : Prop where
  ex : ∃ w2, v = stT w2 m s ∧ m < w2.heap.size ∧ gl w2 ∧ Below m w0 w2
  ok : TOk s
  lo : 2 < m
theorem TW.below {w0 v : World} {m : Nat} {s : TS} (h : TW w0 m s v) : Below m w0 v := by
  obtain ⟨⟨w2, rfl, _, _, hb⟩, _, _⟩ := h
  exact rowT_below hb m (Nat.le_refl _) _ _
theorem gl.row {w : World} (h : gl w) (m : Nat) (hm : 2 < m) (s : TS) : gl (stT w m s) := by
  have hf := fun (p : Addr) (h : p.block ≠ m) => rowT_cellFar w m 67 s.cells p h
  exact ⟨by unfold stT; rw [rowT_size]; exact h.lt, fun i hi => (hf _ (by show 0 ≠ m; omega)).trans (h.noi i hi), fun i hi => (hf _ (by show 1 ≠ m; omega)).trans (h.len i hi), fun i hi => (hf _ (by show 2 ≠ m; omega)).trans (h.dut i hi)⟩
theorem TW.gl {w0 v : World} {m : Nat} {s : TS} (h : TW w0 m s v) : gl v := by
  obtain ⟨⟨w2, rfl, _, h2, _⟩, _, h4⟩ := h
  exact h2.row m h4 s
theorem TW.drewN {w0 v : World} {m : Nat} {s : TS} (h : TW w0 m s v) (q : Nat) : TW w0 m s (v.drewN q) := by
  obtain ⟨⟨w2, rfl, h1, h2, hb⟩, h3, h4⟩ := h
  exact ⟨⟨w2.drewN q, stT_drewN _ _ _ _, by simpa using h1, h2.drewN q, hb.trans (still_below _ _ _)⟩, h3, h4⟩
theorem TW.drew {w0 v : World} {m : Nat} {s : TS} (h : TW w0 m s v) : TW w0 m s v.drew := h.drewN 1
/-- behind what keeps all that there is -/
theorem TW.past {w0 v v' : World} {m : Nat} {s : TS} (h : TW w0 m s v) (hb : Below v.heap.size v v') : TW w0 m s v' := by
  obtain ⟨⟨w2, rfl, h1, h2, hb2⟩, h3, h4⟩ := h
  obtain ⟨os, d, rfl⟩ := more_of hb
  refine ⟨⟨more w2 os d, rowT_more _ _ _ _ _ _ h1, more_lt _ _ _ _ h1, h2.below (more_self _ _ _), ?_⟩, h3, h4⟩
  exact hb2.trans ((more_self w2 os d).mono (Nat.le_of_lt h1))
theorem TW.put {w0 v : World} {m : Nat} {s : TS} (h : TW w0 m s v) (r b : Int) (hr : 0 ≤ r) (hb : 0 ≤ b ∧ b < 256) :
    Calls Tryd.prog 18 #[.pointer (some ⟨m, 0, none⟩), .int .u8 r, .int .u8 b] v fun e v' => e = .returned (.tuple #[]) ∧ TW w0 m (putT s r b) v' := by
  obtain ⟨⟨w2, rfl, h1, h2, hb2⟩, h3, h4⟩ := h
  refine (tput_any w2 m s r b h1 h3 h2 h4 hr hb).mono ?_
  rintro e v' ⟨rfl, rfl⟩
  exact ⟨rfl, ⟨w2, rfl, h1, h2, hb2⟩, ok_put h3 r b hb, h4⟩
theorem TW.en {w0 v : World} {m : Nat} {s : TS} (h : TW w0 m s v) (on : Bool) :
    Calls Tryd.prog 16 #[.pointer (some ⟨m, 0, none⟩), .bool on] v fun e v' => e = .returned (.tuple #[]) ∧ TW w0 m (enT s on) v' := by
  obtain ⟨⟨w2, rfl, h1, h2, hb2⟩, h3, h4⟩ := h
  refine (ten_any w2 m s on h1).mono ?_
  rintro e v' ⟨rfl, rfl⟩
  exact ⟨rfl, ⟨w2, rfl, h1, h2, hb2⟩, ok_en h3 on, h4⟩
theorem TW.clock {w0 v : World} {m : Nat} {s : TS} (h : TW w0 m s v) :
    Calls Tryd.prog 22 #[.pointer (some ⟨m, 0, none⟩)] v fun e v' => e = .returned (.tuple #[]) ∧ TW w0 m (clockT s) v' := by
  obtain ⟨⟨w2, rfl, h1, h2, hb2⟩, h3, h4⟩ := h
  refine (tclock_any w2 m s h1 h3).mono ?_
  rintro e v' ⟨rfl, rfl⟩
  exact ⟨rfl, ⟨w2, rfl, h1, h2, hb2⟩, ok_clock h3, h4⟩
theorem TW.qua {w0 v : World} {m : Nat} {s : TS} (h : TW w0 m s v) :
    Calls Tryd.prog 20 #[.pointer (some ⟨m, 0, none⟩)] v fun e v' => e = .returned (.tuple #[]) ∧ TW w0 m (quaT s) v' := by
  obtain ⟨⟨w2, rfl, h1, h2, hb2⟩, h3, h4⟩ := h
  refine (tqua_any w2 m s h1 h3).mono ?_
  rintro e v' ⟨rfl, q, rfl⟩
  exact ⟨rfl, ⟨w2.drewN q, rfl, by simpa using h1, h2.drewN q, hb2.trans (still_below _ _ _)⟩, ok_qua h3, h4⟩
theorem TW.half {w0 v : World} {m : Nat} {s : TS} (h : TW w0 m s v) :
    Calls Tryd.prog 26 #[.pointer (some ⟨m, 0, none⟩)] v fun e v' => e = .returned (.tuple #[]) ∧ TW w0 m (halfT s) v' := by
  obtain ⟨⟨w2, rfl, h1, h2, hb2⟩, h3, h4⟩ := h
  refine (thalf_any w2 m s h1 h3).mono ?_
  rintro e v' ⟨rfl, q, rfl⟩
  exact ⟨rfl, ⟨w2.drewN q, rfl, by simpa using h1, h2.drewN q, hb2.trans (still_below _ _ _)⟩, ok_half h3, h4⟩
theorem TW.out {w0 v : World} {m : Nat} {s : TS} (h : TW w0 m s v) :
    Calls Tryd.prog 29 #[.pointer (some ⟨m, 0, none⟩)] v fun e v' => e = .returned (.int .u8 (outT s)) ∧ ∃ q, v' = v.drewN q := by
  obtain ⟨⟨w2, rfl, h1, h2, hb2⟩, h3, h4⟩ := h
  exact tout_any w2 m s h1 h3 h2 h4
theorem TW.live {w0 v : World} {m : Nat} {s : TS} (h : TW w0 m s v) :
    Calls Tryd.prog 25 #[.pointer (some ⟨m, 0, none⟩)] v fun e v' => e = .returned (.bool (decide (0 < s.len))) ∧ v' = v := by
  obtain ⟨⟨w2, rfl, h1, h2, hb2⟩, h3, h4⟩ := h
  exact tlive_any w2 m s h1
theorem tnew_tw (k : Int) (w0 w : World) (hk : 0 ≤ k ∧ k < 4) (hg : gl w) (hb : Below w.heap.size w0 w) :
    Calls Tryd.prog 12 #[.int .u8 k] w fun e w' => e = .returned (.pointer (some ⟨w.heap.size, 0, none⟩)) ∧ TW w0 w.heap.size (newT k) w' := by
  refine (tnew_any k w hk hg).mono ?_
  rintro e v' ⟨rfl, w2, rfl, hE, hl⟩
  exact ⟨rfl, ⟨w2, rfl, hl, hg.ext hE, hb.trans hE.below⟩, newT_ok k hk, hg.lt⟩

set_option maxRecDepth 100000 in
set_option maxHeartbeats 1000000 in
theorem awake11_any (w : World) (hg : gl w) : Calls Tryd.prog 11 #[] w fun e w' => e = .returned (.bool true) ∧ Below w.heap.size w w' := by
  have F1 := tnew_tw 2 w w (by decide) hg (Below.refl _ _)
  have E1 : outT (newT 2) = 15 := by simp [outT, newT]
  have E2 : outT (newT 3) = 0 := by simp [outT, newT]
  have F3 := fun w (hg : gl w) => tnew_tw 3 w w (by decide) hg (Below.refl _ _)
  have F4 := fun w => tnew_nil 4 w (by decide)
  generalize newT 2 = s2 at *
  generalize newT 3 = s3 at *
  go_enter Tryd.func11, Tryd.ntmps11
  go_wp2_with (first
    | (go_at_call_of 12 (Value.int IntKind.u8 2); refine F1.mono ?_; rintro e w1 ⟨rfl, hT⟩; have b1 := hT.below; have g1 := hT.gl)
    | (go_at_call_of 12 (Value.int IntKind.u8 3); refine (F3 _ (g1.drewN _)).mono ?_; rintro e w3 ⟨rfl, hT⟩; have b3 := hT.below)
    | (go_at_call_of 12 (Value.int IntKind.u8 4); refine (F4 _).mono ?_; rintro e w5 ⟨rfl, rfl⟩)
    | (go_at_call 29; refine hT.out.mono ?_; clear hT; rintro e w2 ⟨rfl, q1, rfl⟩))
  go_ret
  refine ⟨rfl, ?_⟩
  exact ((b1.trans (still_below _ _ _)).trans (b3.mono (by simpa using b1.size))).trans (still_below _ _ _)

end Go.Proofs.YtgnafnjhbdefaaaDoor
