/- The picture unit: one sprite of full tiles before full tiles. No law is claimed here. -/
import Derived.Test.YthldppdkheclkaaPc20
set_option linter.unusedSimpArgs false
set_option linter.unusedVariables false
namespace Go.Proofs.Ythldppdkheclkaa
open Go.RowKit Go.Great

variable {w0 v0 v v' : World} {m : Nat} {A : Nat → Value} {c : PC} {Y X lk k : Int}

/-- what PictureHits lays -/
structure HB (A : Nat → Value) (Y X lk : Int) : Prop where
  pat : ∀ i, i < 16 → A i = .int .u8 255
  nam : ∀ i, 16 ≤ i → i < 10240 → A i = .int .u8 0
  s0 : A 10282 = .int .u8 Y
  s1 : A 10283 = .int .u8 0
  s2 : A 10284 = .int .u8 lk
  s3 : A 10285 = .int .u8 X
  sr : ∀ i, 4 ≤ i → i < 256 → A (10282 + i) = .int .u8 255
theorem HB.congr {A' : Nat → Value} (h : HB A Y X lk) (e : ∀ i, i < 10538 → A' i = A i) : HB A' Y X lk :=
  ⟨fun i hi => (e i (by omega)).trans (h.pat i hi), fun i h1 h2 => (e i (by omega)).trans (h.nam i h1 h2), (e _ (by omega)).trans h.s0, (e _ (by omega)).trans h.s1, (e _ (by omega)).trans h.s2, (e _ (by omega)).trans h.s3, fun i h1 h2 => (e _ (by omega)).trans (h.sr i h1 h2)⟩
theorem HB.pat_m (h : HB A Y X lk) (up : Bool) (r : Int) (hr : 0 ≤ r ∧ r < 16) : memV A up r = 255 := by
  have e : adr up r = r.toNat := by unfold adr; rw [if_pos (by omega)]; congr 1; omega
  unfold memV; rw [e, h.pat _ (by omega)]; rfl
theorem HB.nam_m (h : HB A Y X lk) (up : Bool) (a : Int) (ha : 8192 ≤ a ∧ a < 12288) : memV A up a = 0 := by
  have e : adr up a = 8192 + (mirN (a % 16384) up).toNat := by unfold adr; rw [if_neg (by omega), if_pos (by omega)]
  have hM := mirN_b (a % 16384) up
  unfold memV; rw [e, h.nam _ (by omega) (by omega)]; rfl
theorem numV_full (d : Int) (hd : 0 ≤ d ∧ d < 8) : numV 255 255 d = 3 := by
  rcases (by omega : d = 0 ∨ d = 1 ∨ d = 2 ∨ d = 3 ∨ d = 4 ∨ d = 5 ∨ d = 6 ∨ d = 7) with rfl | rfl | rfl | rfl | rfl | rfl | rfl | rfl <;> decide
theorem HB.til (h : HB A Y X lk) (hc : c.con = 0) (hL : LIn (scrC c)) (x : Int) (hx : 0 ≤ x) : tilN A c x = if shwV c.msk 8 2 x = true then 3 else 0 := by
  have hX : 0 ≤ c.X ∧ c.X < 8 := hL.x
  have bD : 0 ≤ tilD c x ∧ tilD c x < 8 := by unfold tilD; split <;> omega
  have hF : (tilL c x).F := ofP_F _
  obtain ⟨f1, f2, f3, f4, f5⟩ := hF
  have bN : 8192 ≤ nmA (tilL c x) ∧ nmA (tilL c x) < 12288 := by unfold nmA; omega
  have e1 : tilT A c x = (tilL c x).r := by
    unfold tilT; rw [h.nam_m c.up _ bN, hc]
    show 0 * 16 + (tilL c x).r + (if (bits .and .u8 0 16 != 0) = true then 4096 else 0) = _
    rw [if_neg (by decide)]; omega
  unfold tilN
  rw [e1, h.pat_m _ _ (by omega), h.pat_m _ _ (by omega), numV_full _ bD]

theorem HB.vis0 (h : HB A Y X lk) (hc : c.con = 0) : visR A c 0 = c.line - Y ∧ visS A c 0 = (decide (Y ≤ c.line) && decide (c.line < Y + 8)) := by
  have e : visR A c 0 = c.line - Y := by unfold visR spV; rw [show 10282 + 4 * 0 = 10282 from rfl, h.s0]; rfl
  have e2 : heiV c = 8 := by unfold heiV; rw [hc]; rfl
  refine ⟨e, ?_⟩
  unfold visS; rw [e, e2]
  congr 1 <;> exact decide_eq_decide.2 (by omega)
theorem HB.visN (h : HB A Y X lk) (hl : c.line < 255) (i : Nat) (hi : 1 ≤ i ∧ i < 64) : visS A c i = false := by
  have e : visR A c i = c.line - 255 := by unfold visR spV; rw [h.sr _ (by omega) (by omega)]; rfl
  unfold visS; rw [e, decide_eq_false (by omega)]; rfl
theorem HB.sel (h : HB A Y X lk) (hl : c.line < 255) : ∀ n, n ≤ 63 → selR A c (1 + n) = selR A c 1
  | 0, _ => rfl
  | n + 1, hn => by
    rw [show 1 + (n + 1) = (1 + n) + 1 from rfl, selR_no (h.visN hl (1 + n) (by omega))]
    exact h.sel hl n (by omega)
theorem HB.rd (h : HB A Y X lk) (hc : c.con = 0) (r : Int) (hr : 0 ≤ r ∧ r < 8) : rdL A c 0 r = 255 ∧ rdU A c 0 r = 255 := by
  have e2 : heiV c = 8 := by unfold heiV; rw [hc]; rfl
  have bW : 0 ≤ rdW A c 0 r ∧ rdW A c 0 r < 8 := by unfold rdW; rw [e2]; split <;> omega
  have e1 : rdT A c 0 r = rdW A c 0 r := by
    unfold rdT sadV; rw [if_pos e2, hc]
    rw [show spV A (0 + 1) = 0 by unfold spV; rw [show 10282 + (0 + 1) = 10283 from rfl, h.s1]; rfl]
    show 0 * 16 + rdW A c 0 r + (if (bits .and .u8 0 8 != 0) = true then 4096 else 0) = _
    rw [if_neg (by decide)]; omega
  have r255 : revV 255 = 255 := by decide
  constructor
  · unfold rdL; rw [e1, h.pat_m _ _ (by omega), r255]; split <;> rfl
  · unfold rdU; rw [e1, h.pat_m _ _ (by omega), r255]; split <;> rfl
/-- what is picked -/
theorem HB.pick_no (h : HB A Y X lk) (hc : c.con = 0) (hl : c.line < 240) (e : c.line < Y) : pckA A c = A ∧ (pckC A c).cnt = 0 := by
  have h0 : visS A c 0 = false := by rw [(h.vis0 hc).2, decide_eq_false (by omega)]; rfl
  have e1 : selR A c 64 = (A, 0) := by
    rw [show 64 = 1 + 63 from rfl, h.sel (by omega) 63 (Nat.le_refl _), show 1 = 0 + 1 from rfl, selR_no h0]; rfl
  unfold pckA pckC
  rw [e1]
  split <;> exact ⟨rfl, rfl⟩
theorem HB.pick_yes (h : HB A Y X lk) (hc : c.con = 0) (hl : c.line < 240) (e : c.line = Y) (hs : shw c 24 = true) : (pckC A c).cnt = 1 ∧ selF (pckA A c) 0 = true ∧ selX (pckA A c) 0 = X ∧ selL (pckA A c) 0 = 255 ∧ selU (pckA A c) 0 = 255 ∧ ∀ i, i < 10538 → pckA A c i = A i := by
  have h0 : visS A c 0 = true := by rw [(h.vis0 hc).2, decide_eq_true (by omega), decide_eq_true (by omega)]; rfl
  have hr := (h.vis0 hc).1
  have e1 : selR A c 64 = (upd5 A 0 true (spV A 2) X 255 255, 1) := by
    rw [show 64 = 1 + 63 from rfl, h.sel (by omega) 63 (Nat.le_refl _), show 1 = 0 + 1 from rfl, selR_yes h0 (Nat.zero_lt_succ 7)]
    obtain ⟨l1, l2⟩ := h.rd hc (visR A c 0) (by omega)
    show (upd5 A 0 _ _ (spV A (4 * 0 + 3)) (rdL A c 0 (visR A c 0)) (rdU A c 0 (visR A c 0)), _) = _
    rw [l1, l2, show spV A (4 * 0 + 3) = X by unfold spV; rw [show 10282 + (4 * 0 + 3) = 10285 from rfl, h.s3]; rfl]
    rfl
  have eA : pckA A c = upd5 A 0 true (spV A 2) X 255 255 := by unfold pckA; rw [if_pos ⟨hl, hs⟩, e1]
  have eC : (pckC A c).cnt = 1 := by unfold pckC; rw [if_pos ⟨hl, hs⟩, e1]; rfl
  rw [eA]
  refine ⟨eC, ?_, ?_, ?_, ?_, fun i hi => upd5_other _ _ _ _ _ _ _ _ (.inl (by omega))⟩
  · unfold selF; rw [show 10538 + 5 * 0 = 10538 + 0 * 5 from rfl, upd5_0]; rfl
  · unfold selX; rw [show 10538 + 5 * 0 = 10538 + 0 * 5 from rfl, upd5_2]; rfl
  · unfold selL; rw [show 10538 + 5 * 0 = 10538 + 0 * 5 from rfl, upd5_3]; rfl
  · unfold selU; rw [show 10538 + 5 * 0 = 10538 + 0 * 5 from rfl, upd5_4]; rfl

end Go.Proofs.Ythldppdkheclkaa
