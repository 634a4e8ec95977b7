/- WaveRounds: a wave without turns, cycle by cycle. No law is claimed here. -/
import Derived.Test.YtmhplbgoahknbaaDoorWvSlopes
namespace Go.Proofs.YtmhplbgoahknbaaDoor
open Go.RowKit

theorem pitW_00 (p : Int) (h : 0 ≤ p ∧ p ≤ 4095) : pitW p 0 0 = p := by
  have f : facW 0 0 = 0 := by decide
  unfold pitW rndW
  rw [if_pos ⟨h, by decide, by decide⟩, f]
  simp
structure RI (M P j T : Int) (s : WS) : Prop where
  tab : ∀ i : Nat, i < 64 → s.tab i = i
  r9 : s.reg 9 = M
  r0 : 128 ≤ s.reg 0
  r4 : s.reg 4 = 0
  r7 : s.reg 7 = 128
  r3 : s.reg 3 = P / 256
  r2 : s.reg 2 = P % 256
  vg : s.vg = 1
  dg : s.dg = 0
  mc : s.mc = 0
  cyc : s.cyc = j
  sum : s.sum = T % 65536
  pos : s.pos = T / 65536 % 64
theorem RI.fade {M P j T : Int} {s : WS} (h : RI M P j T s) (hP : 0 ≤ P ∧ P < 4096) : RI M P j T (fadeW s) := by
  unfold fadeW
  rw [if_neg (by rw [h.r3]; omega)]
  refine ⟨h.tab, h.r9, h.r0, h.r4, h.r7, h.r3, h.r2, ?_, ?_, h.mc, h.cyc, h.sum, h.pos⟩
  · show envG (s.reg 0) (s.reg 10) s.vg s.vs s.vc = 1
    unfold envG; rw [if_pos h.r0]; exact h.vg
  · show envG (s.reg 4) (s.reg 10) s.dg s.ds s.dc = 0
    unfold envG; rw [h.r4, h.dg]
    split
    · rfl
    · split <;> rfl
theorem RI.next {M P j T : Int} {s : WS} (h : RI M P j T s) (hP : 0 ≤ P ∧ P < 4096) (hj : 0 ≤ j ∧ j < 15) : RI M P (j + 1) T (clockW s) := by
  have k := h.fade hP
  unfold clockW
  generalize fadeW s = t at *
  unfold tickW
  rw [k.cyc, if_neg (by omega)]
  exact ⟨k.tab, k.r9, k.r0, k.r4, k.r7, k.r3, k.r2, k.vg, k.dg, k.mc, by show (j + 1) % 16 = j + 1; omega, k.sum, k.pos⟩
theorem RI.roll {M P T : Int} {s : WS} (h : RI M P 15 T s) (hP : 0 ≤ P ∧ P < 4096) : RI M P 0 (T + P) (clockW s) := by
  have k := h.fade hP
  unfold clockW
  generalize fadeW s = t at *
  unfold tickW
  rw [k.cyc, if_pos (by decide)]
  have e1 : modW { t with cyc := (15 + 1) % 16 } = { t with cyc := (15 + 1) % 16 } := by
    unfold modW; rw [if_pos (by show 128 ≤ t.reg 7; rw [k.r7]; decide)]
  rw [e1]
  unfold advW
  rw [if_neg (by show ¬ 128 ≤ t.reg 3; rw [k.r3]; omega)]
  have e2 : pitW (t.reg 3 % 16 * 256 + t.reg 2) t.mc t.dg = P := by
    rw [k.r3, k.r2, k.mc, k.dg, show P / 256 % 16 * 256 + P % 256 = P by omega]
    exact pitW_00 P (by omega)
  show RI M P 0 (T + P) (advT { t with cyc := (15 + 1) % 16 } (pitW (t.reg 3 % 16 * 256 + t.reg 2) t.mc t.dg))
  rw [e2]
  unfold advT
  have es := k.sum
  have ep := k.pos
  split
  · next hh =>
    have hh' : t.sum + P < 65536 := hh
    exact ⟨k.tab, k.r9, k.r0, k.r4, k.r7, k.r3, k.r2, k.vg, k.dg, k.mc, rfl, by show t.sum + P = (T + P) % 65536; omega, by show t.pos = (T + P) / 65536 % 64; omega⟩
  · next hh =>
    have hh' : ¬ t.sum + P < 65536 := hh
    exact ⟨k.tab, k.r9, k.r0, k.r4, k.r7, k.r3, k.r2, k.vg, k.dg, k.mc, rfl, by show t.sum + P - 65536 = (T + P) % 65536; omega, by show (t.pos + 1) % 64 = (T + P) / 65536 % 64; omega⟩
theorem RI.out {M P j T : Int} {s : WS} (h : RI M P j T s) (hM : 0 ≤ M ∧ M < 4) : outW s = T / 65536 % 64 * at1 wgtL M := by
  unfold outW
  have e := h.tab s.pos.toNat (by rw [h.pos]; omega)
  rw [if_neg (by rw [h.r9]; omega), e, h.vg, h.r9, h.pos, show M % 4 = M by omega, show min (1 : Int) 32 = 1 from rfl, Int.mul_one]
  congr 1
  omega

def hW (k : Nat) : WS := { putW newW 16521 128 with tab := fun i => if i < k then (i : Int) else 0 }
theorem hW_0 : hW 0 = putW newW 16521 128 := by
  unfold hW
  apply ws_ext <;> first | rfl | skip
theorem hW_reg (k : Nat) : (hW k).reg = upd (fun _ => 0) 9 128 := rfl
theorem hW_next (k : Nat) (hk : k < 64) : putW (hW k) (16448 + k) k = hW (k + 1) := by
  unfold putW
  rw [if_neg (by omega), if_pos (by omega), if_pos (show 128 ≤ (hW k).reg 9 by rw [hW_reg]; decide)]
  apply ws_ext <;> first | rfl | skip
  funext i
  show upd (fun i => if i < k then (i : Int) else 0) (16448 + (k : Int) - 16448).toNat ((k : Int) % 64) i = if i < k + 1 then (i : Int) else 0
  rw [show (16448 + (k : Int) - 16448).toNat = k by omega, show (k : Int) % 64 = k by omega]
  unfold upd
  by_cases h1 : i = k
  · subst h1; simp
  · rw [if_neg h1]
    show (if i < k then (i : Int) else 0) = _
    by_cases h2 : i < k
    · rw [if_pos h2, if_pos (by omega)]
    · rw [if_neg h2, if_neg (by omega)]
theorem p9 (s : WS) (b : Int) (h : b < 128) : putW s 16521 b = regW s 9 b := by
  rw [show (16521 : Int) = 16512 + ((9 : Nat) : Int) from rfl, putW_r _ 9 (by decide)]
  unfold putR
  rw [pr_9, if_neg (by omega)]
theorem p0 (s : WS) (b : Int) : putW s 16512 b = regW (evW s b) 0 b := by
  rw [show (16512 : Int) = 16512 + ((0 : Nat) : Int) from rfl, putW_r _ 0 (by decide)]; rfl
theorem p7 (s : WS) : putW s 16519 128 = regW { s with ms := 0 } 7 128 := by
  rw [show (16519 : Int) = 16512 + ((7 : Nat) : Int) from rfl, putW_r _ 7 (by decide)]; rfl
theorem p2 (s : WS) (b : Int) : putW s 16514 b = regW s 2 b := by
  rw [show (16514 : Int) = 16512 + ((2 : Nat) : Int) from rfl, putW_r _ 2 (by decide)]; rfl
theorem p3 (s : WS) (b : Int) (h : b < 128) : putW s 16515 b = regW s 3 b := by
  rw [show (16515 : Int) = 16512 + ((3 : Nat) : Int) from rfl, putW_r _ 3 (by decide)]
  unfold putR
  rw [pr_3, if_neg (by omega)]
theorem RI.start (M P : Int) (hM : 0 ≤ M ∧ M < 4) (hP : 0 ≤ P ∧ P < 4096) : RI M P 0 0 (putW (putW (putW (putW (putW (hW 64) 16521 M) 16512 129) 16519 128) 16514 (P % 256)) 16515 (P / 256)) := by
  rw [p9 _ _ (by omega), p0, p7, p2, p3 _ _ (by omega)]
  refine ⟨?_, rfl, ?_, rfl, rfl, rfl, rfl, rfl, rfl, rfl, rfl, rfl, rfl⟩
  · intro i hi
    show (if i < 64 then (i : Int) else 0) = i
    rw [if_pos hi]
  · show (128 : Int) ≤ 129; decide
theorem or_i64 (a b : Nat) (ha : a < 2 ^ 62) (hb : b < 2 ^ 62) : bits .or .i64 (a : Int) (b : Int) = ((a ||| b : Nat) : Int) := by
  show IntKind.i64.wrap ((BitVec.ofInt 64 (a : Int) ||| BitVec.ofInt 64 (b : Int)).toNat : Int) = _
  have h64 : (2 : Nat) ^ 62 < 2 ^ 64 := by decide
  rw [BitVec.toNat_or, ofInt_nat _ _ (Nat.lt_trans ha h64), ofInt_nat _ _ (Nat.lt_trans hb h64)]
  have hx : a ||| b < 2 ^ 62 := Nat.or_lt_two_pow ha hb
  exact IntWalk.i64_in _ ⟨by omega, by omega⟩

set_option maxRecDepth 100000 in
set_option maxHeartbeats 1000000 in
theorem or2048 (x : Int) (h : 0 ≤ x ∧ x < 4096) : ∃ P : Int, bits .or .i64 x 2048 = P ∧ 0 ≤ P ∧ P < 4096 := by
  obtain ⟨a, rfl⟩ := natOf x h.1
  refine ⟨((a ||| 2048 : Nat) : Int), ?_, by omega, ?_⟩
  · rw [show (2048 : Int) = ((2048 : Nat) : Int) from rfl, or_i64 a 2048 (by omega) (by omega)]
  · have : a ||| 2048 < 2 ^ 12 := Nat.or_lt_two_pow (by omega) (by decide)
    omega

end Go.Proofs.YtmhplbgoahknbaaDoor
