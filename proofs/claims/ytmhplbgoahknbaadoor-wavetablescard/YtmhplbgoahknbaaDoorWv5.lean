/- A wave's numbers stay in their bounds. No law is claimed here. -/
import Derived.Test.YtmhplbgoahknbaaDoorWv4
namespace Go.Proofs.YtmhplbgoahknbaaDoor
open Go.RowKit

theorem sgnW_b (n : Int) (h : -68 ≤ n ∧ n < 128) : -64 ≤ sgnW n ∧ sgnW n < 64 := by unfold sgnW; (repeat' split) <;> omega
theorem addS_b (a p : Int) (ha : 0 ≤ a ∧ a < 65536) (hp : 0 ≤ p ∧ p < 65536) : 0 ≤ addS a p ∧ addS a p < 65536 := by unfold addS; split <;> omega
theorem envC_b (r m sp c : Int) (hm : 0 ≤ m ∧ m < 256) (hs : 0 ≤ sp ∧ sp < 64) (hc : 0 ≤ c ∧ c < 131072) : 0 ≤ envC r m sp c ∧ envC r m sp c < 131072 := by
  have := lim_b sp m hs hm
  have e := limW_eq sp m
  unfold envC
  (repeat' split) <;> omega
theorem chgW_b (g : Int) (up : Bool) (hg : 0 ≤ g ∧ g < 64) : 0 ≤ chgW g up ∧ chgW g up < 64 := by unfold chgW; (repeat' split) <;> omega
theorem envG_b (r m g sp c : Int) (hg : 0 ≤ g ∧ g < 64) : 0 ≤ envG r m g sp c ∧ envG r m g sp c < 64 := by
  have := chgW_b g (decide (r / 64 % 2 = 1)) hg
  unfold envG
  (repeat' split) <;> omega
theorem upd_b {f : Nat → Int} {B : Int} {N : Nat} (h : ∀ i, i < N → 0 ≤ f i ∧ f i < B) (k : Nat) (x : Int) (hx : 0 ≤ x ∧ x < B) : ∀ i, i < N → 0 ≤ upd f k x i ∧ upd f k x i < B := by
  intro i hi
  unfold upd
  split
  · exact hx
  · exact h i hi
theorem ok_vol {s : WS} (ok : WOk s) : WOk (volW s) :=
  ⟨ok.reg, ok.tab, ok.sum, ok.pos, envG_b _ _ _ _ _ ok.vg, ok.vs, envC_b _ _ _ _ (ok.reg 10 (by decide)) ok.vs ok.vc, ok.dg, ok.ds, ok.dc, ok.mt, ok.ms, ok.mp, ok.mc, ok.cyc, ok.held⟩
theorem ok_dep {s : WS} (ok : WOk s) : WOk (depW s) :=
  ⟨ok.reg, ok.tab, ok.sum, ok.pos, ok.vg, ok.vs, ok.vc, envG_b _ _ _ _ _ ok.dg, ok.ds, envC_b _ _ _ _ (ok.reg 10 (by decide)) ok.ds ok.dc, ok.mt, ok.ms, ok.mp, ok.mc, ok.cyc, ok.held⟩
theorem ok_fade {s : WS} (ok : WOk s) : WOk (fadeW s) := by
  unfold fadeW; split
  · exact ok
  · exact ok_dep (ok_vol ok)
theorem ok_modT {s : WS} (ok : WOk s) (p : Int) (hp : 0 ≤ p ∧ p < 65536) : WOk (modT s p) := by
  have b1 := ok.ms
  have b2 := ok.mp
  have b3 := ok.mc
  have b4 := chg_b _ (ok.mt s.mp.toNat (by omega))
  unfold modT
  split
  · exact ⟨ok.reg, ok.tab, ok.sum, ok.pos, ok.vg, ok.vs, ok.vc, ok.dg, ok.ds, ok.dc, ok.mt, by show 0 ≤ s.ms + p ∧ s.ms + p < 65536; omega, ok.mp, ok.mc, ok.cyc, ok.held⟩
  · refine ⟨ok.reg, ok.tab, ok.sum, ok.pos, ok.vg, ok.vs, ok.vc, ok.dg, ok.ds, ok.dc, ok.mt, by show 0 ≤ s.ms + p - 65536 ∧ s.ms + p - 65536 < 65536; omega, by show 0 ≤ (s.mp + 1) % 64 ∧ (s.mp + 1) % 64 < 64; omega, ?_, ok.cyc, ok.held⟩
    show -64 ≤ (if s.mt s.mp.toNat = 4 then 0 else sgnW (s.mc + at1 chgL (s.mt s.mp.toNat))) ∧ (if s.mt s.mp.toNat = 4 then 0 else sgnW (s.mc + at1 chgL (s.mt s.mp.toNat))) < 64
    split
    · decide
    · exact sgnW_b _ (by omega)
theorem ok_mod {s : WS} (ok : WOk s) : WOk (modW s) := by
  have b1 := ok.reg 6 (by decide)
  have b2 := ok.reg 7 (by decide)
  unfold modW; split
  · exact ok
  · exact ok_modT ok _ (by omega)
theorem ok_advT {s : WS} (ok : WOk s) (p : Int) (hp : 0 ≤ p ∧ p < 65536) : WOk (advT s p) := by
  have b1 := ok.sum
  have b2 := ok.pos
  unfold advT; split
  · exact ⟨ok.reg, ok.tab, by show 0 ≤ s.sum + p ∧ s.sum + p < 65536; omega, ok.pos, ok.vg, ok.vs, ok.vc, ok.dg, ok.ds, ok.dc, ok.mt, ok.ms, ok.mp, ok.mc, ok.cyc, ok.held⟩
  · exact ⟨ok.reg, ok.tab, by show 0 ≤ s.sum + p - 65536 ∧ s.sum + p - 65536 < 65536; omega, by show 0 ≤ (s.pos + 1) % 64 ∧ (s.pos + 1) % 64 < 64; omega, ok.vg, ok.vs, ok.vc, ok.dg, ok.ds, ok.dc, ok.mt, ok.ms, ok.mp, ok.mc, ok.cyc, ok.held⟩
theorem pit_b {s : WS} (ok : WOk s) : 0 ≤ pitW (s.reg 3 % 16 * 256 + s.reg 2) s.mc s.dg ∧ pitW (s.reg 3 % 16 * 256 + s.reg 2) s.mc s.dg < 65536 := by
  have b1 := ok.reg 2 (by decide)
  have b2 := ok.reg 3 (by decide)
  have b3 := ok.mc
  have b4 := ok.dg
  have := pitW_b (s.reg 3 % 16 * 256 + s.reg 2) s.mc s.dg ⟨by omega, by omega, by omega⟩
  omega
theorem ok_adv {s : WS} (ok : WOk s) : WOk (advW s) := by
  unfold advW; split
  · exact ok
  · exact ok_advT ok _ (pit_b ok)
theorem ok_cyc {s : WS} (ok : WOk s) : WOk { s with cyc := (s.cyc + 1) % 16 } :=
  ⟨ok.reg, ok.tab, ok.sum, ok.pos, ok.vg, ok.vs, ok.vc, ok.dg, ok.ds, ok.dc, ok.mt, ok.ms, ok.mp, ok.mc, by show 0 ≤ (s.cyc + 1) % 16 ∧ (s.cyc + 1) % 16 < 16; omega, ok.held⟩
theorem ok_clock {s : WS} (ok : WOk s) : WOk (clockW s) := by
  unfold clockW tickW; split
  · exact ok_adv (ok_mod (ok_cyc (ok_fade ok)))
  · exact ok_cyc (ok_fade ok)
theorem ok_reg {s : WS} (ok : WOk s) (r : Nat) (b : Int) (hb : 0 ≤ b ∧ b < 256) : WOk (regW s r b) :=
  ⟨upd_b ok.reg r b hb, ok.tab, ok.sum, ok.pos, ok.vg, ok.vs, ok.vc, ok.dg, ok.ds, ok.dc, ok.mt, ok.ms, ok.mp, ok.mc, ok.cyc, ok.held⟩
theorem ok_pr {s : WS} (ok : WOk s) (r : Nat) (b : Int) (_hb : 0 ≤ b ∧ b < 256) : WOk (prW s r b) := by
  have b1 := ok.vg
  have b2 := ok.dg
  have b3 := ok.mp
  unfold prW
  split
  · exact ⟨ok.reg, ok.tab, ok.sum, ok.pos, by show 0 ≤ (if 128 ≤ b then b % 64 else s.vg) ∧ (if 128 ≤ b then b % 64 else s.vg) < 64; split <;> omega, by show 0 ≤ b % 64 ∧ b % 64 < 64; omega, by show (0:Int) ≤ 0 ∧ (0:Int) < 131072; decide, ok.dg, ok.ds, ok.dc, ok.mt, ok.ms, ok.mp, ok.mc, ok.cyc, ok.held⟩
  · split
    · exact ⟨ok.reg, ok.tab, ok.sum, ok.pos, ok.vg, ok.vs, ok.vc, by show 0 ≤ (if 128 ≤ b then b % 64 else s.dg) ∧ (if 128 ≤ b then b % 64 else s.dg) < 64; split <;> omega, by show 0 ≤ b % 64 ∧ b % 64 < 64; omega, by show (0:Int) ≤ 0 ∧ (0:Int) < 131072; decide, ok.mt, ok.ms, ok.mp, ok.mc, ok.cyc, ok.held⟩
    · split
      · split
        · exact ⟨ok.reg, ok.tab, by show (0:Int) ≤ 0 ∧ (0:Int) < 65536; decide, by show (0:Int) ≤ 0 ∧ (0:Int) < 64; decide, ok.vg, ok.vs, ok.vc, ok.dg, ok.ds, ok.dc, ok.mt, ok.ms, ok.mp, ok.mc, ok.cyc, ok.held⟩
        · exact ok
      · split
        · exact ⟨ok.reg, ok.tab, ok.sum, ok.pos, ok.vg, ok.vs, ok.vc, ok.dg, ok.ds, ok.dc, ok.mt, ok.ms, ok.mp, sgnW_b (b % 128) (by omega), ok.cyc, ok.held⟩
        · split
          · split
            · exact ⟨ok.reg, ok.tab, ok.sum, ok.pos, ok.vg, ok.vs, ok.vc, ok.dg, ok.ds, ok.dc, ok.mt, by show (0:Int) ≤ 0 ∧ (0:Int) < 65536; decide, ok.mp, ok.mc, ok.cyc, ok.held⟩
            · exact ok
          · split
            · split
              · exact ⟨ok.reg, ok.tab, ok.sum, ok.pos, ok.vg, ok.vs, ok.vc, ok.dg, ok.ds, ok.dc, upd_b (upd_b ok.mt _ _ (by omega)) _ _ (by omega), ok.ms, by show 0 ≤ ((s.mp + 1) % 64 + 1) % 64 ∧ ((s.mp + 1) % 64 + 1) % 64 < 64; omega, ok.mc, ok.cyc, ok.held⟩
              · exact ok
            · split
              · split
                · exact ⟨ok.reg, ok.tab, ok.sum, ok.pos, ok.vg, ok.vs, ok.vc, ok.dg, ok.ds, ok.dc, ok.mt, ok.ms, ok.mp, ok.mc, ok.cyc, outW_b ok⟩
                · exact ok
              · exact ok
theorem ok_putR {s : WS} (ok : WOk s) (r : Nat) (b : Int) (hb : 0 ≤ b ∧ b < 256) : WOk (putR s r b) := ok_reg (ok_pr ok r b hb) r b hb
theorem ok_put {s : WS} (ok : WOk s) (a b : Int) (hb : 0 ≤ b ∧ b < 256) : WOk (putW s a b) := by
  unfold putW
  split
  · exact ok
  · split
    · split
      · exact ⟨ok.reg, upd_b ok.tab _ _ (by omega), ok.sum, ok.pos, ok.vg, ok.vs, ok.vc, ok.dg, ok.ds, ok.dc, ok.mt, ok.ms, ok.mp, ok.mc, ok.cyc, ok.held⟩
      · exact ok
    · split
      · exact ok_putR ok _ b hb
      · exact ok
theorem newW_ok : WOk newW := by
  constructor <;> first | (intro i _; show (0:Int) ≤ 0 ∧ (0:Int) < _; decide) | (show (0:Int) ≤ 0 ∧ (0:Int) < _; decide) | (show (0:Int) ≤ 0 ∧ (0:Int) ≤ _; decide) | (show _ ≤ (0:Int) ∧ (0:Int) < _; decide)

end Go.Proofs.YtmhplbgoahknbaaDoor
