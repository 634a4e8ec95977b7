/- A wave as numbers. No law is claimed here. -/
import Derived.Test.YtmhplbgoahknbaaDoorWv1
namespace Go.Proofs.YtmhplbgoahknbaaDoor
open Go.RowKit

theorem ws_ext {a b : WS} (h0 : a.reg = b.reg) (h1 : a.tab = b.tab) (h2 : a.sum = b.sum) (h3 : a.pos = b.pos) (h4 : a.vg = b.vg) (h5 : a.vs = b.vs) (h6 : a.vc = b.vc) (h7 : a.dg = b.dg) (h8 : a.ds = b.ds) (h9 : a.dc = b.dc) (h10 : a.mt = b.mt) (h11 : a.ms = b.ms) (h12 : a.mp = b.mp) (h13 : a.mc = b.mc) (h14 : a.cyc = b.cyc) (h15 : a.held = b.held) : a = b := by
  cases a; cases b; simp only at *; subst_vars; rfl
def at1 (l : List Int) (k : Int) : Int := l.getD k.toNat 0
def wgtL : List Int := [30, 20, 15, 12]
def chgL : List Int := [0, 1, 2, 4, 0, -4, -2, -1]
/-- what the package's variables hold -/
structure gw (v : World) : Prop where
  lt : 0 < v.heap.size
  wgt : ∀ i : Nat, i < 4 → v.cell? ⟨0, i, none⟩ = some (.int .i64 (at1 wgtL i))
structure gc (v : World) : Prop where
  w : gw v
  lt : 1 < v.heap.size
  chg : ∀ i : Nat, i < 8 → v.cell? ⟨1, i, none⟩ = some (.int .i64 (at1 chgL i))
theorem gw.below {v v' : World} (h : gw v) (hb : Below v.heap.size v v') : gw v' := by
  have := h.lt
  exact ⟨Nat.lt_of_lt_of_le h.lt hb.size, fun i hi => (hb.cell (by show 0 < _; omega)).trans (h.wgt i hi)⟩
theorem gc.below {v v' : World} (h : gc v) (hb : Below v.heap.size v v') : gc v' := by
  have := h.lt
  exact ⟨h.w.below hb, Nat.lt_of_lt_of_le h.lt hb.size, fun i hi => (hb.cell (by show 1 < _; omega)).trans (h.chg i hi)⟩
theorem gw.row {w : World} (h : gw w) (m : Nat) (hm : 0 < m) (t : TypeId) (l : List Value) : gw (rowT w m t l) :=
  ⟨by rw [rowT_size]; exact h.lt, fun i hi => (rowT_cellFar w m t l _ (by show 0 ≠ m; omega)).trans (h.wgt i hi)⟩
theorem gc.row {w : World} (h : gc w) (m : Nat) (hm : 1 < m) (t : TypeId) (l : List Value) : gc (rowT w m t l) :=
  ⟨h.w.row m (by omega) t l, by rw [rowT_size]; exact h.lt, fun i hi => (rowT_cellFar w m t l _ (by show 1 ≠ m; omega)).trans (h.chg i hi)⟩

/-- bounds of a wave's numbers -/
structure WOk (s : WS) : Prop where
  reg : ∀ i, i < 11 → 0 ≤ s.reg i ∧ s.reg i < 256
  tab : ∀ i, i < 64 → 0 ≤ s.tab i ∧ s.tab i < 64
  sum : 0 ≤ s.sum ∧ s.sum < 65536
  pos : 0 ≤ s.pos ∧ s.pos < 64
  vg : 0 ≤ s.vg ∧ s.vg < 64
  vs : 0 ≤ s.vs ∧ s.vs < 64
  vc : 0 ≤ s.vc ∧ s.vc < 131072
  dg : 0 ≤ s.dg ∧ s.dg < 64
  ds : 0 ≤ s.ds ∧ s.ds < 64
  dc : 0 ≤ s.dc ∧ s.dc < 131072
  mt : ∀ i, i < 64 → 0 ≤ s.mt i ∧ s.mt i < 8
  ms : 0 ≤ s.ms ∧ s.ms < 65536
  mp : 0 ≤ s.mp ∧ s.mp < 64
  mc : -64 ≤ s.mc ∧ s.mc < 64
  cyc : 0 ≤ s.cyc ∧ s.cyc < 16
  held : 0 ≤ s.held ∧ s.held ≤ 60480

/-- the pitch -/
def fac1 (c p : Int) : Int := if 0 < p % 16 ∧ p / 16 % 256 < 128 then (if c < 0 then p / 16 - 1 else p / 16 + 2) else p / 16
def facW (c g : Int) : Int := (fac1 c (c * g) + 64) % 256 - 64
def rndW (p f : Int) : Int := p + (p * f / 64 + if 32 ≤ p * f % 64 then 1 else 0)
def inP (p c g : Int) : Prop := (0 ≤ p ∧ p ≤ 4095) ∧ (-64 ≤ c ∧ c ≤ 63) ∧ (0 ≤ g ∧ g ≤ 63)
instance (p c g : Int) : Decidable (inP p c g) := inferInstanceAs (Decidable ((0 ≤ p ∧ p ≤ 4095) ∧ (-64 ≤ c ∧ c ≤ 63) ∧ (0 ≤ g ∧ g ≤ 63)))
def pitW (p c g : Int) : Int := if inP p c g then rndW p (facW c g) else 0
theorem facW_b (c g : Int) : -64 ≤ facW c g ∧ facW c g < 192 := by unfold facW; omega
theorem mulB (p f : Int) (hp : 0 ≤ p) (hf : -64 ≤ f ∧ f < 192) : -64 * p ≤ p * f ∧ p * f ≤ 191 * p := by
  constructor
  · have := Int.mul_le_mul_of_nonneg_left hf.1 hp
    rw [Int.mul_comm p (-64)] at this; exact this
  · have := Int.mul_le_mul_of_nonneg_left (show f ≤ 191 by omega) hp
    rw [Int.mul_comm p 191] at this; exact this
theorem pitW_b (p c g : Int) (h : inP p c g) : 0 ≤ pitW p c g ∧ pitW p c g ≤ 4 * p + 1 := by
  have h1 := mulB p (facW c g) h.1.1 (facW_b c g)
  unfold pitW rndW
  rw [if_pos h]
  split <;> omega

/-- what is heard -/
def outW (s : WS) : Int := if 128 ≤ s.reg 9 then s.held else s.tab s.pos.toNat * min s.vg 32 * at1 wgtL (s.reg 9 % 4)
def sgnW (n : Int) : Int := if 63 < n then n - 128 else if n < -64 then n + 128 else n
def chgW (g : Int) (up : Bool) : Int := if up then (if g < 32 then g + 1 else g) else (if 0 < g then g - 1 else g)
def limW (sp m : Int) : Int := 8 * (sp + 1) * (m + 1)
def envC (r m sp c : Int) : Int := if 128 ≤ r then c else if c + 1 < limW sp m then c + 1 else 0
def envG (r m g sp c : Int) : Int := if 128 ≤ r then g else if c + 1 < limW sp m then g else chgW g (decide (r / 64 % 2 = 1))
def volW (s : WS) : WS := { s with vg := envG (s.reg 0) (s.reg 10) s.vg s.vs s.vc, vc := envC (s.reg 0) (s.reg 10) s.vs s.vc }
def depW (s : WS) : WS := { s with dg := envG (s.reg 4) (s.reg 10) s.dg s.ds s.dc, dc := envC (s.reg 4) (s.reg 10) s.ds s.dc }
def fadeW (s : WS) : WS := if 64 ≤ s.reg 3 then s else depW (volW s)
def addS (a p : Int) : Int := if a + p < 65536 then a + p else a + p - 65536
def modT (s : WS) (p : Int) : WS :=
  if s.ms + p < 65536 then { s with ms := s.ms + p }
  else { s with ms := s.ms + p - 65536, mc := if s.mt s.mp.toNat = 4 then 0 else sgnW (s.mc + at1 chgL (s.mt s.mp.toNat)), mp := (s.mp + 1) % 64 }
def modW (s : WS) : WS := if 128 ≤ s.reg 7 then s else modT s (s.reg 7 % 16 * 256 + s.reg 6)
def advT (s : WS) (p : Int) : WS := if s.sum + p < 65536 then { s with sum := s.sum + p } else { s with sum := s.sum + p - 65536, pos := (s.pos + 1) % 64 }
def advW (s : WS) : WS := if 128 ≤ s.reg 3 then s else advT s (pitW (s.reg 3 % 16 * 256 + s.reg 2) s.mc s.dg)
def tickW (s : WS) : WS := if (s.cyc + 1) % 16 = 0 then advW (modW { s with cyc := (s.cyc + 1) % 16 }) else { s with cyc := (s.cyc + 1) % 16 }
def clockW (s : WS) : WS := tickW (fadeW s)
/-- what is written -/
def evW (s : WS) (b : Int) : WS := { s with vs := b % 64, vc := 0, vg := if 128 ≤ b then b % 64 else s.vg }
def edW (s : WS) (b : Int) : WS := { s with ds := b % 64, dc := 0, dg := if 128 ≤ b then b % 64 else s.dg }
def entW (s : WS) (b : Int) : WS := { s with mt := upd (upd s.mt s.mp.toNat (b % 8)) ((s.mp + 1) % 64).toNat (b % 8), mp := ((s.mp + 1) % 64 + 1) % 64 }
def prW (s : WS) (r : Nat) (b : Int) : WS :=
  if r = 0 then evW s b else if r = 4 then edW s b
  else if r = 3 then (if 128 ≤ b then { s with sum := 0, pos := 0 } else s)
  else if r = 5 then { s with mc := sgnW (b % 128) }
  else if r = 7 then (if 128 ≤ b then { s with ms := 0 } else s)
  else if r = 8 then (if 128 ≤ s.reg 7 then entW s b else s)
  else if r = 9 then (if 128 ≤ b ∧ s.reg 9 < 128 then { s with held := outW s } else s)
  else s
def regW (s : WS) (r : Nat) (b : Int) : WS := { s with reg := upd s.reg r b }
def putR (s : WS) (r : Nat) (b : Int) : WS := regW (prW s r b) r b
def putW (s : WS) (a b : Int) : WS :=
  if a < 16448 then s else if a < 16512 then (if 128 ≤ s.reg 9 then { s with tab := upd s.tab (a - 16448).toNat (b % 64) } else s)
  else if a < 16523 then putR s (a - 16512).toNat b else s
def newW : WS := { reg := fun _ => 0, tab := fun _ => 0, sum := 0, pos := 0, vg := 0, vs := 0, vc := 0, dg := 0, ds := 0, dc := 0, mt := fun _ => 0, ms := 0, mp := 0, mc := 0, cyc := 0, held := 0 }

/-- bits as numbers -/
theorem u8all {P : Int → Prop} (k : ∀ n : Fin 256, P (n.val : Int)) (c : Int) (h : 0 ≤ c ∧ c < 256) : P c := by
  have := k ⟨c.toNat, by omega⟩; rwa [show ((⟨c.toNat, by omega⟩ : Fin 256).val : Int) = c from Int.toNat_of_nonneg h.1] at this
theorem c128 (c : Int) (h : 0 ≤ c ∧ c < 256) : (c < 128 ∧ bits .and .u8 c 128 = 0) ∨ (128 ≤ c ∧ bits .and .u8 c 128 = 128) := u8all (P := fun c => (c < 128 ∧ bits .and .u8 c 128 = 0) ∨ (128 ≤ c ∧ bits .and .u8 c 128 = 128)) (by decide +kernel) c h
theorem c64 (c : Int) (h : 0 ≤ c ∧ c < 256) : (c / 64 % 2 = 0 ∧ bits .and .u8 c 64 = 0) ∨ (c / 64 % 2 = 1 ∧ bits .and .u8 c 64 = 64) := u8all (P := fun c => (c / 64 % 2 = 0 ∧ bits .and .u8 c 64 = 0) ∨ (c / 64 % 2 = 1 ∧ bits .and .u8 c 64 = 64)) (by decide +kernel) c h
theorem c192 (c : Int) (h : 0 ≤ c ∧ c < 256) : (c < 64 ∧ (bits .and .u8 c 192 != 0) = false) ∨ (64 ≤ c ∧ (bits .and .u8 c 192 != 0) = true) := u8all (P := fun c => (c < 64 ∧ (bits .and .u8 c 192 != 0) = false) ∨ (64 ≤ c ∧ (bits .and .u8 c 192 != 0) = true)) (by decide +kernel) c h
theorem m63 (c : Int) (h : 0 ≤ c ∧ c < 256) : bits .and .u8 c 63 = c % 64 := u8all (P := fun c => bits .and .u8 c 63 = c % 64) (by decide +kernel) c h
theorem m127 (c : Int) (h : 0 ≤ c ∧ c < 256) : bits .and .u8 c 127 = c % 128 := u8all (P := fun c => bits .and .u8 c 127 = c % 128) (by decide +kernel) c h
theorem m15 (c : Int) (h : 0 ≤ c ∧ c < 256) : bits .and .u8 c 15 = c % 16 := u8all (P := fun c => bits .and .u8 c 15 = c % 16) (by decide +kernel) c h
theorem m7 (c : Int) (h : 0 ≤ c ∧ c < 256) : bits .and .u8 c 7 = c % 8 := u8all (P := fun c => bits .and .u8 c 7 = c % 8) (by decide +kernel) c h
theorem m3 (c : Int) (h : 0 ≤ c ∧ c < 256) : bits .and .u8 c 3 = c % 4 := u8all (P := fun c => bits .and .u8 c 3 = c % 4) (by decide +kernel) c h
theorem o64 (c : Int) (h : 0 ≤ c ∧ c < 64) : bits .or .u8 c 64 = c + 64 := by
  have k : ∀ n : Fin 64, bits .or .u8 (n.val : Int) 64 = (n.val : Int) + 64 := by decide +kernel
  have := k ⟨c.toNat, by omega⟩; rwa [show ((⟨c.toNat, by omega⟩ : Fin 64).val : Int) = c from Int.toNat_of_nonneg h.1] at this
theorem natOf (c : Int) (h : 0 ≤ c) : ∃ k : Nat, c = (k : Int) := ⟨c.toNat, by omega⟩
theorem o12 (x y : Int) (hx : 0 ≤ x ∧ x < 16) (hy : 0 ≤ y ∧ y < 256) : bits .or .i64 (x * 256) y = x * 256 + y := by
  have k : ∀ a : Fin 16, ∀ b : Fin 256, bits .or .i64 ((a.val : Int) * 256) (b.val : Int) = (a.val : Int) * 256 + (b.val : Int) := by decide +kernel
  have := k ⟨x.toNat, by omega⟩ ⟨y.toNat, by omega⟩
  rwa [show ((⟨x.toNat, by omega⟩ : Fin 16).val : Int) = x from Int.toNat_of_nonneg hx.1, show ((⟨y.toNat, by omega⟩ : Fin 256).val : Int) = y from Int.toNat_of_nonneg hy.1] at this
/-- bit 7 of a number that may be below 0 -/
theorem a128 (t : Int) (h : -300 ≤ t ∧ t < 300) : (t % 256 < 128 ∧ (bits .and .i64 t 128 == 0) = true) ∨ (¬ t % 256 < 128 ∧ (bits .and .i64 t 128 == 0) = false) := by
  have k : ∀ n : Fin 600, (((n.val : Int) - 300) % 256 < 128 ∧ (bits .and .i64 ((n.val : Int) - 300) 128 == 0) = true) ∨ (¬ ((n.val : Int) - 300) % 256 < 128 ∧ (bits .and .i64 ((n.val : Int) - 300) 128 == 0) = false) := by decide +kernel
  have := k ⟨(t + 300).toNat, by omega⟩
  rwa [show ((⟨(t + 300).toNat, by omega⟩ : Fin 600).val : Int) - 300 = t by show ((t + 300).toNat : Int) - 300 = t; omega] at this
theorem at1_nat (L : List Int) (i : Nat) (h : i < L.length) : at1 L (i : Int) = L[i] := by
  unfold at1
  rw [Int.toNat_natCast, List.getD_eq_getElem?_getD, List.getElem?_eq_getElem h]
  rfl
theorem wgt_b (k : Int) (h : 0 ≤ k ∧ k < 4) : 12 ≤ at1 wgtL k ∧ at1 wgtL k ≤ 30 := by
  have q : ∀ n : Fin 4, 12 ≤ at1 wgtL (n.val : Int) ∧ at1 wgtL (n.val : Int) ≤ 30 := by decide
  have := q ⟨k.toNat, by omega⟩; rwa [show ((⟨k.toNat, by omega⟩ : Fin 4).val : Int) = k from Int.toNat_of_nonneg h.1] at this
theorem chg_b (k : Int) (h : 0 ≤ k ∧ k < 8) : -4 ≤ at1 chgL k ∧ at1 chgL k ≤ 4 := by
  have q : ∀ n : Fin 8, -4 ≤ at1 chgL (n.val : Int) ∧ at1 chgL (n.val : Int) ≤ 4 := by decide
  have := q ⟨k.toNat, by omega⟩; rwa [show ((⟨k.toNat, by omega⟩ : Fin 8).val : Int) = k from Int.toNat_of_nonneg h.1] at this
theorem mul3 (t g k : Int) (ht : 0 ≤ t ∧ t < 64) (hg : 0 ≤ g ∧ g ≤ 32) (hk : 12 ≤ k ∧ k ≤ 30) : 0 ≤ t * g ∧ t * g ≤ 2016 ∧ 0 ≤ t * g * k ∧ t * g * k ≤ 60480 := by
  have h1 : 0 ≤ t * g := Int.mul_nonneg ht.1 hg.1
  have h2 : t * g ≤ 63 * 32 := Int.mul_le_mul (by omega) hg.2 hg.1 (by decide)
  have h3 : 0 ≤ t * g * k := Int.mul_nonneg h1 (by omega)
  have h4 : t * g * k ≤ 2016 * 30 := Int.mul_le_mul (by omega) hk.2 (by omega) (by decide)
  exact ⟨h1, by omega, h3, by omega⟩
theorem outW_b {s : WS} (ok : WOk s) : 0 ≤ outW s ∧ outW s ≤ 60480 := by
  unfold outW
  split
  · exact ok.held
  · have h1 := ok.pos
    have h2 := ok.vg
    have := mul3 (s.tab s.pos.toNat) (min s.vg 32) (at1 wgtL (s.reg 9 % 4)) (ok.tab _ (by omega)) (by omega) (wgt_b _ (by omega))
    exact ⟨this.2.2.1, this.2.2.2⟩
theorem lim_b (sp m : Int) (h : 0 ≤ sp ∧ sp < 64) (hm : 0 ≤ m ∧ m < 256) : 0 ≤ (sp + 1) * (m + 1) ∧ (sp + 1) * (m + 1) ≤ 16384 := by
  have h1 : 0 ≤ (sp + 1) * (m + 1) := Int.mul_nonneg (by omega) (by omega)
  have h2 : (sp + 1) * (m + 1) ≤ 64 * 256 := Int.mul_le_mul (by omega) (by omega) (by omega) (by decide)
  exact ⟨h1, by omega⟩
theorem limW_eq (sp m : Int) : limW sp m = 8 * ((sp + 1) * (m + 1)) := by unfold limW; rw [Int.mul_assoc]

end Go.Proofs.YtmhplbgoahknbaaDoor
