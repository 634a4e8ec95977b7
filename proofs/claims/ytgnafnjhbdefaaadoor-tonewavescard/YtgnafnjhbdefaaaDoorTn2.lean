/- A tone in memory: seventeen cells; its small methods. No law is claimed here. -/
import Derived.Test.YtgnafnjhbdefaaaDoorTn1
import Derived.BigQuiet
namespace Go.Proofs.YtgnafnjhbdefaaaDoor
open Go.RowKit

/-- a tone -/
structure TS where
  kind : Int
  en : Bool
  ctl : Int
  len : Int
  tim : Int
  per : Int
  stp : Int
  lev : Int
  div : Int
  rst : Bool
  sreg : Int
  sdiv : Int
  swr : Bool
  lin : Int
  pend : Bool
  bits : Int
  short : Bool
theorem ts_ext {a b : TS} (h0 : a.kind = b.kind) (h1 : a.en = b.en) (h2 : a.ctl = b.ctl) (h3 : a.len = b.len) (h4 : a.tim = b.tim) (h5 : a.per = b.per) (h6 : a.stp = b.stp) (h7 : a.lev = b.lev) (h8 : a.div = b.div) (h9 : a.rst = b.rst) (h10 : a.sreg = b.sreg) (h11 : a.sdiv = b.sdiv) (h12 : a.swr = b.swr) (h13 : a.lin = b.lin) (h14 : a.pend = b.pend) (h15 : a.bits = b.bits) (h16 : a.short = b.short) : a = b := by
  cases a; cases b; simp only at *; subst_vars; rfl
def TS.cells (s : TS) : List Value :=
  [.int .u8 s.kind, .bool s.en, .int .u8 s.ctl, .int .u8 s.len, .int .u16 s.tim, .int .u16 s.per, .int .u8 s.stp, .int .u8 s.lev, .int .u8 s.div, .bool s.rst,
   .int .u8 s.sreg, .int .u8 s.sdiv, .bool s.swr, .int .u8 s.lin, .bool s.pend, .int .u16 s.bits, .bool s.short]
/-- w with the block n made of the tone s -/
def stT (w : World) (n : Nat) (s : TS) : World := rowT w n 67 s.cells
/-- what its cells are -/
structure CF (v : World) (n : Nat) (s : TS) : Prop where
  c0 : v.cell? ⟨n, 0, none⟩ = some (.int .u8 s.kind)
  c1 : v.cell? ⟨n, 1, none⟩ = some (.bool s.en)
  c2 : v.cell? ⟨n, 2, none⟩ = some (.int .u8 s.ctl)
  c3 : v.cell? ⟨n, 3, none⟩ = some (.int .u8 s.len)
  c4 : v.cell? ⟨n, 4, none⟩ = some (.int .u16 s.tim)
  c5 : v.cell? ⟨n, 5, none⟩ = some (.int .u16 s.per)
  c6 : v.cell? ⟨n, 6, none⟩ = some (.int .u8 s.stp)
  c7 : v.cell? ⟨n, 7, none⟩ = some (.int .u8 s.lev)
  c8 : v.cell? ⟨n, 8, none⟩ = some (.int .u8 s.div)
  c9 : v.cell? ⟨n, 9, none⟩ = some (.bool s.rst)
  c10 : v.cell? ⟨n, 10, none⟩ = some (.int .u8 s.sreg)
  c11 : v.cell? ⟨n, 11, none⟩ = some (.int .u8 s.sdiv)
  c12 : v.cell? ⟨n, 12, none⟩ = some (.bool s.swr)
  c13 : v.cell? ⟨n, 13, none⟩ = some (.int .u8 s.lin)
  c14 : v.cell? ⟨n, 14, none⟩ = some (.bool s.pend)
  c15 : v.cell? ⟨n, 15, none⟩ = some (.int .u16 s.bits)
  c16 : v.cell? ⟨n, 16, none⟩ = some (.bool s.short)
  fz : ∀ i, v.frozen? ⟨n, i, none⟩ = false
theorem stT_cf (w : World) (n : Nat) (s : TS) (h : n < w.heap.size) : CF (stT w n s) n s := by
  constructor <;> first | (intro i; exact rowT_frozen _ _ _ _ i) | (unfold stT; rw [rowT_cell _ _ _ _ h]; rfl)
theorem stT_drewN (w : World) (n : Nat) (s : TS) (q : Nat) : (stT w n s).drewN q = stT (w.drewN q) n s := rowT_drewN _ _ _ _ _
theorem stT_set (w : World) (n : Nat) (s s' : TS) (i : Nat) (v : Value) (h : s.cells.set i v = s'.cells) : (stT w n s).setCell ⟨n, i, none⟩ v = stT w n s' := by
  unfold stT; rw [rowT_set, h]

theorem st0 (w : World) (n : Nat) (s : TS) (x : Int) : (stT w n s).setCell ⟨n, 0, none⟩ (.int .u8 x) = stT w n { s with kind := x } := stT_set w n s _ 0 _ rfl
theorem st1 (w : World) (n : Nat) (s : TS) (x : Bool) : (stT w n s).setCell ⟨n, 1, none⟩ (.bool x) = stT w n { s with en := x } := stT_set w n s _ 1 _ rfl
theorem st2 (w : World) (n : Nat) (s : TS) (x : Int) : (stT w n s).setCell ⟨n, 2, none⟩ (.int .u8 x) = stT w n { s with ctl := x } := stT_set w n s _ 2 _ rfl
theorem st3 (w : World) (n : Nat) (s : TS) (x : Int) : (stT w n s).setCell ⟨n, 3, none⟩ (.int .u8 x) = stT w n { s with len := x } := stT_set w n s _ 3 _ rfl
theorem st4 (w : World) (n : Nat) (s : TS) (x : Int) : (stT w n s).setCell ⟨n, 4, none⟩ (.int .u16 x) = stT w n { s with tim := x } := stT_set w n s _ 4 _ rfl
theorem st5 (w : World) (n : Nat) (s : TS) (x : Int) : (stT w n s).setCell ⟨n, 5, none⟩ (.int .u16 x) = stT w n { s with per := x } := stT_set w n s _ 5 _ rfl
theorem st6 (w : World) (n : Nat) (s : TS) (x : Int) : (stT w n s).setCell ⟨n, 6, none⟩ (.int .u8 x) = stT w n { s with stp := x } := stT_set w n s _ 6 _ rfl
theorem st7 (w : World) (n : Nat) (s : TS) (x : Int) : (stT w n s).setCell ⟨n, 7, none⟩ (.int .u8 x) = stT w n { s with lev := x } := stT_set w n s _ 7 _ rfl
theorem st8 (w : World) (n : Nat) (s : TS) (x : Int) : (stT w n s).setCell ⟨n, 8, none⟩ (.int .u8 x) = stT w n { s with div := x } := stT_set w n s _ 8 _ rfl
theorem st9 (w : World) (n : Nat) (s : TS) (x : Bool) : (stT w n s).setCell ⟨n, 9, none⟩ (.bool x) = stT w n { s with rst := x } := stT_set w n s _ 9 _ rfl
theorem st10 (w : World) (n : Nat) (s : TS) (x : Int) : (stT w n s).setCell ⟨n, 10, none⟩ (.int .u8 x) = stT w n { s with sreg := x } := stT_set w n s _ 10 _ rfl
theorem st11 (w : World) (n : Nat) (s : TS) (x : Int) : (stT w n s).setCell ⟨n, 11, none⟩ (.int .u8 x) = stT w n { s with sdiv := x } := stT_set w n s _ 11 _ rfl
theorem st12 (w : World) (n : Nat) (s : TS) (x : Bool) : (stT w n s).setCell ⟨n, 12, none⟩ (.bool x) = stT w n { s with swr := x } := stT_set w n s _ 12 _ rfl
theorem st13 (w : World) (n : Nat) (s : TS) (x : Int) : (stT w n s).setCell ⟨n, 13, none⟩ (.int .u8 x) = stT w n { s with lin := x } := stT_set w n s _ 13 _ rfl
theorem st14 (w : World) (n : Nat) (s : TS) (x : Bool) : (stT w n s).setCell ⟨n, 14, none⟩ (.bool x) = stT w n { s with pend := x } := stT_set w n s _ 14 _ rfl
theorem st15 (w : World) (n : Nat) (s : TS) (x : Int) : (stT w n s).setCell ⟨n, 15, none⟩ (.int .u16 x) = stT w n { s with bits := x } := stT_set w n s _ 15 _ rfl
theorem st16 (w : World) (n : Nat) (s : TS) (x : Bool) : (stT w n s).setCell ⟨n, 16, none⟩ (.bool x) = stT w n { s with short := x } := stT_set w n s _ 16 _ rfl

/-- lengths, a noise's periods, duties -/
def lenL : List Int := [10, 254, 20, 2, 40, 4, 80, 6, 160, 8, 60, 10, 14, 12, 26, 14, 12, 16, 24, 18, 48, 20, 96, 22, 192, 24, 72, 26, 16, 28, 32, 30]
def noiL : List Int := [4, 8, 16, 32, 64, 96, 128, 160, 202, 254, 380, 508, 762, 1016, 2034, 4068]
def dutL : List Int := [0, 1, 0, 0, 0, 0, 0, 0, 0, 1, 1, 0, 0, 0, 0, 0, 0, 1, 1, 1, 1, 0, 0, 0, 1, 0, 0, 1, 1, 1, 1, 1]
def at0 (l : List Int) (k : Int) : Int := l.getD k.toNat 0
/-- what the package's variables hold -/
structure gl (v : World) : Prop where
  lt : 2 < v.heap.size
  noi : ∀ i : Nat, i < 16 → v.cell? ⟨0, i, none⟩ = some (.int .u16 (at0 noiL i))
  len : ∀ i : Nat, i < 32 → v.cell? ⟨1, i, none⟩ = some (.int .u8 (at0 lenL i))
  dut : ∀ i : Nat, i < 32 → v.cell? ⟨2, i, none⟩ = some (.int .u8 (at0 dutL i))
theorem gl.ext {v v' : World} (h : gl v) (hE : Ext v v') : gl v' := by
  have hb := hE.below
  have := h.lt
  exact ⟨Nat.lt_of_lt_of_le h.lt hb.size, fun i hi => (hb.cell (by show 0 < _; omega)).trans (h.noi i hi), fun i hi => (hb.cell (by show 1 < _; omega)).trans (h.len i hi), fun i hi => (hb.cell (by show 2 < _; omega)).trans (h.dut i hi)⟩
theorem gl.drewN {v : World} (h : gl v) (q : Nat) : gl (v.drewN q) := h.ext ⟨[], q, rfl⟩

def wrT (w : World) (n : Nat) (s : TS) (w' : World) : Prop := ∃ q, w' = stT (w.drewN q) n s

theorem wrT_refl (w : World) (n : Nat) (s : TS) : wrT w n s (stT w n s) := ⟨0, rfl⟩
theorem wrT_drewN {w : World} {n : Nat} {s : TS} {v : World} (h : wrT w n s v) (q : Nat) : wrT w n s (v.drewN q) := by
  obtain ⟨k, rfl⟩ := h
  exact ⟨k + q, by rw [stT_drewN]; simp⟩
theorem wrT_drew {w : World} {n : Nat} {s : TS} {v : World} (h : wrT w n s v) : wrT w n s v.drew := wrT_drewN h 1

theorem wr_of {w : World} {n : Nat} {a b : TS} (e : a = b) (q : Nat) : ∃ k, (stT w n a).drewN q = stT (w.drewN k) n b := ⟨q, by rw [stT_drewN, e]⟩
theorem wr_of0 {w : World} {n : Nat} {a b : TS} (e : a = b) : ∃ k, stT w n a = stT (w.drewN k) n b := ⟨0, by rw [e]; rfl⟩
theorem dr_0 (v : World) : ∃ q, v = v.drewN q := ⟨0, rfl⟩
theorem dr_n {v a : World} (h : ∃ q, a = v.drewN q) (k : Nat) : ∃ q, a.drewN k = v.drewN q := by
  obtain ⟨q, rfl⟩ := h
  exact ⟨q + k, by simp⟩
theorem dr_1 {v a : World} (h : ∃ q, a = v.drewN q) : ∃ q, a.drew = v.drewN q := dr_n h 1

/-- bounds of a tone's numbers -/
structure TOk (s : TS) : Prop where
  kind : 0 ≤ s.kind ∧ s.kind < 4
  ctl : 0 ≤ s.ctl ∧ s.ctl < 256
  len : 0 ≤ s.len ∧ s.len < 256
  tim : 0 ≤ s.tim ∧ s.tim < 4096
  per : 0 ≤ s.per ∧ s.per < 4096
  pulse : s.kind ≠ 3 → s.per < 2048
  stp : 0 ≤ s.stp ∧ s.stp < 32
  st8 : s.kind ≠ 2 → s.stp < 8
  lev : 0 ≤ s.lev ∧ s.lev < 16
  div : 0 ≤ s.div ∧ s.div < 16
  sreg : 0 ≤ s.sreg ∧ s.sreg < 256
  sdiv : 0 ≤ s.sdiv ∧ s.sdiv < 8
  lin : 0 ≤ s.lin ∧ s.lin < 128
  bits : 0 ≤ s.bits ∧ s.bits < 32768

/-- the methods, as numbers -/
def putN (s : TS) (b : Int) : TS := { s with per := at0 noiL (b % 16) - 1, short := decide (128 ≤ b) }
def put2 (s : TS) (b : Int) : TS := if s.kind = 3 then putN s b else { s with per := s.per / 256 % 8 * 256 + b }
def put3 (s : TS) (b : Int) : TS :=
  { s with len := if s.en then at0 lenL (b / 8) else s.len, per := if s.kind = 3 then s.per else s.per % 256 + b % 8 * 256,
           pend := if s.kind = 2 then true else s.pend, rst := if s.kind = 2 then s.rst else true, stp := if s.kind = 2 then s.stp else 0 }
def putT (s : TS) (r b : Int) : TS :=
  if r = 0 then { s with ctl := b } else if r = 1 then { s with sreg := b, swr := true } else if r = 2 then put2 s b else if r = 3 then put3 s b else s
def enT (s : TS) (on : Bool) : TS := { s with en := on, len := if on then s.len else 0 }
def bitT (s : TS) : Int := s.bits / 2 + (s.bits % 2 + (if s.short then s.bits / 64 % 2 else s.bits / 2 % 2)) % 2 * 16384
def triT (s : TS) : Int := if 0 < s.len ∧ 0 < s.lin then (s.stp + 1) % 32 else s.stp
def advT (s : TS) : TS :=
  if s.kind = 2 then (if 0 < s.len ∧ 0 < s.lin then { s with stp := (s.stp + 1) % 32 } else s)
  else if s.kind = 3 then { s with bits := bitT s } else { s with stp := (s.stp + 1) % 8 }
def clockT (s : TS) : TS := if 0 < s.tim then { s with tim := s.tim - 1 } else advT { s with tim := s.per }
def linT (s : TS) : TS := { s with lin := if s.pend then s.ctl % 128 else (if 0 < s.lin then s.lin - 1 else s.lin), pend := if s.ctl < 128 then false else s.pend }
def fadeL (l : Int) (b : Bool) : Int := if 0 < l then l - 1 else (if b then 15 else l)
def envT (s : TS) : TS :=
  if s.rst then { s with rst := false, lev := 15, div := s.ctl % 16 }
  else if 0 < s.div then { s with div := s.div - 1 }
  else { s with div := s.ctl % 16, lev := fadeL s.lev (decide (s.ctl / 32 % 2 = 1)) }
def quaT (s : TS) : TS := if s.kind = 2 then linT s else envT s
def targT (s : TS) : Int :=
  if s.sreg / 8 % 2 = 0 then s.per + s.per / 2 ^ (s.sreg % 8).toNat else s.per - min (s.per / 2 ^ (s.sreg % 8).toNat + (if s.kind = 0 then 1 else 0)) s.per
def mutT (s : TS) : Bool := decide (s.per < 8) || decide (2047 < targT s)
def haltT (s : TS) : Bool := if s.kind = 2 then decide (128 ≤ s.ctl) else decide (s.ctl / 32 % 2 = 1)
def dueT (s : TS) : Bool := decide (s.sdiv = 0) && decide (128 ≤ s.sreg) && decide (s.sreg % 8 ≠ 0)
def countT (s : TS) : TS := { s with sdiv := if s.sdiv = 0 ∨ s.swr = true then s.sreg / 16 % 8 else s.sdiv - 1, swr := false }
def sweepT (s : TS) : TS := countT (if dueT s && !mutT s then { s with per := targT s } else s)
def lenT (s : TS) : TS := if 0 < s.len ∧ haltT s = false then { s with len := s.len - 1 } else s
def halfT (s : TS) : TS := if (lenT s).kind < 2 then sweepT (lenT s) else lenT s
def volT (s : TS) : Int := if s.ctl / 16 % 2 = 1 then s.ctl % 16 else s.lev
def outT (s : TS) : Int :=
  if s.kind = 2 then (if s.stp < 16 then 15 - s.stp else s.stp - 16)
  else if s.kind = 3 then (if s.len ≤ 0 ∨ s.bits % 2 ≠ 0 then 0 else volT s)
  else if at0 dutL (s.ctl / 64 * 8 + s.stp) = 0 ∨ s.len ≤ 0 ∨ mutT s = true then 0 else volT s

/-- bit operations on bytes, as numbers -/
theorem b128 (c : Int) (h : 0 ≤ c ∧ c < 256) : (c < 128 ∧ bits .and .u8 c 128 = 0) ∨ (128 ≤ c ∧ bits .and .u8 c 128 = 128) := by
  have k : ∀ n : Fin 256, ((n.val : Int) < 128 ∧ bits .and .u8 (n.val : Int) 128 = 0) ∨ (128 ≤ (n.val : Int) ∧ bits .and .u8 (n.val : Int) 128 = 128) := by decide +kernel
  have := k ⟨c.toNat, by omega⟩; rwa [show ((⟨c.toNat, by omega⟩ : Fin 256).val : Int) = c from Int.toNat_of_nonneg h.1] at this
theorem b32 (c : Int) (h : 0 ≤ c ∧ c < 256) : (c / 32 % 2 = 0 ∧ bits .and .u8 c 32 = 0) ∨ (c / 32 % 2 = 1 ∧ bits .and .u8 c 32 = 32) := by
  have k : ∀ n : Fin 256, ((n.val : Int) / 32 % 2 = 0 ∧ bits .and .u8 (n.val : Int) 32 = 0) ∨ ((n.val : Int) / 32 % 2 = 1 ∧ bits .and .u8 (n.val : Int) 32 = 32) := by decide +kernel
  have := k ⟨c.toNat, by omega⟩; rwa [show ((⟨c.toNat, by omega⟩ : Fin 256).val : Int) = c from Int.toNat_of_nonneg h.1] at this
theorem b16 (c : Int) (h : 0 ≤ c ∧ c < 256) : (c / 16 % 2 = 0 ∧ bits .and .u8 c 16 = 0) ∨ (c / 16 % 2 = 1 ∧ bits .and .u8 c 16 = 16) := by
  have k : ∀ n : Fin 256, ((n.val : Int) / 16 % 2 = 0 ∧ bits .and .u8 (n.val : Int) 16 = 0) ∨ ((n.val : Int) / 16 % 2 = 1 ∧ bits .and .u8 (n.val : Int) 16 = 16) := by decide +kernel
  have := k ⟨c.toNat, by omega⟩; rwa [show ((⟨c.toNat, by omega⟩ : Fin 256).val : Int) = c from Int.toNat_of_nonneg h.1] at this
theorem b8 (c : Int) (h : 0 ≤ c ∧ c < 256) : (c / 8 % 2 = 0 ∧ bits .and .u8 c 8 = 0) ∨ (c / 8 % 2 = 1 ∧ bits .and .u8 c 8 = 8) := by
  have k : ∀ n : Fin 256, ((n.val : Int) / 8 % 2 = 0 ∧ bits .and .u8 (n.val : Int) 8 = 0) ∨ ((n.val : Int) / 8 % 2 = 1 ∧ bits .and .u8 (n.val : Int) 8 = 8) := by decide +kernel
  have := k ⟨c.toNat, by omega⟩; rwa [show ((⟨c.toNat, by omega⟩ : Fin 256).val : Int) = c from Int.toNat_of_nonneg h.1] at this
theorem l7 (c : Int) (h : 0 ≤ c ∧ c < 256) : bits .and .u8 c 7 = c % 8 := by
  have k : ∀ n : Fin 256, bits .and .u8 (n.val : Int) 7 = (n.val : Int) % 8 := by decide +kernel
  have := k ⟨c.toNat, by omega⟩; rwa [show ((⟨c.toNat, by omega⟩ : Fin 256).val : Int) = c from Int.toNat_of_nonneg h.1] at this
theorem l15 (c : Int) (h : 0 ≤ c ∧ c < 256) : bits .and .u8 c 15 = c % 16 := by
  have k : ∀ n : Fin 256, bits .and .u8 (n.val : Int) 15 = (n.val : Int) % 16 := by decide +kernel
  have := k ⟨c.toNat, by omega⟩; rwa [show ((⟨c.toNat, by omega⟩ : Fin 256).val : Int) = c from Int.toNat_of_nonneg h.1] at this
theorem l127 (c : Int) (h : 0 ≤ c ∧ c < 256) : bits .and .u8 c 127 = c % 128 := by
  have k : ∀ n : Fin 256, bits .and .u8 (n.val : Int) 127 = (n.val : Int) % 128 := by decide +kernel
  have := k ⟨c.toNat, by omega⟩; rwa [show ((⟨c.toNat, by omega⟩ : Fin 256).val : Int) = c from Int.toNat_of_nonneg h.1] at this
theorem l112 (c : Int) (h : 0 ≤ c ∧ c < 256) : bits .and .u8 c 112 = c / 16 % 8 * 16 := by
  have k : ∀ n : Fin 256, bits .and .u8 (n.val : Int) 112 = (n.val : Int) / 16 % 8 * 16 := by decide +kernel
  have := k ⟨c.toNat, by omega⟩; rwa [show ((⟨c.toNat, by omega⟩ : Fin 256).val : Int) = c from Int.toNat_of_nonneg h.1] at this
/-- .. on words -/
theorem nat_of (c : Int) (h : 0 ≤ c) : ∃ k : Nat, c = (k : Int) := ⟨c.toNat, by omega⟩
theorem w1792 (p : Int) (h : 0 ≤ p ∧ p < 65536) : bits .and .u16 p 1792 = p / 256 % 8 * 256 := by
  obtain ⟨k, rfl⟩ := nat_of p h.1
  rw [show (1792 : Int) = ((1792 : Nat) : Int) from rfl, and_u16 k 1792 (by omega) (by omega)]
  have : k &&& 1792 = k / 256 % 8 * 256 := by
    apply Nat.eq_of_testBit_eq
    intro i
    rw [show k / 256 % 8 * 256 = (k / 2 ^ 8 % 2 ^ 3) * 2 ^ 8 from rfl, show (1792 : Nat) = (2 ^ 3 - 1) * 2 ^ 8 from rfl]
    rw [Nat.testBit_and, Nat.testBit_mul_two_pow, Nat.testBit_mul_two_pow, Nat.testBit_mod_two_pow, Nat.testBit_div_two_pow, Nat.testBit_two_pow_sub_one]
    by_cases h8 : 8 ≤ i
    · rw [show i - 8 + 8 = i by omega]
      cases k.testBit i <;> cases decide (i - 8 < 3) <;> simp [h8]
    · simp [h8]
  rw [this]; omega
theorem w255 (p : Int) (h : 0 ≤ p ∧ p < 65536) : bits .and .u16 p 255 = p % 256 := by
  obtain ⟨k, rfl⟩ := nat_of p h.1
  rw [show (255 : Int) = ((255 : Nat) : Int) from rfl, and_u16 k 255 (by omega) (by omega), show (255 : Nat) = 2 ^ 8 - 1 from rfl, Nat.and_two_pow_sub_one_eq_mod]
  omega
theorem w1 (p : Int) (h : 0 ≤ p ∧ p < 65536) : bits .and .u16 p 1 = p % 2 := by
  obtain ⟨k, rfl⟩ := nat_of p h.1
  rw [show (1 : Int) = ((1 : Nat) : Int) from rfl, and_u16 k 1 (by omega) (by omega), Nat.and_one_is_mod]
  omega
theorem wor (p b : Int) (h : 0 ≤ p ∧ p < 256) (hb : 0 ≤ b ∧ b < 256) : bits .or .u16 (b * 256) p = b * 256 + p := by
  obtain ⟨k, rfl⟩ := nat_of p h.1
  obtain ⟨m, rfl⟩ := nat_of b hb.1
  rw [show (m : Int) * 256 = ((m * 256 : Nat) : Int) by omega, or_u16 _ k (by omega) (by omega), Nat.or_comm, show m * 256 = m * 2 ^ 8 from rfl, add_or k m 8 (by omega)]
  omega
theorem wor' (p b : Int) (h : 0 ≤ p ∧ p < 256) (hb : 0 ≤ b ∧ b < 256) : bits .or .u16 p (b * 256) = p + b * 256 := by
  obtain ⟨k, rfl⟩ := nat_of p h.1
  obtain ⟨m, rfl⟩ := nat_of b hb.1
  rw [show (m : Int) * 256 = ((m * 256 : Nat) : Int) by omega, or_u16 k _ (by omega) (by omega), show m * 256 = m * 2 ^ 8 from rfl, add_or k m 8 (by omega)]
  omega
theorem wnoise (x y : Int) (hx : 0 ≤ x ∧ x < 32768) (hy : 0 ≤ y ∧ y < 32768) :
    bits .or .u16 (x / 2) (IntKind.u16.wrap (bits .and .u16 (bits .xor .u16 x y) 1 * 16384)) = x / 2 + (x % 2 + y % 2) % 2 * 16384 := by
  obtain ⟨a, rfl⟩ := nat_of x hx.1
  obtain ⟨b, rfl⟩ := nat_of y hy.1
  rw [xor_u16 a b (by omega) (by omega)]
  have hxo : a ^^^ b < 2 ^ 16 := Nat.xor_lt_two_pow (by omega) (by omega)
  rw [show (1 : Int) = ((1 : Nat) : Int) from rfl, and_u16 _ 1 hxo (by omega), Nat.and_one_is_mod]
  have hm : (a ^^^ b) % 2 = (a + b) % 2 := by
    have h1 : (a ^^^ b) % 2 = (a ^^^ b) &&& 1 := (Nat.and_one_is_mod _).symm
    rw [h1, Nat.and_xor_distrib_right, Nat.and_one_is_mod, Nat.and_one_is_mod]
    rcases Nat.mod_two_eq_zero_or_one a with h | h <;> rcases Nat.mod_two_eq_zero_or_one b with k | k <;> rw [h, k] <;> simp <;> omega
  rw [hm, wrap_u16_mod, show (a : Int) / 2 = ((a / 2 : Nat) : Int) by omega, show (((a + b) % 2 : Nat) : Int) * 16384 % 65536 = (((a + b) % 2 * 16384 : Nat) : Int) by omega,
    or_u16 _ _ (by omega) (by omega), show (a + b) % 2 * 16384 = (a + b) % 2 * 2 ^ 14 from rfl, add_or _ _ 14 (by omega)]
  omega

theorem noiL_pos (k : Int) (h : 0 ≤ k ∧ k < 16) : 4 ≤ at0 noiL k ∧ at0 noiL k < 4096 := by
  have q : ∀ n : Fin 16, 4 ≤ at0 noiL (n.val : Int) ∧ at0 noiL (n.val : Int) < 4096 := by decide
  have := q ⟨k.toNat, by omega⟩; rwa [show ((⟨k.toNat, by omega⟩ : Fin 16).val : Int) = k from Int.toNat_of_nonneg h.1] at this
theorem lenL_pos (k : Int) (h : 0 ≤ k ∧ k < 32) : 2 ≤ at0 lenL k ∧ at0 lenL k < 256 := by
  have q : ∀ n : Fin 32, 2 ≤ at0 lenL (n.val : Int) ∧ at0 lenL (n.val : Int) < 256 := by decide
  have := q ⟨k.toNat, by omega⟩; rwa [show ((⟨k.toNat, by omega⟩ : Fin 32).val : Int) = k from Int.toNat_of_nonneg h.1] at this

end Go.Proofs.YtgnafnjhbdefaaaDoor
