/- A sound unit in memory and its methods. No law is claimed here. -/
import Derived.Test.YtghldekcnanciaaDoorTn12
import Derived.StillTailTactics
namespace Go.Proofs.YtghldekcnanciaaDoor
open Go.RowKit

/-- a sound unit but for its tones -/
structure SS where
  r0 : Int
  r1 : Int
  r2 : Int
  r3 : Int
  lev : Int
  tim : Int
  buf : Int
  full : Bool
  shf : Int
  bits : Int
  sil : Bool
  adr : Int
  rem : Int
  req : Bool
  cnt : Int
  sec : Bool
  inh : Bool
  frq : Bool
  odd : Bool

theorem ss_ext {a b : SS} (h4 : a.r0 = b.r0) (h5 : a.r1 = b.r1) (h6 : a.r2 = b.r2) (h7 : a.r3 = b.r3) (h8 : a.lev = b.lev) (h9 : a.tim = b.tim) (h10 : a.buf = b.buf) (h11 : a.full = b.full) (h12 : a.shf = b.shf) (h13 : a.bits = b.bits) (h14 : a.sil = b.sil) (h15 : a.adr = b.adr) (h16 : a.rem = b.rem) (h17 : a.req = b.req) (h18 : a.cnt = b.cnt) (h19 : a.sec = b.sec) (h20 : a.inh = b.inh) (h21 : a.frq = b.frq) (h22 : a.odd = b.odd) : a = b := by
  cases a; cases b; simp only at *; subst_vars; rfl

def SS.cells (s : SS) (p : Nat → Nat) : List Value :=
  [.pointer (some ⟨p 0, 0, none⟩), .pointer (some ⟨p 1, 0, none⟩), .pointer (some ⟨p 2, 0, none⟩), .pointer (some ⟨p 3, 0, none⟩),
   .int .u8 s.r0, .int .u8 s.r1, .int .u8 s.r2, .int .u8 s.r3, .int .u8 s.lev, .int .u16 s.tim, .int .u8 s.buf, .bool s.full, .int .u8 s.shf, .int .i64 s.bits, .bool s.sil, .int .u16 s.adr, .int .i64 s.rem, .bool s.req, .int .i64 s.cnt, .bool s.sec, .bool s.inh, .bool s.frq, .bool s.odd]
/-- w with the block n made of the unit s -/
def stS (w : World) (n : Nat) (p : Nat → Nat) (s : SS) : World := rowT w n 69 (s.cells p)

/-- what its cells are -/
structure CS (v : World) (n : Nat) (p : Nat → Nat) (s : SS) : Prop where
  t0 : v.cell? ⟨n, 0, none⟩ = some (.pointer (some ⟨p 0, 0, none⟩))
  t1 : v.cell? ⟨n, 1, none⟩ = some (.pointer (some ⟨p 1, 0, none⟩))
  t2 : v.cell? ⟨n, 2, none⟩ = some (.pointer (some ⟨p 2, 0, none⟩))
  t3 : v.cell? ⟨n, 3, none⟩ = some (.pointer (some ⟨p 3, 0, none⟩))
  r0 : v.cell? ⟨n, 4, none⟩ = some (.int .u8 s.r0)
  r1 : v.cell? ⟨n, 5, none⟩ = some (.int .u8 s.r1)
  r2 : v.cell? ⟨n, 6, none⟩ = some (.int .u8 s.r2)
  r3 : v.cell? ⟨n, 7, none⟩ = some (.int .u8 s.r3)
  lev : v.cell? ⟨n, 8, none⟩ = some (.int .u8 s.lev)
  tim : v.cell? ⟨n, 9, none⟩ = some (.int .u16 s.tim)
  buf : v.cell? ⟨n, 10, none⟩ = some (.int .u8 s.buf)
  full : v.cell? ⟨n, 11, none⟩ = some (.bool s.full)
  shf : v.cell? ⟨n, 12, none⟩ = some (.int .u8 s.shf)
  bits : v.cell? ⟨n, 13, none⟩ = some (.int .i64 s.bits)
  sil : v.cell? ⟨n, 14, none⟩ = some (.bool s.sil)
  adr : v.cell? ⟨n, 15, none⟩ = some (.int .u16 s.adr)
  rem : v.cell? ⟨n, 16, none⟩ = some (.int .i64 s.rem)
  req : v.cell? ⟨n, 17, none⟩ = some (.bool s.req)
  cnt : v.cell? ⟨n, 18, none⟩ = some (.int .i64 s.cnt)
  sec : v.cell? ⟨n, 19, none⟩ = some (.bool s.sec)
  inh : v.cell? ⟨n, 20, none⟩ = some (.bool s.inh)
  frq : v.cell? ⟨n, 21, none⟩ = some (.bool s.frq)
  odd : v.cell? ⟨n, 22, none⟩ = some (.bool s.odd)
  fz : ∀ i, v.frozen? ⟨n, i, none⟩ = false

theorem stS_cs (w : World) (n : Nat) (p : Nat → Nat) (s : SS) (h : n < w.heap.size) : CS (stS w n p s) n p s := by
  constructor <;> first | (intro i; exact rowT_frozen _ _ _ _ i) | (unfold stS; rw [rowT_cell _ _ _ _ h]; rfl)
theorem stS_drewN (w : World) (n : Nat) (p : Nat → Nat) (s : SS) (q : Nat) : (stS w n p s).drewN q = stS (w.drewN q) n p s := rowT_drewN _ _ _ _ _
theorem stS_set (w : World) (n : Nat) (p : Nat → Nat) (s s' : SS) (i : Nat) (v : Value) (h : (s.cells p).set i v = s'.cells p) : (stS w n p s).setCell ⟨n, i, none⟩ v = stS w n p s' := by
  unfold stS; rw [rowT_set, h]

theorem ss_r0 (w : World) (n : Nat) (p : Nat → Nat) (s : SS) (x : Int) : (stS w n p s).setCell ⟨n, 4, none⟩ (.int .u8 x) = stS w n p { s with r0 := x } := stS_set w n p s _ 4 _ rfl

theorem ss_r1 (w : World) (n : Nat) (p : Nat → Nat) (s : SS) (x : Int) : (stS w n p s).setCell ⟨n, 5, none⟩ (.int .u8 x) = stS w n p { s with r1 := x } := stS_set w n p s _ 5 _ rfl

theorem ss_r2 (w : World) (n : Nat) (p : Nat → Nat) (s : SS) (x : Int) : (stS w n p s).setCell ⟨n, 6, none⟩ (.int .u8 x) = stS w n p { s with r2 := x } := stS_set w n p s _ 6 _ rfl

theorem ss_r3 (w : World) (n : Nat) (p : Nat → Nat) (s : SS) (x : Int) : (stS w n p s).setCell ⟨n, 7, none⟩ (.int .u8 x) = stS w n p { s with r3 := x } := stS_set w n p s _ 7 _ rfl

theorem ss_lev (w : World) (n : Nat) (p : Nat → Nat) (s : SS) (x : Int) : (stS w n p s).setCell ⟨n, 8, none⟩ (.int .u8 x) = stS w n p { s with lev := x } := stS_set w n p s _ 8 _ rfl

theorem ss_tim (w : World) (n : Nat) (p : Nat → Nat) (s : SS) (x : Int) : (stS w n p s).setCell ⟨n, 9, none⟩ (.int .u16 x) = stS w n p { s with tim := x } := stS_set w n p s _ 9 _ rfl

theorem ss_buf (w : World) (n : Nat) (p : Nat → Nat) (s : SS) (x : Int) : (stS w n p s).setCell ⟨n, 10, none⟩ (.int .u8 x) = stS w n p { s with buf := x } := stS_set w n p s _ 10 _ rfl

theorem ss_full (w : World) (n : Nat) (p : Nat → Nat) (s : SS) (x : Bool) : (stS w n p s).setCell ⟨n, 11, none⟩ (.bool x) = stS w n p { s with full := x } := stS_set w n p s _ 11 _ rfl

theorem ss_shf (w : World) (n : Nat) (p : Nat → Nat) (s : SS) (x : Int) : (stS w n p s).setCell ⟨n, 12, none⟩ (.int .u8 x) = stS w n p { s with shf := x } := stS_set w n p s _ 12 _ rfl

theorem ss_bits (w : World) (n : Nat) (p : Nat → Nat) (s : SS) (x : Int) : (stS w n p s).setCell ⟨n, 13, none⟩ (.int .i64 x) = stS w n p { s with bits := x } := stS_set w n p s _ 13 _ rfl

theorem ss_sil (w : World) (n : Nat) (p : Nat → Nat) (s : SS) (x : Bool) : (stS w n p s).setCell ⟨n, 14, none⟩ (.bool x) = stS w n p { s with sil := x } := stS_set w n p s _ 14 _ rfl

theorem ss_adr (w : World) (n : Nat) (p : Nat → Nat) (s : SS) (x : Int) : (stS w n p s).setCell ⟨n, 15, none⟩ (.int .u16 x) = stS w n p { s with adr := x } := stS_set w n p s _ 15 _ rfl

theorem ss_rem (w : World) (n : Nat) (p : Nat → Nat) (s : SS) (x : Int) : (stS w n p s).setCell ⟨n, 16, none⟩ (.int .i64 x) = stS w n p { s with rem := x } := stS_set w n p s _ 16 _ rfl

theorem ss_req (w : World) (n : Nat) (p : Nat → Nat) (s : SS) (x : Bool) : (stS w n p s).setCell ⟨n, 17, none⟩ (.bool x) = stS w n p { s with req := x } := stS_set w n p s _ 17 _ rfl

theorem ss_cnt (w : World) (n : Nat) (p : Nat → Nat) (s : SS) (x : Int) : (stS w n p s).setCell ⟨n, 18, none⟩ (.int .i64 x) = stS w n p { s with cnt := x } := stS_set w n p s _ 18 _ rfl

theorem ss_sec (w : World) (n : Nat) (p : Nat → Nat) (s : SS) (x : Bool) : (stS w n p s).setCell ⟨n, 19, none⟩ (.bool x) = stS w n p { s with sec := x } := stS_set w n p s _ 19 _ rfl

theorem ss_inh (w : World) (n : Nat) (p : Nat → Nat) (s : SS) (x : Bool) : (stS w n p s).setCell ⟨n, 20, none⟩ (.bool x) = stS w n p { s with inh := x } := stS_set w n p s _ 20 _ rfl

theorem ss_frq (w : World) (n : Nat) (p : Nat → Nat) (s : SS) (x : Bool) : (stS w n p s).setCell ⟨n, 21, none⟩ (.bool x) = stS w n p { s with frq := x } := stS_set w n p s _ 21 _ rfl

theorem ss_odd (w : World) (n : Nat) (p : Nat → Nat) (s : SS) (x : Bool) : (stS w n p s).setCell ⟨n, 22, none⟩ (.bool x) = stS w n p { s with odd := x } := stS_set w n p s _ 22 _ rfl

def ratL : List Int := [428, 380, 340, 320, 286, 254, 226, 214, 190, 160, 142, 128, 106, 84, 72, 54]
/-- what the rates' variable holds -/
structure gr (v : World) : Prop where
  lt : 0 < v.heap.size
  rat : ∀ i : Nat, i < 16 → v.cell? ⟨0, i, none⟩ = some (.int .u16 (at0 ratL i))
theorem ratL_pos (k : Int) (h : 0 ≤ k ∧ k < 16) : 54 ≤ at0 ratL k ∧ at0 ratL k < 429 := by
  have q : ∀ n : Fin 16, 54 ≤ at0 ratL (n.val : Int) ∧ at0 ratL (n.val : Int) < 429 := by decide
  have := q ⟨k.toNat, by omega⟩; rwa [show ((⟨k.toNat, by omega⟩ : Fin 16).val : Int) = k from Int.toNat_of_nonneg h.1] at this
/-- bounds -/
structure SOk (s : SS) : Prop where
  r0 : 0 ≤ s.r0 ∧ s.r0 < 256
  r1 : 0 ≤ s.r1 ∧ s.r1 < 256
  r2 : 0 ≤ s.r2 ∧ s.r2 < 256
  r3 : 0 ≤ s.r3 ∧ s.r3 < 256
  lev : 0 ≤ s.lev ∧ s.lev < 128
  tim : 0 ≤ s.tim ∧ s.tim < 428
  buf : 0 ≤ s.buf ∧ s.buf < 256
  shf : 0 ≤ s.shf ∧ s.shf < 256
  bits : 1 ≤ s.bits ∧ s.bits ≤ 8
  adr : 0 ≤ s.adr ∧ s.adr < 65536
  rem : 0 ≤ s.rem ∧ s.rem ≤ 4081
  far : 0 < s.rem → 32768 ≤ s.adr
  cnt : 0 ≤ s.cnt ∧ s.cnt ≤ 37281
  cnt1 : s.sec = false → s.cnt ≤ 29829

/-- the sample's and the frame's methods, as numbers -/
def begS (s : SS) : SS := { s with adr := 49152 + 64 * s.r2, rem := 16 * s.r3 + 1 }
def putS0 (s : SS) (b : Int) : SS := { s with r0 := b, req := if b < 128 then false else s.req }
def putS1 (s : SS) (b : Int) : SS := { s with r1 := b, lev := b % 128 }
def putS (s : SS) (r : Nat) (b : Int) : SS := if r = 0 then putS0 s b else if r = 1 then putS1 s b else if r = 2 then { s with r2 := b } else { s with r3 := b }
def ensS (s : SS) (on : Bool) : SS := if on then (if s.rem = 0 then begS { s with req := false } else { s with req := false }) else { s with req := false, rem := 0 }
def askS (s : SS) : Bool := !s.full && decide (0 < s.rem)
def orA (x : Int) : Int := if x % 65536 < 32768 then x % 65536 + 32768 else x % 65536
def givA (s : SS) (b : Int) : SS := { s with buf := b, full := true, adr := orA (s.adr + 1), rem := s.rem - 1 }
def givS (s : SS) (b : Int) : SS :=
  if 0 < s.rem - 1 then givA s b else if s.r0 / 64 % 2 = 1 then begS (givA s b) else if 128 ≤ s.r0 then { givA s b with req := true } else givA s b
def levS (l x : Int) : Int := if x % 2 = 1 then (if l ≤ 125 then l + 2 else l) else (if 2 ≤ l then l - 2 else l)
def plyS (s : SS) : SS := { s with lev := levS s.lev s.shf, shf := s.shf / 2 }
def refS (s : SS) : SS := { s with bits := 8, sil := !s.full, shf := if s.full then s.buf else s.shf, full := false }
def bitS (s : SS) : SS := if s.bits - 1 = 0 then refS { s with bits := s.bits - 1 } else { s with bits := s.bits - 1 }
def smpS (s : SS) : SS :=
  if 0 < s.tim then { s with tim := s.tim - 1 }
  else bitS (if s.sil then { s with tim := at0 ratL (s.r0 % 16) - 1 } else plyS { s with tim := at0 ratL (s.r0 % 16) - 1 })
def frpS (s : SS) (b : Int) : SS := { s with cnt := 0, sec := decide (128 ≤ b), inh := decide (b / 64 % 2 = 1), frq := if b / 64 % 2 = 1 then false else s.frq }
def lastS (s : SS) : Int := if s.sec then 37281 else 29829
/-- does the frame give a quarter, a half? -/
def quaB (s : SS) : Bool := decide (s.cnt + 1 = 7457) || decide (s.cnt + 1 = 22371) || decide (s.cnt + 1 = 14913) || decide (s.cnt + 1 = lastS s)
def hlfB (s : SS) : Bool := decide (s.cnt + 1 = 14913) || decide (s.cnt + 1 = lastS s)
def frcS (s : SS) : SS :=
  { s with cnt := if s.cnt + 1 = lastS s + 1 then 0 else s.cnt + 1, frq := if s.cnt + 1 = lastS s ∧ s.sec = false ∧ s.inh = false then true else s.frq }

theorem b64 (c : Int) (h : 0 ≤ c ∧ c < 256) : (c / 64 % 2 = 0 ∧ bits .and .u8 c 64 = 0) ∨ (c / 64 % 2 = 1 ∧ bits .and .u8 c 64 = 64) := by
  have k : ∀ n : Fin 256, ((n.val : Int) / 64 % 2 = 0 ∧ bits .and .u8 (n.val : Int) 64 = 0) ∨ ((n.val : Int) / 64 % 2 = 1 ∧ bits .and .u8 (n.val : Int) 64 = 64) := by decide +kernel
  have := k ⟨c.toNat, by omega⟩; rwa [show ((⟨c.toNat, by omega⟩ : Fin 256).val : Int) = c from Int.toNat_of_nonneg h.1] at this
theorem b1u (c : Int) (h : 0 ≤ c ∧ c < 256) : (c % 2 = 0 ∧ bits .and .u8 c 1 = 0) ∨ (c % 2 = 1 ∧ bits .and .u8 c 1 = 1) := by
  have k : ∀ n : Fin 256, ((n.val : Int) % 2 = 0 ∧ bits .and .u8 (n.val : Int) 1 = 0) ∨ ((n.val : Int) % 2 = 1 ∧ bits .and .u8 (n.val : Int) 1 = 1) := by decide +kernel
  have := k ⟨c.toNat, by omega⟩; rwa [show ((⟨c.toNat, by omega⟩ : Fin 256).val : Int) = c from Int.toNat_of_nonneg h.1] at this
theorem or32768 (x : Int) (h : 0 ≤ x ∧ x < 65536) : bits .or .u16 x 32768 = if x < 32768 then x + 32768 else x := by
  obtain ⟨a, rfl⟩ := nat_of x h.1
  rw [show (32768 : Int) = ((32768 : Nat) : Int) from rfl, or_u16 a 32768 (by omega) (by omega)]
  have e : a = a % 2 ^ 15 + a / 2 ^ 15 * 2 ^ 15 := by omega
  rcases (by omega : a < 32768 ∨ 32768 ≤ a) with k | k
  · rw [if_pos (by omega), show (32768 : Nat) = 1 * 2 ^ 15 from rfl, add_or a 1 15 (by omega)]; omega
  · rw [if_neg (by omega)]
    have e2 : a ||| 32768 = a := by
      have e3 : a = (a - 32768) ||| 1 * 2 ^ 15 := by rw [add_or (a - 32768) 1 15 (by omega)]; omega
      rw [e3, show (32768 : Nat) = 1 * 2 ^ 15 from rfl, Nat.or_assoc, Nat.or_self]
    rw [e2]

end Go.Proofs.YtghldekcnanciaaDoor
