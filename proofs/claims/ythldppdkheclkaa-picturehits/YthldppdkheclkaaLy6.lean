/- LoopyScrolls (walk). No law is claimed here. -/
import Derived.Test.YthldppdkheclkaaLy5
namespace Go.Proofs.Ythldppdkheclkaa
open Go.RowKit

/-- a place of its fields -/
def enc (c l a d r : Int) : Int := c + 32 * l + 1024 * a + 2048 * d + 4096 * r
structure Fld (c l a d r : Int) : Prop where
  c : 0 ≤ c ∧ c < 32
  l : 0 ≤ l ∧ l < 32
  a : 0 ≤ a ∧ a < 2
  d : 0 ≤ d ∧ d < 2
  r : 0 ≤ r ∧ r < 8
theorem Fld.of (v : Int) (h : 0 ≤ v ∧ v < 32768) : ∃ c l a d r, v = enc c l a d r ∧ Fld c l a d r :=
  ⟨v % 32, v / 32 % 32, v / 1024 % 2, v / 2048 % 2, v / 4096, by unfold enc; omega, by omega, by omega, by omega, by omega, by omega⟩
theorem Fld.is {c l a d r : Int} (h : Fld c l a d r) : (0 ≤ enc c l a d r ∧ enc c l a d r < 32768) ∧ enc c l a d r % 32 = c ∧ enc c l a d r / 32 % 32 = l ∧ enc c l a d r / 1024 % 2 = a ∧ enc c l a d r / 2048 % 2 = d ∧ enc c l a d r / 4096 = r := by
  obtain ⟨h1, h2, h3, h4, h5⟩ := h
  unfold enc
  refine ⟨by omega, by omega, by omega, by omega, by omega, by omega⟩
/-- a scroll of its fields -/
def fs (c l a d r t x : Int) (w : Bool) : LS := ⟨enc c l a d r, t, x, w⟩
theorem Fld.in {c l a d r t x : Int} {w : Bool} (h : Fld c l a d r) (ht : 0 ≤ t ∧ t < 32768) (hx : 0 ≤ x ∧ x < 8) : LIn (fs c l a d r t x w) := ⟨h.is.1, ht, hx⟩
def rc (c : Int) : Int := if c = 31 then 0 else c + 1
def ra (c a : Int) : Int := if c = 31 then 1 - a else a
theorem rig_f {c l a d r t x : Int} {w : Bool} (h : Fld c l a d r) (ht : 0 ≤ t ∧ t < 32768) (hx : 0 ≤ x ∧ x < 8) :
    rigL (fs c l a d r t x w) = fs (rc c) l (ra c a) d r t x w ∧ Fld (rc c) l (ra c a) d r ∧ 32 * ra c a + rc c = (32 * a + c + 1) % 64 := by
  rw [rigL_is (h.in ht hx)]
  obtain ⟨i1, i2, i3, i4, i5, i6⟩ := h.is
  obtain ⟨h1, h2, h3, h4, h5⟩ := h
  refine ⟨?_, ⟨?_, h2, ?_, h4, h5⟩, ?_⟩
  · unfold fs
    simp only
    rw [i2, i4]
    apply ls_ext <;> first | rfl | (simp only; unfold rc ra enc; by_cases e : c = 31 <;> simp only [e, if_true, if_false] <;> omega)
  · unfold rc; by_cases e : c = 31 <;> simp only [e, if_true, if_false] <;> omega
  · unfold ra; by_cases e : c = 31 <;> simp only [e, if_true, if_false] <;> omega
  · unfold rc ra; by_cases e : c = 31 <;> simp only [e, if_true, if_false] <;> omega
def dl (l r : Int) : Int := if r = 7 then (if l = 29 then 0 else if l = 31 then 0 else l + 1) else l
def dd (l d r : Int) : Int := if r = 7 then (if l = 29 then 1 - d else d) else d
def dr (r : Int) : Int := if r = 7 then 0 else r + 1
theorem dow_f {c l a d r t x : Int} {w : Bool} (h : Fld c l a d r) (ht : 0 ≤ t ∧ t < 32768) (hx : 0 ≤ x ∧ x < 8) :
    dowL (fs c l a d r t x w) = fs c (dl l r) a (dd l d r) (dr r) t x w ∧ Fld c (dl l r) a (dd l d r) (dr r) ∧ (l < 30 → dl l r < 30 ∧ 240 * dd l d r + 8 * dl l r + dr r = (240 * d + 8 * l + r + 1) % 480) := by
  rw [dowL_is (h.in ht hx)]
  obtain ⟨i1, i2, i3, i4, i5, i6⟩ := h.is
  obtain ⟨h1, h2, h3, h4, h5⟩ := h
  refine ⟨?_, ⟨h1, ?_, h3, ?_, ?_⟩, fun hl => ⟨?_, ?_⟩⟩
  · unfold fs
    simp only
    rw [i3, i5, i6]
    apply ls_ext <;> first | rfl | (simp only; unfold dl dd dr enc; (repeat' split) <;> omega)
  · unfold dl; (repeat' split) <;> omega
  · unfold dd; (repeat' split) <;> omega
  · unfold dr; (repeat' split) <;> omega
  · unfold dl; (repeat' split) <;> omega
  · unfold dl dd dr; (repeat' split) <;> omega

theorem sc1 (t wh : Int) (h : 0 ≤ t ∧ t < 32768) : 0 ≤ t - t / 1024 % 4 * 1024 + wh % 4 * 1024 ∧ t - t / 1024 % 4 * 1024 + wh % 4 * 1024 < 32768 ∧ (t - t / 1024 % 4 * 1024 + wh % 4 * 1024) / 1024 % 4 = wh % 4 := by
  refine ⟨by omega, by omega, by omega⟩
theorem sc2 (t x : Int) (h : 0 ≤ t ∧ t < 32768) (hx : 0 ≤ x ∧ x < 256) : 0 ≤ t - t % 32 + x / 8 ∧ t - t % 32 + x / 8 < 32768 ∧ (t - t % 32 + x / 8) % 32 = x / 8 ∧ (t - t % 32 + x / 8) / 1024 % 4 = t / 1024 % 4 := by
  refine ⟨by omega, by omega, by omega, by omega⟩
theorem sc3 (t y : Int) (h : 0 ≤ t ∧ t < 32768) : t - t / 32 % 32 * 32 + y / 8 * 32 - t / 4096 % 8 * 4096 + y % 8 * 4096 = t % 32 + 32 * (y / 8) + t / 1024 % 4 * 1024 + 4096 * (y % 8) := by omega
theorem sc4 (v E : Int) (h : 0 ≤ v ∧ v < 32768) (hE : 0 ≤ E ∧ E < 32768) : 0 ≤ v - v % 32 - v / 1024 % 2 * 1024 + E % 32 + E / 1024 % 2 * 1024 ∧ v - v % 32 - v / 1024 % 2 * 1024 + E % 32 + E / 1024 % 2 * 1024 < 32768 ∧
    (v - v % 32 - v / 1024 % 2 * 1024 + E % 32 + E / 1024 % 2 * 1024) % 32 = E % 32 ∧ (v - v % 32 - v / 1024 % 2 * 1024 + E % 32 + E / 1024 % 2 * 1024) / 1024 % 2 = E / 1024 % 2 := by
  obtain ⟨c, l, a, d, r, rfl, f⟩ := Fld.of v h
  obtain ⟨c', l', a', d', r', rfl, f'⟩ := Fld.of E hE
  obtain ⟨i1, i2, i3, i4, i5, i6⟩ := f.is
  obtain ⟨j1, j2, j3, j4, j5, j6⟩ := f'.is
  rw [i2, i4, j2, j4, show enc c l a d r - c - a * 1024 + c' + a' * 1024 = enc c' l a' d r by clear i1 i2 i3 i4 i5 i6 j1 j2 j3 j4 j5 j6 h hE f f'; unfold enc; omega]
  obtain ⟨k1, k2, k3, k4, k5, k6⟩ := (Fld.mk f'.c f.l f'.a f.d f.r).is
  exact ⟨k1.1, k1.2, k2, k4⟩
theorem Fld.is7 {c l a d r : Int} (h : Fld c l a d r) : enc c l a d r / 2048 % 16 = d + 2 * r := by
  obtain ⟨h1, h2, h3, h4, h5⟩ := h
  unfold enc; omega
theorem sc5 (v E : Int) (h : 0 ≤ v ∧ v < 32768) (hE : 0 ≤ E ∧ E < 32768) (h1 : v % 32 = E % 32) (h2 : v / 1024 % 2 = E / 1024 % 2) :
    v - v / 32 % 32 * 32 - v / 2048 % 16 * 2048 + E / 32 % 32 * 32 + E / 2048 % 16 * 2048 = E := by
  obtain ⟨c, l, a, d, r, rfl, f⟩ := Fld.of v h
  obtain ⟨c', l', a', d', r', rfl, f'⟩ := Fld.of E hE
  obtain ⟨i1, i2, i3, i4, i5, i6⟩ := f.is
  obtain ⟨j1, j2, j3, j4, j5, j6⟩ := f'.is
  rw [i2, j2] at h1
  rw [i4, j4] at h2
  rw [i3, j3, f.is7, f'.is7]
  clear i1 i2 i3 i4 i5 i6 j1 j2 j3 j4 j5 j6 h hE f f'
  subst h1
  subst h2
  unfold enc; omega
theorem scr {s : LS} (h : LOk s) (wh x y : Int) (h1 : 0 ≤ wh ∧ wh < 256) (h2 : 0 ≤ x ∧ x < 256) (h3 : 0 ≤ y ∧ y < 256) :
    topL (linL (offL (offL (conL (lookL s) wh) x) y)) = fs (x / 8) (y / 8) (wh % 2) (wh / 2 % 2) (y % 8) (enc (x / 8) (y / 8) (wh % 2) (wh / 2 % 2) (y % 8)) (x % 8) false := by
  have a0 := look_in h
  have w0 : (lookL s).w = false := rfl
  generalize lookL s = s0 at *
  obtain ⟨v, t, x0, w⟩ := s0
  simp only at w0
  subst w0
  have b0 := a0.v
  have b1 := a0.t
  have b2 := a0.x
  simp only at b0 b1 b2
  rw [conL_is a0 _ h1]
  obtain ⟨p1, p2, p3⟩ := sc1 t wh b1
  simp only
  generalize t - t / 1024 % 4 * 1024 + wh % 4 * 1024 = T1 at *
  have a1 : LIn ⟨v, T1, x0, false⟩ := ⟨b0, ⟨p1, p2⟩, b2⟩
  rw [offL_f a1 _ h2 rfl]
  obtain ⟨q1, q2, q3, q4⟩ := sc2 T1 x ⟨p1, p2⟩ h2
  simp only
  generalize T1 - T1 % 32 + x / 8 = T at *
  have hx8 : 0 ≤ x % 8 ∧ x % 8 < 8 := by omega
  have a2 : LIn ⟨v, T, x % 8, true⟩ := ⟨b0, ⟨q1, q2⟩, hx8⟩
  rw [offL_t a2 _ h3 rfl]
  simp only
  rw [sc3 T y ⟨q1, q2⟩, q3, q4, p3]
  have e : x / 8 + 32 * (y / 8) + wh % 4 * 1024 + 4096 * (y % 8) = enc (x / 8) (y / 8) (wh % 2) (wh / 2 % 2) (y % 8) := by unfold enc; omega
  rw [e]
  have f : Fld (x / 8) (y / 8) (wh % 2) (wh / 2 % 2) (y % 8) := ⟨by omega, by omega, by omega, by omega, by omega⟩
  have i1 := f.is.1
  unfold fs
  clear e f p1 p2 p3 q1 q2 q3 q4 a1 a2 b1 b2 a0
  generalize enc (x / 8) (y / 8) (wh % 2) (wh / 2 % 2) (y % 8) = E at *
  have a3 : LIn ⟨v, E, x % 8, false⟩ := ⟨b0, i1, hx8⟩
  rw [linL_is a3]
  obtain ⟨r1, r2, r3, r4⟩ := sc4 v E b0 i1
  simp only
  generalize v - v % 32 - v / 1024 % 2 * 1024 + E % 32 + E / 1024 % 2 * 1024 = V at *
  have a4 : LIn ⟨V, E, x % 8, false⟩ := ⟨⟨r1, r2⟩, i1, hx8⟩
  rw [topL_is a4]
  simp only
  rw [sc5 V E ⟨r1, r2⟩ i1 r3 r4]

set_option maxRecDepth 100000 in
set_option maxHeartbeats 1000000 in
theorem rof_any (n : Int) (w : World) (hn : 0 ≤ n) (hn2 : n < 65536) :
    Calls Try.prog 72 #[.int .i64 n] w fun e w' => e = .returned (.agg #[.int .i64 (n % 32), .int .i64 (n / 32 % 32), .int .i64 (n / 1024 % 2), .int .i64 (n / 2048 % 2), .int .i64 (n / 4096 % 8)]) ∧ Ext w w' := by
  go_enter Try.func72, Try.ntmps72
  go_wp2
  refine bodyPost_ret (by simp [results, Try.results72, go_sem] <;> (repeat' (first | exact rfl | refine And.intro ?_ ?_))) rfl ⟨rfl, ?_⟩
  exact (Ext.refl _).alloc _
theorem rof_f {c l a d r : Int} (f : Fld c l a d r) (w : World) :
    Calls Try.prog 72 #[.int .i64 (enc c l a d r)] w fun e w' => e = .returned (.agg #[.int .i64 c, .int .i64 l, .int .i64 a, .int .i64 d, .int .i64 r]) ∧ Ext w w' := by
  obtain ⟨i1, i2, i3, i4, i5, i6⟩ := f.is
  have h := rof_any (enc c l a d r) w i1.1 (by omega)
  rw [i2, i3, i4, i5, i6, show r % 8 = r by have := f.r; omega] at h
  exact h

theorem shr1 (b : Int) (h : 0 ≤ b ∧ b < 256) : bits .and .u8 (b / 2) 1 = b / 2 % 2 := b1 _ (by omega)

end Go.Proofs.Ythldppdkheclkaa
