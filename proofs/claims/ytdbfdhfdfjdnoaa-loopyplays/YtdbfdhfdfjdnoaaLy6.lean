/- LoopyScrolls (walk). No law is claimed here. -/
import Derived.Test.YtdbfdhfdfjdnoaaLy5
namespace Go.Proofs.Ytdbfdhfdfjdnoaa
open Go.RowKit

/-- a place of its fields -/
def enc (c l a d r : Int) : Int := c + 32 * l + 1024 * a + 2048 * d + 4096 * r
structure Fld (c l a d r : Int) : Prop where
  c : 0 ≤ c ∧ c < 32
  l : 0 ≤ l ∧ l < 32
  a : 0 ≤ a ∧ a < 2
  d : 0 ≤ d ∧ d < 2
  r : 0 ≤ r ∧ r < 8
theorem Fld.of (v : Int) (h : 0 ≤ v ∧ v < 32768) : ∃ c l a d r, v = enc c l a d r ∧ Fld c l a d r :=
  ⟨v % 32, v / 32 % 32, v / 1024 % 2, v / 2048 % 2, v / 4096, by unfold enc; omega, by omega, by omega, by omega, by omega, by omega⟩
theorem Fld.is {c l a d r : Int} (h : Fld c l a d r) : (0 ≤ enc c l a d r ∧ enc c l a d r < 32768) ∧ enc c l a d r % 32 = c ∧ enc c l a d r / 32 % 32 = l ∧ enc c l a d r / 1024 % 2 = a ∧ enc c l a d r / 2048 % 2 = d ∧ enc c l a d r / 4096 = r := by
  obtain ⟨h1, h2, h3, h4, h5⟩ := h
  unfold enc
  refine ⟨by omega, by omega, by omega, by omega, by omega, by omega⟩
/-- a scroll of its fields -/
def fs (c l a d r t x : Int) (w : Bool) : LS := ⟨enc c l a d r, t, x, w⟩
theorem Fld.in {c l a d r t x : Int} {w : Bool} (h : Fld c l a d r) (ht : 0 ≤ t ∧ t < 32768) (hx : 0 ≤ x ∧ x < 8) : LIn (fs c l a d r t x w) := ⟨h.is.1, ht, hx⟩
def rc (c : Int) : Int := if c = 31 then 0 else c + 1
def ra (c a : Int) : Int := if c = 31 then 1 - a else a
theorem rig_f {c l a d r t x : Int} {w : Bool} (h : Fld c l a d r) (ht : 0 ≤ t ∧ t < 32768) (hx : 0 ≤ x ∧ x < 8) :
    rigL (fs c l a d r t x w) = fs (rc c) l (ra c a) d r t x w ∧ Fld (rc c) l (ra c a) d r ∧ 32 * ra c a + rc c = (32 * a + c + 1) % 64 := by
  rw [rigL_is (h.in ht hx)]
  obtain ⟨i1, i2, i3, i4, i5, i6⟩ := h.is
  obtain ⟨h1, h2, h3, h4, h5⟩ := h
  refine ⟨?_, ⟨?_, h2, ?_, h4, h5⟩, ?_⟩
  · unfold fs
    simp only
    rw [i2, i4]
    apply ls_ext <;> first | rfl | (simp only; unfold rc ra enc; by_cases e : c = 31 <;> simp only [e, if_true, if_false] <;> omega)
  · unfold rc; by_cases e : c = 31 <;> simp only [e, if_true, if_false] <;> omega
  · unfold ra; by_cases e : c = 31 <;> simp only [e, if_true, if_false] <;> omega
  · unfold rc ra; by_cases e : c = 31 <;> simp only [e, if_true, if_false] <;> omega
def dl (l r : Int) : Int := if r = 7 then (if l = 29 then 0 else if l = 31 then 0 else l + 1) else l
def dd (l d r : Int) : Int := if r = 7 then (if l = 29 then 1 - d else d) else d
def dr (r : Int) : Int := if r = 7 then 0 else r + 1
theorem dow_f {c l a d r t x : Int} {w : Bool} (h : Fld c l a d r) (ht : 0 ≤ t ∧ t < 32768) (hx : 0 ≤ x ∧ x < 8) :
    dowL (fs c l a d r t x w) = fs c (dl l r) a (dd l d r) (dr r) t x w ∧ Fld c (dl l r) a (dd l d r) (dr r) ∧ (l < 30 → dl l r < 30 ∧ 240 * dd l d r + 8 * dl l r + dr r = (240 * d + 8 * l + r + 1) % 480) := by
  rw [dowL_is (h.in ht hx)]
  obtain ⟨i1, i2, i3, i4, i5, i6⟩ := h.is
  obtain ⟨h1, h2, h3, h4, h5⟩ := h
  refine ⟨?_, ⟨h1, ?_, h3, ?_, ?_⟩, fun hl => ⟨?_, ?_⟩⟩
  · unfold fs
    simp only
    rw [i3, i5, i6]
    apply ls_ext <;> first | rfl | (simp only; unfold dl dd dr enc; (repeat' split) <;> omega)
  · unfold dl; (repeat' split) <;> omega
  · unfold dd; (repeat' split) <;> omega
  · unfold dr; (repeat' split) <;> omega
  · unfold dl; (repeat' split) <;> omega
  · unfold dl dd dr; (repeat' split) <;> omega

theorem sc1 (t wh : Int) (h : 0 ≤ t ∧ t < 32768) : 0 ≤ t - t / 1024 % 4 * 1024 + wh % 4 * 1024 ∧ t - t / 1024 % 4 * 1024 + wh % 4 * 1024 < 32768 ∧ (t - t / 1024 % 4 * 1024 + wh % 4 * 1024) / 1024 % 4 = wh % 4 := by
  refine ⟨by omega, by omega, by omega⟩
theorem sc2 (t x : Int) (h : 0 ≤ t ∧ t < 32768) (hx : 0 ≤ x ∧ x < 256) : 0 ≤ t - t % 32 + x / 8 ∧ t - t % 32 + x / 8 < 32768 ∧ (t - t % 32 + x / 8) % 32 = x / 8 ∧ (t - t % 32 + x / 8) / 1024 % 4 = t / 1024 % 4 := by
  refine ⟨by omega, by omega, by omega, by omega⟩
theorem sc3 (t y : Int) (h : 0 ≤ t ∧ t < 32768) : t - t / 32 % 32 * 32 + y / 8 * 32 - t / 4096 % 8 * 4096 + y % 8 * 4096 = t % 32 + 32 * (y / 8) + t / 1024 % 4 * 1024 + 4096 * (y % 8) := by omega
theorem sc4 (v E : Int) (h : 0 ≤ v ∧ v < 32768) (hE : 0 ≤ E ∧ E < 32768) : 0 ≤ v - v % 32 - v / 1024 % 2 * 1024 + E % 32 + E / 1024 % 2 * 1024 ∧ v - v % 32 - v / 1024 % 2 * 1024 + E % 32 + E / 1024 % 2 * 1024 < 32768 ∧
    (v - v % 32 - v / 1024 % 2 * 1024 + E % 32 + E / 1024 % 2 * 1024) % 32 = E % 32 ∧ (v - v % 32 - v / 1024 % 2 * 1024 + E % 32 + E / 1024 % 2 * 1024) / 1024 % 2 = E / 1024 % 2 := by
  obtain ⟨c, l, a, d, r, rfl, f⟩ := Fld.of v h
  obtain ⟨c', l', a', d', r', rfl, f'⟩ := Fld.of E hE
  obtain ⟨i1, i2, i3, i4, i5, i6⟩ := f.is
  obtain ⟨j1, j2, j3, j4, j5, j6⟩ := f'.is
  rw [i2, i4, j2, j4, show enc c l a d r - c - a * 1024 + c' + a' * 1024 = enc c' l a' d r by clear i1 i2 i3 i4 i5 i6 j1 j2 j3 j4 j5 j6 h hE f f'; unfold enc; omega]
  obtain ⟨k1, k2, k3, k4, k5, k6⟩ := (Fld.mk f'.c f.l f'.a f.d f.r).is
  exact ⟨k1.1, k1.2, k2, k4⟩
theorem Fld.is7 {c l a d r : Int} (h : Fld c l a d r) : enc c l a d r / 2048 % 16 = d + 2 * r := by
  obtain ⟨h1, h2, h3, h4, h5⟩ := h
  unfold enc; omega
theorem sc5 (v E : Int) (h : 0 ≤ v ∧ v < 32768) (hE : 0 ≤ E ∧ E < 32768) (h1 : v % 32 = E % 32) (h2 : v / 1024 % 2 = E / 1024 % 2) :
    v - v / 32 % 32 * 32 - v / 2048 % 16 * 2048 + E / 32 % 32 * 32 + E / 2048 % 16 * 2048 = E := by
  obtain ⟨c, l, a, d, r, rfl, f⟩ := Fld.of v h
  obtain ⟨c', l', a', d', r', rfl, f'⟩ := Fld.of E hE
  obtain ⟨i1, i2, i3, i4, i5, i6⟩ := f.is
  obtain ⟨j1, j2, j3, j4, j5, j6⟩ := f'.is
  rw [i2, j2] at h1
  rw [i4, j4] at h2
  rw [i3, j3, f.is7, f'.is7]
  clear i1 i2 i3 i4 i5 i6 j1 j2 j3 j4 j5 j6 h hE f f'
  subst h1
  subst h2
  unfold enc; omega
theorem scr {s : LS} (h : LOk s) (wh x y : Int) (h1 : 0 ≤ wh ∧ wh < 256) (h2 : 0 ≤ x ∧ x < 256) (h3 : 0 ≤ y ∧ y < 256) :
    topL (linL (offL (offL (conL (lookL s) wh) x) y)) = fs (x / 8) (y / 8) (wh % 2) (wh / 2 % 2) (y % 8) (enc (x / 8) (y / 8) (wh % 2) (wh / 2 % 2) (y % 8)) (x % 8) false := by
  have a0 := look_in h
  have w0 : (lookL s).w = false := rfl
  generalize lookL s = s0 at *
  obtain ⟨v, t, x0, w⟩ := s0
  simp only at w0
  subst w0
  have b0 := a0.v
  have b1 := a0.t
  have b2 := a0.x
  simp only at b0 b1 b2
  rw [conL_is a0 _ h1]
  obtain ⟨p1, p2, p3⟩ := sc1 t wh b1
  simp only
  generalize t - t / 1024 % 4 * 1024 + wh % 4 * 1024 = T1 at *
  have a1 : LIn ⟨v, T1, x0, false⟩ := ⟨b0, ⟨p1, p2⟩, b2⟩
  rw [offL_f a1 _ h2 rfl]
  obtain ⟨q1, q2, q3, q4⟩ := sc2 T1 x ⟨p1, p2⟩ h2
  simp only
  generalize T1 - T1 % 32 + x / 8 = T at *
  have hx8 : 0 ≤ x % 8 ∧ x % 8 < 8 := by omega
  have a2 : LIn ⟨v, T, x % 8, true⟩ := ⟨b0, ⟨q1, q2⟩, hx8⟩
  rw [offL_t a2 _ h3 rfl]
  simp only
  rw [sc3 T y ⟨q1, q2⟩, q3, q4, p3]
  have e : x / 8 + 32 * (y / 8) + wh % 4 * 1024 + 4096 * (y % 8) = enc (x / 8) (y / 8) (wh % 2) (wh / 2 % 2) (y % 8) := by unfold enc; omega
  rw [e]
  have f : Fld (x / 8) (y / 8) (wh % 2) (wh / 2 % 2) (y % 8) := ⟨by omega, by omega, by omega, by omega, by omega⟩
  have i1 := f.is.1
  unfold fs
  clear e f p1 p2 p3 q1 q2 q3 q4 a1 a2 b1 b2 a0
  generalize enc (x / 8) (y / 8) (wh % 2) (wh / 2 % 2) (y % 8) = E at *
  have a3 : LIn ⟨v, E, x % 8, false⟩ := ⟨b0, i1, hx8⟩
  rw [linL_is a3]
  obtain ⟨r1, r2, r3, r4⟩ := sc4 v E b0 i1
  simp only
  generalize v - v % 32 - v / 1024 % 2 * 1024 + E % 32 + E / 1024 % 2 * 1024 = V at *
  have a4 : LIn ⟨V, E, x % 8, false⟩ := ⟨⟨r1, r2⟩, i1, hx8⟩
  rw [topL_is a4]
  simp only
  rw [sc5 V E ⟨r1, r2⟩ i1 r3 r4]

set_option maxRecDepth 100000 in
set_option maxHeartbeats 1000000 in
theorem rof_any (n : Int) (w : World) (hn : 0 ≤ n) (hn2 : n < 65536) :
    Calls Try.prog 35 #[.int .i64 n] w fun e w' => e = .returned (.agg #[.int .i64 (n % 32), .int .i64 (n / 32 % 32), .int .i64 (n / 1024 % 2), .int .i64 (n / 2048 % 2), .int .i64 (n / 4096 % 8)]) ∧ Ext w w' := by
  go_enter Try.func35, Try.ntmps35
  go_wp2
  refine bodyPost_ret (by simp [results, Try.results35, go_sem] <;> (repeat' (first | exact rfl | refine And.intro ?_ ?_))) rfl ⟨rfl, ?_⟩
  exact (Ext.refl _).alloc _
theorem rof_f {c l a d r : Int} (f : Fld c l a d r) (w : World) :
    Calls Try.prog 35 #[.int .i64 (enc c l a d r)] w fun e w' => e = .returned (.agg #[.int .i64 c, .int .i64 l, .int .i64 a, .int .i64 d, .int .i64 r]) ∧ Ext w w' := by
  obtain ⟨i1, i2, i3, i4, i5, i6⟩ := f.is
  have h := rof_any (enc c l a d r) w i1.1 (by omega)
  rw [i2, i3, i4, i5, i6, show r % 8 = r by have := f.r; omega] at h
  exact h

theorem shr1 (b : Int) (h : 0 ≤ b ∧ b < 256) : bits .and .u8 (b / 2) 1 = b / 2 % 2 := b1 _ (by omega)

set_option maxRecDepth 100000 in
set_option maxHeartbeats 2000000 in
theorem loopyScrolls_walk (v t x0 : Int) (wr0 : Bool) (wh x y rt dn : Int) (w : World) (hs : LOk ⟨v, t, x0, wr0⟩) (h1 : 0 ≤ wh ∧ wh < 256) (h2 : 0 ≤ x ∧ x < 256) (h3 : 0 ≤ y ∧ y < 256) (h4 : 0 ≤ rt ∧ rt < 256) (h5 : 0 ≤ dn ∧ dn < 256) :
    Calls Try.prog 6 #[lv v t x0 wr0, .int .u8 wh, .int .u8 x, .int .u8 y, .int .u8 rt, .int .u8 dn] w fun e w' => e = .returned (.bool true) ∧ Below w.heap.size w w' := by
  have FA := awake14_any
  obtain ⟨Y, hY⟩ : ∃ Y, y % 240 = Y := ⟨_, rfl⟩
  have bY : 0 ≤ Y ∧ Y < 240 := by omega
  have F1 := lyLook_any v t x0 wr0
  have F2 := fun s : LS => lyControl_any s.v s.t s.x s.w wh
  have F3 := fun s : LS => lyOffset_any s.v s.t s.x s.w x
  have F4 := fun s : LS => lyOffset_any s.v s.t s.x s.w Y
  have F5 := fun s : LS => lyLine_any s.v s.t s.x s.w
  have F6 := fun s : LS => lyTop_any s.v s.t s.x s.w
  replace F2 := F2 (lookL ⟨v, t, x0, wr0⟩)
  replace F3 := F3 (conL (lookL ⟨v, t, x0, wr0⟩) wh)
  replace F4 := F4 (offL (conL (lookL ⟨v, t, x0, wr0⟩) wh) x)
  replace F5 := F5 (offL (offL (conL (lookL ⟨v, t, x0, wr0⟩) wh) x) Y)
  replace F6 := F6 (linL (offL (offL (conL (lookL ⟨v, t, x0, wr0⟩) wh) x) Y))
  have a2 := scr hs wh x Y h1 h2 (by omega)
  simp only [a2] at F6
  clear a2
  generalize lookL ⟨v, t, x0, wr0⟩ = s1 at *
  generalize conL s1 wh = s2 at *
  generalize offL s2 x = s3 at *
  generalize offL s3 Y = s4 at *
  generalize linL s4 = s5 at *
  have z1 := b1 wh h1
  have z2 := shr1 wh h1
  obtain ⟨P, hP⟩ : ∃ P, wh % 2 = P := ⟨_, rfl⟩
  obtain ⟨Q, hQ⟩ : ∃ P, wh / 2 % 2 = P := ⟨_, rfl⟩
  have bP : 0 ≤ P ∧ P < 2 := by omega
  have bQ : 0 ≤ Q ∧ Q < 2 := by omega
  rw [hP] at z1
  rw [hQ] at z2
  rw [hP, hQ] at F6
  have f0 : Fld (x / 8) (Y / 8) P Q (Y % 8) := ⟨by omega, by omega, by omega, by omega, by omega⟩
  have hT := f0.is.1
  have hX : 0 ≤ x % 8 ∧ x % 8 < 8 := by omega
  unfold fs at F6
  obtain ⟨T, hE⟩ : ∃ T, enc (x / 8) (Y / 8) P Q (Y % 8) = T := ⟨_, rfl⟩
  rw [hE] at F6 hT
  have e1 : IntKind.i64.wrap P = P := IntWalk.i64_in _ ⟨by omega, by omega⟩
  have e2 : IntKind.i64.wrap (256 * P) = 256 * P := IntWalk.i64_in _ ⟨by omega, by omega⟩
  have e3 : IntKind.i64.wrap x = x := IntWalk.i64_in _ ⟨by omega, by omega⟩
  have e4 : IntKind.i64.wrap (256 * P + x) = 256 * P + x := IntWalk.i64_in _ ⟨by omega, by omega⟩
  have e5 : IntKind.i64.wrap Q = Q := IntWalk.i64_in _ ⟨by omega, by omega⟩
  have e6 : IntKind.i64.wrap (240 * Q) = 240 * Q := IntWalk.i64_in _ ⟨by omega, by omega⟩
  have e7 : IntKind.i64.wrap Y = Y := IntWalk.i64_in _ ⟨by omega, by omega⟩
  have e8 : IntKind.i64.wrap (240 * Q + Y) = 240 * Q + Y := IntWalk.i64_in _ ⟨by omega, by omega⟩
  unfold ls lv at F1 F2 F3 F4 F5 F6
  have r1 := ext_cell
  have r2 := ext_frozen
  have r3 := ext_setCell
  have r4 := ext_lt
  have r5 := ext_drew
  have r6 := ext_ext
  unfold lv
  go_enter Try.func6, Try.ntmps6
  go_upto_region 7 with (first
    | (go_at_call 10; refine (FA _).mono ?_; rintro e w1 ⟨rfl, os, q, rfl⟩)
    | (go_at_call 18; refine (F1 _).mono ?_; rintro e w2 ⟨rfl, os2, q2, rfl⟩)
    | (go_at_call 12; refine (F2 _).mono ?_; rintro e w2 ⟨rfl, os3, q3, rfl⟩)
    | (go_at_call_of 14 (Value.int IntKind.u8 x); refine (F3 _).mono ?_; rintro e w2 ⟨rfl, os4, q4, rfl⟩)
    | (go_at_call_of 14 (Value.int IntKind.u8 Y); refine (F4 _).mono ?_; rintro e w2 ⟨rfl, os5, q5, rfl⟩)
    | (go_at_call 25; refine (F5 _).mono ?_; rintro e w2 ⟨rfl, os6, q6, rfl⟩)
    | (go_at_call 27; refine (F6 _).mono ?_; rintro e w2 ⟨rfl, os7, q7, rfl⟩))
  clear F1 F2 F3 F4 F5 F6 FA
  go_loopw [46] (fun i wr => ∃ (k : Nat) (c a : Int), (k : Int) ≤ rt ∧ i = .int .u8 k ∧ Fld c (Y / 8) a Q (Y % 8) ∧ 32 * a + c = (32 * P + x / 8 + k) % 64 ∧ B4 wr w.heap.size (fs c (Y / 8) a Q (Y % 8) T (x % 8) false) ∧ Below w.heap.size w wr) (fun i _ => rt.toNat - (intOf i).toNat)
  case atStart =>
    refine ⟨0, x / 8, P, by omega, rfl, f0, by omega, ?_, ext_below ((Below.refl _ w).alloc (Nat.le_refl _) _) (by simp) _ _⟩
    unfold fs
    rw [hE]
    exact (B4.made w ⟨T, T, x % 8, false⟩ 24).ext ⟨_, _, rfl⟩
  case round =>
    obtain ⟨k, c, a, hk, rfl, f, hc, hq, hb⟩ := hrel
    have c0 := hq.c0
    have c1 := hq.c1
    have c2 := hq.c2
    have c3 := hq.c3
    have cl := hq.lt
    have cf := hq.fz
    unfold fs at c0 c1 c2 c3
    simp only at c0 c1 c2 c3
    by_cases h : (k : Int) < rt
    · obtain ⟨g1, g2, g3⟩ := rig_f (w := false) f hT hX
      have F4 := fun w => lyRight_any (enc c (Y / 8) a Q (Y % 8)) T (x % 8) false w
      rw [show rigL ⟨enc c (Y / 8) a Q (Y % 8), T, x % 8, false⟩ = _ from g1] at F4
      unfold fs ls lv at F4
      rw [hc] at g3
      clear g1
      generalize hV : enc c (Y / 8) a Q (Y % 8) = V at *
      generalize hV2 : enc (rc c) (Y / 8) (ra c a) Q (Y % 8) = V2 at *
      clear hc
      go_wp2_with (go_at_call 21; refine (F4 _).mono ?_; rintro e w2 ⟨rfl, os, q, rfl⟩)
      go_roundw
      case rel =>
        refine ⟨k + 1, rc c, ra c a, by omega, by go_num, g2, ?_, ?_, ?_⟩
        · rw [g3]; push_cast; omega
        · unfold fs; rw [hV2]; exact (hq.put ⟨V2, T, x % 8, false⟩).ext ⟨os, q, rfl⟩
        · exact ext_below (below_put4 hb (Nat.le_refl _) ⟨V2, T, x % 8, false⟩) (Nat.le_trans hb.size (by simp [put4])) os q
      case measure => simp [intOf]; omega
    · have hkn : rt = (k : Int) := by omega
      subst hkn
      have hN : ¬ ((k : Int) < (k : Int)) := by omega
      go_upto_region 11 with (fail)
      clear c0 c1 c2 c3 cl cf h hN hk
      go_loopw [52] (fun i wr => ∃ (m : Nat) (l d r : Int), (m : Int) ≤ dn ∧ i = .int .u8 m ∧ Fld c l a d r ∧ l < 30 ∧ 240 * d + 8 * l + r = (240 * Q + Y + m) % 480 ∧ B4 wr w.heap.size (fs c l a d r T (x % 8) false) ∧ Below w.heap.size w wr) (fun i _ => dn.toNat - (intOf i).toNat)
      case atStart => exact ⟨0, Y / 8, Q, Y % 8, by omega, rfl, f, by omega, by omega, hq, hb⟩
      case round =>
        clear hq hb f
        obtain ⟨m, l, d, r, hm, rfl, f, hl, hr, hq, hb⟩ := hrel
        have c0 := hq.c0
        have c1 := hq.c1
        have c2 := hq.c2
        have c3 := hq.c3
        have cl := hq.lt
        have cf := hq.fz
        unfold fs at c0 c1 c2 c3
        simp only at c0 c1 c2 c3
        by_cases h : (m : Int) < dn
        · obtain ⟨g1, g2, g3⟩ := dow_f (w := false) f hT hX
          have F4 := fun w => lyDown_any (enc c l a d r) T (x % 8) false w
          rw [show dowL ⟨enc c l a d r, T, x % 8, false⟩ = _ from g1] at F4
          unfold fs ls lv at F4
          obtain ⟨g3, g4⟩ := g3 hl
          rw [hr] at g4
          clear g1 hr hc
          generalize hV : enc c l a d r = V at *
          generalize hV2 : enc c (dl l r) a (dd l d r) (dr r) = V2 at *
          go_wp2_with (go_at_call 23; refine (F4 _).mono ?_; rintro e w2 ⟨rfl, os, q, rfl⟩)
          go_roundw
          case rel =>
            refine ⟨m + 1, dl l r, dd l d r, dr r, by omega, by go_num, g2, g3, ?_, ?_, ?_⟩
            · rw [g4]; push_cast; omega
            · unfold fs; rw [hV2]; exact (hq.put ⟨V2, T, x % 8, false⟩).ext ⟨os, q, rfl⟩
            · exact ext_below (below_put4 hb (Nat.le_refl _) ⟨V2, T, x % 8, false⟩) (Nat.le_trans hb.size (by simp [put4])) os q
          case measure => simp [intOf]; omega
        · have hkn : dn = (m : Int) := by omega
          subst hkn
          have hN : ¬ ((m : Int) < (m : Int)) := by omega
          have F7 := fun w => rof_f f w
          have iE := f.is.1
          have k1 := f.c
          have k2 := f.l
          have k3 := f.a
          have k4 := f.d
          have k5 := f.r
          generalize enc c l a d r = V at *
          have y0 : IntKind.i64.wrap V = V := IntWalk.i64_in _ ⟨by omega, by omega⟩
          have y1 : IntKind.i64.wrap (256 * a) = 256 * a := IntWalk.i64_in _ ⟨by omega, by omega⟩
          have y2 : IntKind.i64.wrap (8 * c) = 8 * c := IntWalk.i64_in _ ⟨by omega, by omega⟩
          have y3 : IntKind.i64.wrap (256 * a + 8 * c) = 256 * a + 8 * c := IntWalk.i64_in _ ⟨by omega, by omega⟩
          have y4 : IntKind.i64.wrap (x % 8) = x % 8 := IntWalk.i64_in _ ⟨by omega, by omega⟩
          have y5 : IntKind.i64.wrap (256 * a + 8 * c + x % 8) = 256 * a + 8 * c + x % 8 := IntWalk.i64_in _ ⟨by omega, by omega⟩
          have y6 : IntKind.i64.wrap (8 * (k : Int)) = 8 * (k : Int) := IntWalk.i64_in _ ⟨by omega, by omega⟩
          have y7 : IntKind.i64.wrap (256 * P + x + 8 * (k : Int)) = 256 * P + x + 8 * (k : Int) := IntWalk.i64_in _ ⟨by omega, by omega⟩
          have y8 : (256 * P + x + 8 * (k : Int)).tmod 512 = 256 * a + 8 * c + x % 8 := by rw [Int.tmod_eq_emod_of_nonneg (by omega)]; omega
          have y9 : IntKind.i64.wrap (240 * d) = 240 * d := IntWalk.i64_in _ ⟨by omega, by omega⟩
          have y10 : IntKind.i64.wrap (8 * l) = 8 * l := IntWalk.i64_in _ ⟨by omega, by omega⟩
          have y11 : IntKind.i64.wrap (240 * d + 8 * l) = 240 * d + 8 * l := IntWalk.i64_in _ ⟨by omega, by omega⟩
          have y12 : IntKind.i64.wrap (240 * d + 8 * l + r) = 240 * d + 8 * l + r := IntWalk.i64_in _ ⟨by omega, by omega⟩
          have y13 : IntKind.i64.wrap (240 * Q + Y + (m : Int)) = 240 * Q + Y + (m : Int) := IntWalk.i64_in _ ⟨by omega, by omega⟩
          have y14 : (240 * Q + Y + (m : Int)).tmod 480 = 240 * d + 8 * l + r := by rw [Int.tmod_eq_emod_of_nonneg (by omega)]; omega
          have y15 : IntKind.i64.wrap (k : Int) = k := IntWalk.i64_in _ ⟨by omega, by omega⟩
          have y16 : IntKind.i64.wrap (m : Int) = m := IntWalk.i64_in _ ⟨by omega, by omega⟩
          clear hr hc
          go_wp2_with (go_at_call 35; refine (F7 _).mono ?_; rintro e w2 ⟨rfl, os, q, rfl⟩)
          go_ret
          exact ⟨rfl, (ext_below hb hb.size os q).alloc (Nat.le_trans hb.size (ext_below (Below.refl _ wr) (Nat.le_refl _) os q).size) _⟩
end Go.Proofs.Ytdbfdhfdfjdnoaa
