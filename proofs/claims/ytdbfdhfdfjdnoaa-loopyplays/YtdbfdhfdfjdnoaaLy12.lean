/- LoopyPlays (walk). No law is claimed here. -/
import Derived.Test.YtdbfdhfdfjdnoaaLyAct
import Derived.Test.YtdbfdhfdfjdnoaaLy9
import Derived.Test.YtdbfdhfdfjdnoaaQTail
import Derived.Deep.CutBlock
import Derived.Deep.CutRange
namespace Go.Proofs.Ytdbfdhfdfjdnoaa
open Go.RowKit

theorem B4.bel {v v' : World} {n : Nat} {s : LS} (h : B4 v n s) (hb : Below v.heap.size v v') : B4 v' n s := by
  have hl := h.lt
  exact ⟨Nat.lt_of_lt_of_le hl hb.size, (hb.cell hl).trans h.c0, (hb.cell hl).trans h.c1, (hb.cell hl).trans h.c2, (hb.cell hl).trans h.c3, fun i => (hb.frozen hl).trans (h.fz i)⟩
theorem B12.bel {v v' : World} {n : Nat} {p q : PL} {x : Int} {w : Bool} (h : B12 v n p q x w) (hb : Below v.heap.size v v') : B12 v' n p q x w := by
  have hl := h.lt
  exact ⟨Nat.lt_of_lt_of_le hl hb.size, (hb.cell hl).trans h.c0, (hb.cell hl).trans h.c1, (hb.cell hl).trans h.c2, (hb.cell hl).trans h.c3, (hb.cell hl).trans h.c4, (hb.cell hl).trans h.c5, (hb.cell hl).trans h.c6, (hb.cell hl).trans h.c7, (hb.cell hl).trans h.c8, (hb.cell hl).trans h.c9, (hb.cell hl).trans h.c10, (hb.cell hl).trans h.c11, fun i => (hb.frozen hl).trans (h.fz i)⟩
def putX (v : World) (n : Nat) (X : XS) : World :=
  (((((((((((v.setCell ⟨n, 0, none⟩ (.int .i64 X.p.c)).setCell ⟨n, 1, none⟩ (.int .i64 X.p.l)).setCell ⟨n, 2, none⟩ (.int .i64 X.p.a)).setCell ⟨n, 3, none⟩ (.int .i64 X.p.d)).setCell ⟨n, 4, none⟩ (.int .i64 X.p.r)).setCell ⟨n, 5, none⟩ (.int .i64 X.q.c)).setCell ⟨n, 6, none⟩ (.int .i64 X.q.l)).setCell ⟨n, 7, none⟩ (.int .i64 X.q.a)).setCell ⟨n, 8, none⟩ (.int .i64 X.q.d)).setCell ⟨n, 9, none⟩ (.int .i64 X.q.r)).setCell ⟨n, 10, none⟩ (.int .i64 X.x)).setCell ⟨n, 11, none⟩ (.bool X.w)
theorem below_putX {B : Nat} {w v : World} {n : Nat} (h : Below B w v) (hn : B ≤ n) (X : XS) : Below B w (putX v n X) := by
  unfold putX
  exact (((((((((((h.setCell hn _).setCell hn _).setCell hn _).setCell hn _).setCell hn _).setCell hn _).setCell hn _).setCell hn _).setCell hn _).setCell hn _).setCell hn _).setCell hn _
theorem B12.put {v : World} {n : Nat} {p q : PL} {x : Int} {w : Bool} (h : B12 v n p q x w) (X : XS) : B12 (putX v n X) n X.p X.q X.x X.w := by
  obtain ⟨h0, h1, h2, h3, h4, h5, h6, h7, h8, h9, h10, h11, h12, h13⟩ := h
  unfold putX
  constructor
  · simpa using h0
  all_goals first | (simp [go_sem, *]; done) | (intro i; simp [go_sem, *]; done)
theorem B12.put_other {v : World} {n m : Nat} {p q : PL} {x : Int} {w : Bool} (h : B12 v n p q x w) (hnm : n ≠ m) (s : LS) : B12 (put4 v m s) n p q x w := by
  obtain ⟨h0, h1, h2, h3, h4, h5, h6, h7, h8, h9, h10, h11, h12, h13⟩ := h
  have hne : ∀ i j, (⟨m, i, none⟩ : Addr) ≠ ⟨n, j, none⟩ := fun i j e => hnm (by injection e with e1; exact e1.symm)
  unfold put4
  constructor
  · simpa using h0
  all_goals first | (simp [go_sem, *]; done) | (intro i; simp [go_sem, *]; done)
theorem B4.putX_other {v : World} {n m : Nat} {s : LS} (h : B4 v n s) (hnm : n ≠ m) (X : XS) : B4 (putX v m X) n s := by
  obtain ⟨h0, h1, h2, h3, h4, h5⟩ := h
  have hne : ∀ i j, (⟨m, i, none⟩ : Addr) ≠ ⟨n, j, none⟩ := fun i j e => hnm (by injection e with e1; exact e1.symm)
  unfold putX
  constructor
  · simpa using h0
  all_goals first | (simp [go_sem, *]; done) | (intro i; simp [go_sem, *]; done)

theorem B4.set_other {v : World} {n m : Nat} {s : LS} (h : B4 v n s) (hnm : n ≠ m) (i : Nat) (u : Value) : B4 (v.setCell ⟨m, i, none⟩ u) n s := by
  obtain ⟨h0, h1, h2, h3, h4, h5⟩ := h
  have hne : ∀ i j, (⟨m, i, none⟩ : Addr) ≠ ⟨n, j, none⟩ := fun i j e => hnm (by injection e with e1; exact e1.symm)
  constructor
  · simpa using h0
  all_goals first | (simp [go_sem, *]; done) | (intro i; simp [go_sem, *]; done)
theorem B12.setW {v : World} {n : Nat} {p q : PL} {x : Int} {w : Bool} (h : B12 v n p q x w) (b : Bool) : B12 (v.setCell ⟨n, 11, none⟩ (.bool b)) n p q x b := by
  obtain ⟨h0, h1, h2, h3, h4, h5, h6, h7, h8, h9, h10, h11, h12, h13⟩ := h
  constructor
  · simpa using h0
  all_goals first | (simp [go_sem, *]; done) | (intro i; simp [go_sem, *]; done)

set_option maxRecDepth 100000 in
set_option maxHeartbeats 4000000 in
theorem loopyPlays_walk (v t x0 : Int) (wr0 : Bool) (A : Option Addr) (n c : Nat) (l : List (Int × Int)) (w : World) (hs : LOk ⟨v, t, x0, wr0⟩) (hr : RdX shA2 w (· < w.heap.size) A n c l) (hm : c ≤ maxLen) (hg : ∀ y ∈ l, okA2 y) :
    Calls Try.prog 3 #[lv v t x0 wr0, .slice A n c] w fun e w' => e = .returned (.bool true) ∧ Below w.heap.size w w' := by
  have FA := awake14_any
  have F1 := fun w => own14_any v t x0 wr0 w hs
  have hS := own_sim hs
  have hl := hr.len
  have hcap := hr.cap
  have hmm : c ≤ 9223372036854775807 := hm
  generalize ofP (v % 32768) = p0 at *
  generalize ofP (t % 32768) = q0 at *
  have r1 := ext_cell
  have r2 := ext_frozen
  have r3 := ext_setCell
  have r4 := ext_lt
  have r5 := ext_drew
  have r6 := ext_ext
  unfold xv lv at F1
  unfold lv
  go_enter Try.func3, Try.ntmps3
  go_upto_region 4 with (first
      | (go_at_call 10; refine (FA _).mono ?_; rintro e w1 ⟨rfl, os, q, rfl⟩)
      | (go_at_call 11; refine (F1 _).mono ?_; rintro e w1 ⟨rfl, os2, q2, rfl⟩))
  clear FA F1
  have hb : B4 _ _ ⟨v, t, x0, wr0⟩ := (B4.made w ⟨v, t, x0, wr0⟩ 24).ext ⟨os ++ os2, q + q2, rfl⟩
  have hB : Below w.heap.size w _ := ext_below ((Below.refl _ w).alloc (Nat.le_refl _) (.cells #[.int .u16 v, .int .u16 t, .int .u8 x0, .bool wr0] 24)) (by simp) (os ++ os2) (q + q2)
  simp only at hb
  generalize ext (w.alloc (.cells #[.int .u16 v, .int .u16 t, .int .u8 x0, .bool wr0] 24)) (os ++ os2) (q + q2) = W1 at *
  have hx := B12.made W1 p0 q0 (x0 % 8) wr0 30
  have hb2 := hb.ext ((Ext.refl W1).alloc (.cells #[.int .i64 p0.c, .int .i64 p0.l, .int .i64 p0.a, .int .i64 p0.d, .int .i64 p0.r, .int .i64 q0.c, .int .i64 q0.l, .int .i64 q0.a, .int .i64 q0.d, .int .i64 q0.r, .int .i64 (x0 % 8), .bool wr0] 30))
  have hB2 := hB.alloc hB.size (.cells #[.int .i64 p0.c, .int .i64 p0.l, .int .i64 p0.a, .int .i64 p0.d, .int .i64 p0.r, .int .i64 q0.c, .int .i64 q0.l, .int .i64 q0.a, .int .i64 q0.d, .int .i64 q0.r, .int .i64 (x0 % 8), .bool wr0] 30)
  have hsX : w.heap.size < W1.heap.size := hb.lt
  generalize W1.alloc (.cells #[.int .i64 p0.c, .int .i64 p0.l, .int .i64 p0.a, .int .i64 p0.d, .int .i64 p0.r, .int .i64 q0.c, .int .i64 q0.l, .int .i64 q0.a, .int .i64 q0.d, .int .i64 q0.r, .int .i64 (x0 % 8), .bool wr0] 30) = W at *
  generalize W1.heap.size = XB at *
  generalize hB0 : w.heap.size = B0 at *
  clear hb hB
  go_upto_region 5 with (fail)
  go_loopw [15] (fun i wr => ∃ (k : Nat) (s : LS) (X : XS), k ≤ n ∧ i = .int .i64 k ∧ Sim s X ∧ B4 wr B0 s ∧ B12 wr XB X.p X.q X.x X.w ∧ Below B0 w wr) (fun i _ => n - (intOf i).toNat)
  case atStart => exact ⟨0, ⟨v, t, x0, wr0⟩, ⟨p0, q0, x0 % 8, wr0⟩, Nat.zero_le _, rfl, hS, hb2, hx, hB2⟩
  case round =>
    clear hb2 hx hB2 hS
    obtain ⟨k, s, X, hk, rfl, hS, hq, hx, hB⟩ := hrel
    by_cases hkn : k < n
    · have t1 : (k : Int) < n := by omega
      have hkl : k < l.length := by omega
      obtain ⟨b, off, rfl, hbb, ca, cb⟩ := rdA2_at hr k hkl
      obtain ⟨⟨y1, y2⟩, y3, y4⟩ := hg l[k] (List.getElem_mem hkl)
      generalize l[k] = y at *
      obtain ⟨yd, yb⟩ := y
      simp only at ca cb y1 y2 y3 y4
      subst hB0
      have ca' := (hB.cell (p := ⟨b, off + k * 2, none⟩) hbb).trans ca
      have cb' := (hB.cell (p := ⟨b, off + k * 2 + 1, none⟩) hbb).trans cb
      have hbr : b < wr.heap.size := Nat.lt_of_lt_of_le hbb hB.size
      clear ca cb hr hg
      by_cases h60 : (k : Int) < 60
      · have hq2 := hq.ext ((Ext.refl wr).alloc (.cells #[.int .u8 yd, .int .u8 yb] 33))
        have hx2 := hx.ext ((Ext.refl wr).alloc (.cells #[.int .u8 yd, .int .u8 yb] 33))
        have hB2 := hB.alloc hB.size (.cells #[.int .u8 yd, .int .u8 yb] 33)
        have ha0 : (wr.alloc (.cells #[.int .u8 yd, .int .u8 yb] 33)).cell? ⟨wr.heap.size, 0, none⟩ = some (.int .u8 yd) := cell_of_row _ _ _ _ _ _ (heap_alloc_new wr _)
        have ha1 : (wr.alloc (.cells #[.int .u8 yd, .int .u8 yb] 33)).cell? ⟨wr.heap.size, 1, none⟩ = some (.int .u8 yb) := cell_of_row _ _ _ _ _ _ (heap_alloc_new wr _)
        have hal : wr.heap.size < (wr.alloc (.cells #[.int .u8 yd, .int .u8 yb] 33)).heap.size := by simp
        have hne : XB ≠ w.heap.size := by omega
        go_upto_block 2 with (fail)
        generalize wr.alloc (.cells #[.int .u8 yd, .int .u8 yb] 33) = v1 at *
        generalize wr.heap.size = AB at *
        go_cut [15] from 15 to 100 (fun u wx => u = .int .i64 k ∧ ∃ X2, XF X2 ∧ B4 wx w.heap.size (lsX X2) ∧ B12 wx XB X2.p X2.q X2.x X2.w ∧ Below w.heap.size w wx)
        case first =>
          have q0 : ∀ m, (mP v1 m).cell? ⟨w.heap.size, 0, none⟩ = some (.int .u16 s.v) := fun m => mP_cell hq2.lt hq2.c0 m
          have q1 : ∀ m, (mP v1 m).cell? ⟨w.heap.size, 1, none⟩ = some (.int .u16 s.t) := fun m => mP_cell hq2.lt hq2.c1 m
          have q2 : ∀ m, (mP v1 m).cell? ⟨w.heap.size, 2, none⟩ = some (.int .u8 s.x) := fun m => mP_cell hq2.lt hq2.c2 m
          have q3 : ∀ m, (mP v1 m).cell? ⟨w.heap.size, 3, none⟩ = some (.bool s.w) := fun m => mP_cell hq2.lt hq2.c3 m
          have x0 : ∀ m, (mP v1 m).cell? ⟨XB, 0, none⟩ = some (.int .i64 X.p.c) := fun m => mP_cell hx2.lt hx2.c0 m
          have x1 : ∀ m, (mP v1 m).cell? ⟨XB, 1, none⟩ = some (.int .i64 X.p.l) := fun m => mP_cell hx2.lt hx2.c1 m
          have x2 : ∀ m, (mP v1 m).cell? ⟨XB, 2, none⟩ = some (.int .i64 X.p.a) := fun m => mP_cell hx2.lt hx2.c2 m
          have x3 : ∀ m, (mP v1 m).cell? ⟨XB, 3, none⟩ = some (.int .i64 X.p.d) := fun m => mP_cell hx2.lt hx2.c3 m
          have x4 : ∀ m, (mP v1 m).cell? ⟨XB, 4, none⟩ = some (.int .i64 X.p.r) := fun m => mP_cell hx2.lt hx2.c4 m
          have x5 : ∀ m, (mP v1 m).cell? ⟨XB, 5, none⟩ = some (.int .i64 X.q.c) := fun m => mP_cell hx2.lt hx2.c5 m
          have x6 : ∀ m, (mP v1 m).cell? ⟨XB, 6, none⟩ = some (.int .i64 X.q.l) := fun m => mP_cell hx2.lt hx2.c6 m
          have x7 : ∀ m, (mP v1 m).cell? ⟨XB, 7, none⟩ = some (.int .i64 X.q.a) := fun m => mP_cell hx2.lt hx2.c7 m
          have x8 : ∀ m, (mP v1 m).cell? ⟨XB, 8, none⟩ = some (.int .i64 X.q.d) := fun m => mP_cell hx2.lt hx2.c8 m
          have x9 : ∀ m, (mP v1 m).cell? ⟨XB, 9, none⟩ = some (.int .i64 X.q.r) := fun m => mP_cell hx2.lt hx2.c9 m
          have x10 : ∀ m, (mP v1 m).cell? ⟨XB, 10, none⟩ = some (.int .i64 X.x) := fun m => mP_cell hx2.lt hx2.c10 m
          have x11 : ∀ m, (mP v1 m).cell? ⟨XB, 11, none⟩ = some (.bool X.w) := fun m => mP_cell hx2.lt hx2.c11 m
          have a1 : ∀ m, (mP v1 m).cell? ⟨AB, 1, none⟩ = some (.int .u8 yb) := fun m => mP_cell hal ha1 m
          rcases (by omega : yd % 11 = 0 ∨ yd % 11 = 1 ∨ yd % 11 = 2 ∨ yd % 11 = 3 ∨ yd % 11 = 4 ∨ yd % 11 = 5 ∨ yd % 11 = 6 ∨ yd % 11 = 7 ∨ yd % 11 = 8 ∨ yd % 11 = 9 ∨ yd % 11 = 10) with e0 | e0 | e0 | e0 | e0 | e0 | e0 | e0 | e0 | e0 | e0
          · obtain ⟨h1, h2⟩ := con_sim hS yb ⟨y3, y4⟩
            have F0 := fun v => lyControl_any s.v s.t s.x s.w yb v
            rw [h1] at F0
            have F1 := fun v => rrControl_any X.p X.q X.x X.w yb v ⟨y3, y4⟩
            generalize conX X yb = X2 at *
            unfold ls lv at F0
            unfold xs xv at F1
            have Q0 : ∀ m, Calls Try.prog 12 #[.agg #[.int .u16 s.v, .int .u16 s.t, .int .u8 s.x, .bool s.w], .int .u8 yb] (mP v1 m) (fun e w' => e = .returned (.agg #[.int .u16 (lsX X2).v, .int .u16 (lsX X2).t, .int .u8 (lsX X2).x, .bool (lsX X2).w]) ∧ ∃ m, w' = mP v1 m) := fun m => Calls.more_q ((F0 _).mono fun _ _ h => ⟨h.1, h.2.below⟩)
            have Q1 : ∀ m, Calls Try.prog 13 #[.agg #[.int .i64 X.p.c, .int .i64 X.p.l, .int .i64 X.p.a, .int .i64 X.p.d, .int .i64 X.p.r, .int .i64 X.q.c, .int .i64 X.q.l, .int .i64 X.q.a, .int .i64 X.q.d, .int .i64 X.q.r, .int .i64 X.x, .bool X.w], .int .i64 yb] (mP v1 m) (fun e w' => e = .returned (.agg #[.int .i64 X2.p.c, .int .i64 X2.p.l, .int .i64 X2.p.a, .int .i64 X2.p.d, .int .i64 X2.p.r, .int .i64 X2.q.c, .int .i64 X2.q.l, .int .i64 X2.q.a, .int .i64 X2.q.d, .int .i64 X2.q.r, .int .i64 X2.x, .bool X2.w]) ∧ ∃ m, w' = mP v1 m) := fun m => Calls.more_q ((F1 _).mono fun _ _ h => ⟨h.1, h.2.below⟩)
            clear F0 F1 h1
            go_upto_region 12 with (fail)
            refine wp_region_mtail 7 (by kernel_rfl) (by kernel_rfl) (by kernel_rfl) ?_
            show wpQuiet _ _ _ _ [_, _, _, _, _, _, _] _
            repeat (go_big_quiet_step (first | (go_at_call 12; exact Q0 _) | (go_at_call 13; exact Q1 _)))
            refine wpQuiet_nil ?_
            intro m
            have g1 := hq2.bel (mP_below v1 m)
            have g2 := hx2.bel (mP_below v1 m)
            have g3 := hB2.trans ((mP_below v1 m).mono hB2.size)
            clear q0 q1 q2 q3 x0 x1 x2 x3 x4 x5 x6 x7 x8 x9 x10 x11 a1 Q0 Q1
            generalize mP v1 m = v2 at *
            have k0 := g1.lt
            have k1 := g1.fz
            have k2 := g2.lt
            have k3 := g2.fz
            have m0 := g1.c0
            have m1 := g1.c1
            have m2 := g1.c2
            have m3 := g1.c3
            have n0 := g2.c0
            have n1 := g2.c1
            have n2 := g2.c2
            have n3 := g2.c3
            have n4 := g2.c4
            have n5 := g2.c5
            have n6 := g2.c6
            have n7 := g2.c7
            have n8 := g2.c8
            have n9 := g2.c9
            have n10 := g2.c10
            have n11 := g2.c11
            show wpList _ _ _ [_, _] _ _
            go_wp2
            go_meet
            case rel => exact ⟨rfl, X2, h2, (g1.put (lsX X2)).putX_other hne.symm X2, (g2.put_other hne (lsX X2)).put X2, below_putX (below_put4 g3 (Nat.le_refl _) (lsX X2)) (Nat.le_of_lt hsX) X2⟩
          · obtain ⟨h1, h2⟩ := off_sim hS yb ⟨y3, y4⟩
            have F0 := fun v => lyOffset_any s.v s.t s.x s.w yb v
            rw [h1] at F0
            have F1 := fun v => rrOffset_any X.p X.q X.x X.w yb v ⟨y3, y4⟩
            generalize offX X yb = X2 at *
            unfold ls lv at F0
            unfold xs xv at F1
            have Q0 : ∀ m, Calls Try.prog 14 #[.agg #[.int .u16 s.v, .int .u16 s.t, .int .u8 s.x, .bool s.w], .int .u8 yb] (mP v1 m) (fun e w' => e = .returned (.agg #[.int .u16 (lsX X2).v, .int .u16 (lsX X2).t, .int .u8 (lsX X2).x, .bool (lsX X2).w]) ∧ ∃ m, w' = mP v1 m) := fun m => Calls.more_q ((F0 _).mono fun _ _ h => ⟨h.1, h.2.below⟩)
            have Q1 : ∀ m, Calls Try.prog 15 #[.agg #[.int .i64 X.p.c, .int .i64 X.p.l, .int .i64 X.p.a, .int .i64 X.p.d, .int .i64 X.p.r, .int .i64 X.q.c, .int .i64 X.q.l, .int .i64 X.q.a, .int .i64 X.q.d, .int .i64 X.q.r, .int .i64 X.x, .bool X.w], .int .i64 yb] (mP v1 m) (fun e w' => e = .returned (.agg #[.int .i64 X2.p.c, .int .i64 X2.p.l, .int .i64 X2.p.a, .int .i64 X2.p.d, .int .i64 X2.p.r, .int .i64 X2.q.c, .int .i64 X2.q.l, .int .i64 X2.q.a, .int .i64 X2.q.d, .int .i64 X2.q.r, .int .i64 X2.x, .bool X2.w]) ∧ ∃ m, w' = mP v1 m) := fun m => Calls.more_q ((F1 _).mono fun _ _ h => ⟨h.1, h.2.below⟩)
            clear F0 F1 h1
            go_upto_region 15 with (fail)
            refine wp_region_mtail 7 (by kernel_rfl) (by kernel_rfl) (by kernel_rfl) ?_
            show wpQuiet _ _ _ _ [_, _, _, _, _, _, _] _
            repeat (go_big_quiet_step (first | (go_at_call 14; exact Q0 _) | (go_at_call 15; exact Q1 _)))
            refine wpQuiet_nil ?_
            intro m
            have g1 := hq2.bel (mP_below v1 m)
            have g2 := hx2.bel (mP_below v1 m)
            have g3 := hB2.trans ((mP_below v1 m).mono hB2.size)
            clear q0 q1 q2 q3 x0 x1 x2 x3 x4 x5 x6 x7 x8 x9 x10 x11 a1 Q0 Q1
            generalize mP v1 m = v2 at *
            have k0 := g1.lt
            have k1 := g1.fz
            have k2 := g2.lt
            have k3 := g2.fz
            have m0 := g1.c0
            have m1 := g1.c1
            have m2 := g1.c2
            have m3 := g1.c3
            have n0 := g2.c0
            have n1 := g2.c1
            have n2 := g2.c2
            have n3 := g2.c3
            have n4 := g2.c4
            have n5 := g2.c5
            have n6 := g2.c6
            have n7 := g2.c7
            have n8 := g2.c8
            have n9 := g2.c9
            have n10 := g2.c10
            have n11 := g2.c11
            show wpList _ _ _ [_, _] _ _
            go_wp2
            go_meet
            case rel => exact ⟨rfl, X2, h2, (g1.put (lsX X2)).putX_other hne.symm X2, (g2.put_other hne (lsX X2)).put X2, below_putX (below_put4 g3 (Nat.le_refl _) (lsX X2)) (Nat.le_of_lt hsX) X2⟩
          · obtain ⟨h1, h2⟩ := off_sim hS yb ⟨y3, y4⟩
            have F0 := fun v => lyOffset_any s.v s.t s.x s.w yb v
            rw [h1] at F0
            have F1 := fun v => rrOffset_any X.p X.q X.x X.w yb v ⟨y3, y4⟩
            generalize offX X yb = X2 at *
            unfold ls lv at F0
            unfold xs xv at F1
            have Q0 : ∀ m, Calls Try.prog 14 #[.agg #[.int .u16 s.v, .int .u16 s.t, .int .u8 s.x, .bool s.w], .int .u8 yb] (mP v1 m) (fun e w' => e = .returned (.agg #[.int .u16 (lsX X2).v, .int .u16 (lsX X2).t, .int .u8 (lsX X2).x, .bool (lsX X2).w]) ∧ ∃ m, w' = mP v1 m) := fun m => Calls.more_q ((F0 _).mono fun _ _ h => ⟨h.1, h.2.below⟩)
            have Q1 : ∀ m, Calls Try.prog 15 #[.agg #[.int .i64 X.p.c, .int .i64 X.p.l, .int .i64 X.p.a, .int .i64 X.p.d, .int .i64 X.p.r, .int .i64 X.q.c, .int .i64 X.q.l, .int .i64 X.q.a, .int .i64 X.q.d, .int .i64 X.q.r, .int .i64 X.x, .bool X.w], .int .i64 yb] (mP v1 m) (fun e w' => e = .returned (.agg #[.int .i64 X2.p.c, .int .i64 X2.p.l, .int .i64 X2.p.a, .int .i64 X2.p.d, .int .i64 X2.p.r, .int .i64 X2.q.c, .int .i64 X2.q.l, .int .i64 X2.q.a, .int .i64 X2.q.d, .int .i64 X2.q.r, .int .i64 X2.x, .bool X2.w]) ∧ ∃ m, w' = mP v1 m) := fun m => Calls.more_q ((F1 _).mono fun _ _ h => ⟨h.1, h.2.below⟩)
            clear F0 F1 h1
            go_upto_region 15 with (fail)
            refine wp_region_mtail 7 (by kernel_rfl) (by kernel_rfl) (by kernel_rfl) ?_
            show wpQuiet _ _ _ _ [_, _, _, _, _, _, _] _
            repeat (go_big_quiet_step (first | (go_at_call 14; exact Q0 _) | (go_at_call 15; exact Q1 _)))
            refine wpQuiet_nil ?_
            intro m
            have g1 := hq2.bel (mP_below v1 m)
            have g2 := hx2.bel (mP_below v1 m)
            have g3 := hB2.trans ((mP_below v1 m).mono hB2.size)
            clear q0 q1 q2 q3 x0 x1 x2 x3 x4 x5 x6 x7 x8 x9 x10 x11 a1 Q0 Q1
            generalize mP v1 m = v2 at *
            have k0 := g1.lt
            have k1 := g1.fz
            have k2 := g2.lt
            have k3 := g2.fz
            have m0 := g1.c0
            have m1 := g1.c1
            have m2 := g1.c2
            have m3 := g1.c3
            have n0 := g2.c0
            have n1 := g2.c1
            have n2 := g2.c2
            have n3 := g2.c3
            have n4 := g2.c4
            have n5 := g2.c5
            have n6 := g2.c6
            have n7 := g2.c7
            have n8 := g2.c8
            have n9 := g2.c9
            have n10 := g2.c10
            have n11 := g2.c11
            show wpList _ _ _ [_, _] _ _
            go_wp2
            go_meet
            case rel => exact ⟨rfl, X2, h2, (g1.put (lsX X2)).putX_other hne.symm X2, (g2.put_other hne (lsX X2)).put X2, below_putX (below_put4 g3 (Nat.le_refl _) (lsX X2)) (Nat.le_of_lt hsX) X2⟩
          · obtain ⟨h1, h2⟩ := adr_sim hS yb ⟨y3, y4⟩
            have F0 := fun v => lyAddress_any s.v s.t s.x s.w yb v
            rw [h1] at F0
            have F1 := fun v => rrAddress_any X.p X.q X.x X.w yb v hS.f.p hS.f.q ⟨y3, y4⟩
            generalize adrX X yb = X2 at *
            unfold ls lv at F0
            unfold xs xv at F1
            have Q0 : ∀ m, Calls Try.prog 16 #[.agg #[.int .u16 s.v, .int .u16 s.t, .int .u8 s.x, .bool s.w], .int .u8 yb] (mP v1 m) (fun e w' => e = .returned (.agg #[.int .u16 (lsX X2).v, .int .u16 (lsX X2).t, .int .u8 (lsX X2).x, .bool (lsX X2).w]) ∧ ∃ m, w' = mP v1 m) := fun m => Calls.more_q ((F0 _).mono fun _ _ h => ⟨h.1, h.2.below⟩)
            have Q1 : ∀ m, Calls Try.prog 17 #[.agg #[.int .i64 X.p.c, .int .i64 X.p.l, .int .i64 X.p.a, .int .i64 X.p.d, .int .i64 X.p.r, .int .i64 X.q.c, .int .i64 X.q.l, .int .i64 X.q.a, .int .i64 X.q.d, .int .i64 X.q.r, .int .i64 X.x, .bool X.w], .int .i64 yb] (mP v1 m) (fun e w' => e = .returned (.agg #[.int .i64 X2.p.c, .int .i64 X2.p.l, .int .i64 X2.p.a, .int .i64 X2.p.d, .int .i64 X2.p.r, .int .i64 X2.q.c, .int .i64 X2.q.l, .int .i64 X2.q.a, .int .i64 X2.q.d, .int .i64 X2.q.r, .int .i64 X2.x, .bool X2.w]) ∧ ∃ m, w' = mP v1 m) := fun m => Calls.more_q ((F1 _).mono fun _ _ h => ⟨h.1, h.2.below⟩)
            clear F0 F1 h1
            go_upto_region 18 with (fail)
            refine wp_region_mtail 7 (by kernel_rfl) (by kernel_rfl) (by kernel_rfl) ?_
            show wpQuiet _ _ _ _ [_, _, _, _, _, _, _] _
            repeat (go_big_quiet_step (first | (go_at_call 16; exact Q0 _) | (go_at_call 17; exact Q1 _)))
            refine wpQuiet_nil ?_
            intro m
            have g1 := hq2.bel (mP_below v1 m)
            have g2 := hx2.bel (mP_below v1 m)
            have g3 := hB2.trans ((mP_below v1 m).mono hB2.size)
            clear q0 q1 q2 q3 x0 x1 x2 x3 x4 x5 x6 x7 x8 x9 x10 x11 a1 Q0 Q1
            generalize mP v1 m = v2 at *
            have k0 := g1.lt
            have k1 := g1.fz
            have k2 := g2.lt
            have k3 := g2.fz
            have m0 := g1.c0
            have m1 := g1.c1
            have m2 := g1.c2
            have m3 := g1.c3
            have n0 := g2.c0
            have n1 := g2.c1
            have n2 := g2.c2
            have n3 := g2.c3
            have n4 := g2.c4
            have n5 := g2.c5
            have n6 := g2.c6
            have n7 := g2.c7
            have n8 := g2.c8
            have n9 := g2.c9
            have n10 := g2.c10
            have n11 := g2.c11
            show wpList _ _ _ [_, _] _ _
            go_wp2
            go_meet
            case rel => exact ⟨rfl, X2, h2, (g1.put (lsX X2)).putX_other hne.symm X2, (g2.put_other hne (lsX X2)).put X2, below_putX (below_put4 g3 (Nat.le_refl _) (lsX X2)) (Nat.le_of_lt hsX) X2⟩
          · obtain ⟨h1, h2⟩ := adr_sim hS yb ⟨y3, y4⟩
            have F0 := fun v => lyAddress_any s.v s.t s.x s.w yb v
            rw [h1] at F0
            have F1 := fun v => rrAddress_any X.p X.q X.x X.w yb v hS.f.p hS.f.q ⟨y3, y4⟩
            generalize adrX X yb = X2 at *
            unfold ls lv at F0
            unfold xs xv at F1
            have Q0 : ∀ m, Calls Try.prog 16 #[.agg #[.int .u16 s.v, .int .u16 s.t, .int .u8 s.x, .bool s.w], .int .u8 yb] (mP v1 m) (fun e w' => e = .returned (.agg #[.int .u16 (lsX X2).v, .int .u16 (lsX X2).t, .int .u8 (lsX X2).x, .bool (lsX X2).w]) ∧ ∃ m, w' = mP v1 m) := fun m => Calls.more_q ((F0 _).mono fun _ _ h => ⟨h.1, h.2.below⟩)
            have Q1 : ∀ m, Calls Try.prog 17 #[.agg #[.int .i64 X.p.c, .int .i64 X.p.l, .int .i64 X.p.a, .int .i64 X.p.d, .int .i64 X.p.r, .int .i64 X.q.c, .int .i64 X.q.l, .int .i64 X.q.a, .int .i64 X.q.d, .int .i64 X.q.r, .int .i64 X.x, .bool X.w], .int .i64 yb] (mP v1 m) (fun e w' => e = .returned (.agg #[.int .i64 X2.p.c, .int .i64 X2.p.l, .int .i64 X2.p.a, .int .i64 X2.p.d, .int .i64 X2.p.r, .int .i64 X2.q.c, .int .i64 X2.q.l, .int .i64 X2.q.a, .int .i64 X2.q.d, .int .i64 X2.q.r, .int .i64 X2.x, .bool X2.w]) ∧ ∃ m, w' = mP v1 m) := fun m => Calls.more_q ((F1 _).mono fun _ _ h => ⟨h.1, h.2.below⟩)
            clear F0 F1 h1
            go_upto_region 18 with (fail)
            refine wp_region_mtail 7 (by kernel_rfl) (by kernel_rfl) (by kernel_rfl) ?_
            show wpQuiet _ _ _ _ [_, _, _, _, _, _, _] _
            repeat (go_big_quiet_step (first | (go_at_call 16; exact Q0 _) | (go_at_call 17; exact Q1 _)))
            refine wpQuiet_nil ?_
            intro m
            have g1 := hq2.bel (mP_below v1 m)
            have g2 := hx2.bel (mP_below v1 m)
            have g3 := hB2.trans ((mP_below v1 m).mono hB2.size)
            clear q0 q1 q2 q3 x0 x1 x2 x3 x4 x5 x6 x7 x8 x9 x10 x11 a1 Q0 Q1
            generalize mP v1 m = v2 at *
            have k0 := g1.lt
            have k1 := g1.fz
            have k2 := g2.lt
            have k3 := g2.fz
            have m0 := g1.c0
            have m1 := g1.c1
            have m2 := g1.c2
            have m3 := g1.c3
            have n0 := g2.c0
            have n1 := g2.c1
            have n2 := g2.c2
            have n3 := g2.c3
            have n4 := g2.c4
            have n5 := g2.c5
            have n6 := g2.c6
            have n7 := g2.c7
            have n8 := g2.c8
            have n9 := g2.c9
            have n10 := g2.c10
            have n11 := g2.c11
            show wpList _ _ _ [_, _] _ _
            go_wp2
            go_meet
            case rel => exact ⟨rfl, X2, h2, (g1.put (lsX X2)).putX_other hne.symm X2, (g2.put_other hne (lsX X2)).put X2, below_putX (below_put4 g3 (Nat.le_refl _) (lsX X2)) (Nat.le_of_lt hsX) X2⟩
          · obtain ⟨h1, h2⟩ := look_sim hS
            have F0 := fun v => lyLook_any s.v s.t s.x s.w v
            rw [h1] at F0
            obtain ⟨X2, hX2⟩ : ∃ X2 : XS, ({ X with w := false } : XS) = X2 := ⟨_, rfl⟩
            rw [hX2] at F0 h2
            have p1 : X2.p = X.p := by rw [← hX2]
            have p2 : X2.q = X.q := by rw [← hX2]
            have p3 : X2.x = X.x := by rw [← hX2]
            have p4 : X2.w = false := by rw [← hX2]
            unfold ls lv at F0
            clear q0 q1 q2 q3 x0 x1 x2 x3 x4 x5 x6 x7 x8 x9 x10 x11 a1 h1 hX2
            have k0 := hq2.lt
            have k1 := hq2.fz
            have k2 := hx2.lt
            have k3 := hx2.fz
            have m0 := hq2.c0
            have m1 := hq2.c1
            have m2 := hq2.c2
            have m3 := hq2.c3
            have n11 := hx2.c11
            have P1 : Hid (X2.p = X.p ∧ X2.q = X.q ∧ X2.x = X.x ∧ X2.w = false) := ⟨p1, p2, p3, p4⟩
            clear p1 p2 p3 p4
            go_wp2_with (go_at_call 18; refine (F0 _).mono ?_; rintro e w2 ⟨rfl, os, q, rfl⟩)
            go_meet
            case rel =>
              refine ⟨rfl, X2, h2, ((hq2.put (lsX X2)).set_other hne.symm 11 (.bool false)).ext ⟨os, q, rfl⟩, ?_, ?_⟩
              · have := ((hx2.put_other hne (lsX X2)).setW false).ext ⟨os, q, rfl⟩
                rw [P1.out.1, P1.out.2.1, P1.out.2.2.1, P1.out.2.2.2]
                exact this
              · exact ext_below ((below_put4 hB2 (Nat.le_refl _) (lsX X2)).setCell (p := ⟨XB, 11, none⟩) (Nat.le_of_lt hsX) (.bool false)) (by have := hq2.lt; simp [put4_size]; omega) os q
          · rcases (by omega : yb % 2 = 0 ∨ yb % 2 = 1) with e1 | e1
            · have e2 : yb.tmod 2 = 0 := by rw [Int.tmod_eq_emod_of_nonneg (by omega)]; exact e1
              obtain ⟨h1, h2⟩ := step_sim hS false
              have F0 := fun v => lyStep_any s.v s.t s.x s.w false v
              rw [h1] at F0
              have F1 := fun v => rrStep_any X.p X.q X.x X.w false v hS.f.p hS.f.q
              generalize stepX X false = X2 at *
              unfold ls lv at F0
              unfold xs xv at F1
              have Q0 : ∀ m, Calls Try.prog 19 #[.agg #[.int .u16 s.v, .int .u16 s.t, .int .u8 s.x, .bool s.w], .bool false] (mP v1 m) (fun e w' => e = .returned (.agg #[.int .u16 (lsX X2).v, .int .u16 (lsX X2).t, .int .u8 (lsX X2).x, .bool (lsX X2).w]) ∧ ∃ m, w' = mP v1 m) := fun m => Calls.more_q ((F0 _).mono fun _ _ h => ⟨h.1, h.2.below⟩)
              have Q1 : ∀ m, Calls Try.prog 20 #[.agg #[.int .i64 X.p.c, .int .i64 X.p.l, .int .i64 X.p.a, .int .i64 X.p.d, .int .i64 X.p.r, .int .i64 X.q.c, .int .i64 X.q.l, .int .i64 X.q.a, .int .i64 X.q.d, .int .i64 X.q.r, .int .i64 X.x, .bool X.w], .bool false] (mP v1 m) (fun e w' => e = .returned (.agg #[.int .i64 X2.p.c, .int .i64 X2.p.l, .int .i64 X2.p.a, .int .i64 X2.p.d, .int .i64 X2.p.r, .int .i64 X2.q.c, .int .i64 X2.q.l, .int .i64 X2.q.a, .int .i64 X2.q.d, .int .i64 X2.q.r, .int .i64 X2.x, .bool X2.w]) ∧ ∃ m, w' = mP v1 m) := fun m => Calls.more_q ((F1 _).mono fun _ _ h => ⟨h.1, h.2.below⟩)
              clear F0 F1 h1
              go_upto_region 23 with (fail)
              refine wp_region_mtail 10 (by kernel_rfl) (by kernel_rfl) (by kernel_rfl) ?_
              show wpQuiet _ _ _ _ [_, _, _, _, _, _, _, _, _, _] _
              repeat (go_big_quiet_step (first | (go_at_call 19; exact Q0 _) | (go_at_call 20; exact Q1 _)))
              refine wpQuiet_nil ?_
              intro m
              have g1 := hq2.bel (mP_below v1 m)
              have g2 := hx2.bel (mP_below v1 m)
              have g3 := hB2.trans ((mP_below v1 m).mono hB2.size)
              clear q0 q1 q2 q3 x0 x1 x2 x3 x4 x5 x6 x7 x8 x9 x10 x11 a1 Q0 Q1
              generalize mP v1 m = v2 at *
              have k0 := g1.lt
              have k1 := g1.fz
              have k2 := g2.lt
              have k3 := g2.fz
              have m0 := g1.c0
              have m1 := g1.c1
              have m2 := g1.c2
              have m3 := g1.c3
              have n0 := g2.c0
              have n1 := g2.c1
              have n2 := g2.c2
              have n3 := g2.c3
              have n4 := g2.c4
              have n5 := g2.c5
              have n6 := g2.c6
              have n7 := g2.c7
              have n8 := g2.c8
              have n9 := g2.c9
              have n10 := g2.c10
              have n11 := g2.c11
              show wpList _ _ _ [_, _] _ _
              go_wp2
              go_meet
              case rel => exact ⟨rfl, X2, h2, (g1.put (lsX X2)).putX_other hne.symm X2, (g2.put_other hne (lsX X2)).put X2, below_putX (below_put4 g3 (Nat.le_refl _) (lsX X2)) (Nat.le_of_lt hsX) X2⟩
            · have e2 : yb.tmod 2 = 1 := by rw [Int.tmod_eq_emod_of_nonneg (by omega)]; exact e1
              obtain ⟨h1, h2⟩ := step_sim hS true
              have F0 := fun v => lyStep_any s.v s.t s.x s.w true v
              rw [h1] at F0
              have F1 := fun v => rrStep_any X.p X.q X.x X.w true v hS.f.p hS.f.q
              generalize stepX X true = X2 at *
              unfold ls lv at F0
              unfold xs xv at F1
              have Q0 : ∀ m, Calls Try.prog 19 #[.agg #[.int .u16 s.v, .int .u16 s.t, .int .u8 s.x, .bool s.w], .bool true] (mP v1 m) (fun e w' => e = .returned (.agg #[.int .u16 (lsX X2).v, .int .u16 (lsX X2).t, .int .u8 (lsX X2).x, .bool (lsX X2).w]) ∧ ∃ m, w' = mP v1 m) := fun m => Calls.more_q ((F0 _).mono fun _ _ h => ⟨h.1, h.2.below⟩)
              have Q1 : ∀ m, Calls Try.prog 20 #[.agg #[.int .i64 X.p.c, .int .i64 X.p.l, .int .i64 X.p.a, .int .i64 X.p.d, .int .i64 X.p.r, .int .i64 X.q.c, .int .i64 X.q.l, .int .i64 X.q.a, .int .i64 X.q.d, .int .i64 X.q.r, .int .i64 X.x, .bool X.w], .bool true] (mP v1 m) (fun e w' => e = .returned (.agg #[.int .i64 X2.p.c, .int .i64 X2.p.l, .int .i64 X2.p.a, .int .i64 X2.p.d, .int .i64 X2.p.r, .int .i64 X2.q.c, .int .i64 X2.q.l, .int .i64 X2.q.a, .int .i64 X2.q.d, .int .i64 X2.q.r, .int .i64 X2.x, .bool X2.w]) ∧ ∃ m, w' = mP v1 m) := fun m => Calls.more_q ((F1 _).mono fun _ _ h => ⟨h.1, h.2.below⟩)
              clear F0 F1 h1
              go_upto_region 23 with (fail)
              refine wp_region_mtail 10 (by kernel_rfl) (by kernel_rfl) (by kernel_rfl) ?_
              show wpQuiet _ _ _ _ [_, _, _, _, _, _, _, _, _, _] _
              repeat (go_big_quiet_step (first | (go_at_call 19; exact Q0 _) | (go_at_call 20; exact Q1 _)))
              refine wpQuiet_nil ?_
              intro m
              have g1 := hq2.bel (mP_below v1 m)
              have g2 := hx2.bel (mP_below v1 m)
              have g3 := hB2.trans ((mP_below v1 m).mono hB2.size)
              clear q0 q1 q2 q3 x0 x1 x2 x3 x4 x5 x6 x7 x8 x9 x10 x11 a1 Q0 Q1
              generalize mP v1 m = v2 at *
              have k0 := g1.lt
              have k1 := g1.fz
              have k2 := g2.lt
              have k3 := g2.fz
              have m0 := g1.c0
              have m1 := g1.c1
              have m2 := g1.c2
              have m3 := g1.c3
              have n0 := g2.c0
              have n1 := g2.c1
              have n2 := g2.c2
              have n3 := g2.c3
              have n4 := g2.c4
              have n5 := g2.c5
              have n6 := g2.c6
              have n7 := g2.c7
              have n8 := g2.c8
              have n9 := g2.c9
              have n10 := g2.c10
              have n11 := g2.c11
              show wpList _ _ _ [_, _] _ _
              go_wp2
              go_meet
              case rel => exact ⟨rfl, X2, h2, (g1.put (lsX X2)).putX_other hne.symm X2, (g2.put_other hne (lsX X2)).put X2, below_putX (below_put4 g3 (Nat.le_refl _) (lsX X2)) (Nat.le_of_lt hsX) X2⟩
          · obtain ⟨h1, h2⟩ := rig_sim hS
            have F0 := fun v => lyRight_any s.v s.t s.x s.w v
            rw [h1] at F0
            have F1 := fun v => rrRight_any X.p X.q X.x X.w v hS.f.p hS.f.q
            generalize rigX X = X2 at *
            unfold ls lv at F0
            unfold xs xv at F1
            have Q0 : ∀ m, Calls Try.prog 21 #[.agg #[.int .u16 s.v, .int .u16 s.t, .int .u8 s.x, .bool s.w]] (mP v1 m) (fun e w' => e = .returned (.agg #[.int .u16 (lsX X2).v, .int .u16 (lsX X2).t, .int .u8 (lsX X2).x, .bool (lsX X2).w]) ∧ ∃ m, w' = mP v1 m) := fun m => Calls.more_q ((F0 _).mono fun _ _ h => ⟨h.1, h.2.below⟩)
            have Q1 : ∀ m, Calls Try.prog 22 #[.agg #[.int .i64 X.p.c, .int .i64 X.p.l, .int .i64 X.p.a, .int .i64 X.p.d, .int .i64 X.p.r, .int .i64 X.q.c, .int .i64 X.q.l, .int .i64 X.q.a, .int .i64 X.q.d, .int .i64 X.q.r, .int .i64 X.x, .bool X.w]] (mP v1 m) (fun e w' => e = .returned (.agg #[.int .i64 X2.p.c, .int .i64 X2.p.l, .int .i64 X2.p.a, .int .i64 X2.p.d, .int .i64 X2.p.r, .int .i64 X2.q.c, .int .i64 X2.q.l, .int .i64 X2.q.a, .int .i64 X2.q.d, .int .i64 X2.q.r, .int .i64 X2.x, .bool X2.w]) ∧ ∃ m, w' = mP v1 m) := fun m => Calls.more_q ((F1 _).mono fun _ _ h => ⟨h.1, h.2.below⟩)
            clear F0 F1 h1
            go_upto_region 25 with (fail)
            refine wp_region_mtail 4 (by kernel_rfl) (by kernel_rfl) (by kernel_rfl) ?_
            show wpQuiet _ _ _ _ [_, _, _, _] _
            repeat (go_big_quiet_step (first | (go_at_call 21; exact Q0 _) | (go_at_call 22; exact Q1 _)))
            refine wpQuiet_nil ?_
            intro m
            have g1 := hq2.bel (mP_below v1 m)
            have g2 := hx2.bel (mP_below v1 m)
            have g3 := hB2.trans ((mP_below v1 m).mono hB2.size)
            clear q0 q1 q2 q3 x0 x1 x2 x3 x4 x5 x6 x7 x8 x9 x10 x11 a1 Q0 Q1
            generalize mP v1 m = v2 at *
            have k0 := g1.lt
            have k1 := g1.fz
            have k2 := g2.lt
            have k3 := g2.fz
            have m0 := g1.c0
            have m1 := g1.c1
            have m2 := g1.c2
            have m3 := g1.c3
            have n0 := g2.c0
            have n1 := g2.c1
            have n2 := g2.c2
            have n3 := g2.c3
            have n4 := g2.c4
            have n5 := g2.c5
            have n6 := g2.c6
            have n7 := g2.c7
            have n8 := g2.c8
            have n9 := g2.c9
            have n10 := g2.c10
            have n11 := g2.c11
            show wpList _ _ _ [_, _] _ _
            go_wp2
            go_meet
            case rel => exact ⟨rfl, X2, h2, (g1.put (lsX X2)).putX_other hne.symm X2, (g2.put_other hne (lsX X2)).put X2, below_putX (below_put4 g3 (Nat.le_refl _) (lsX X2)) (Nat.le_of_lt hsX) X2⟩
          · obtain ⟨h1, h2⟩ := dow_sim hS
            have F0 := fun v => lyDown_any s.v s.t s.x s.w v
            rw [h1] at F0
            have F1 := fun v => rrDown_any X.p X.q X.x X.w v hS.f.p hS.f.q
            generalize dowX X = X2 at *
            unfold ls lv at F0
            unfold xs xv at F1
            have Q0 : ∀ m, Calls Try.prog 23 #[.agg #[.int .u16 s.v, .int .u16 s.t, .int .u8 s.x, .bool s.w]] (mP v1 m) (fun e w' => e = .returned (.agg #[.int .u16 (lsX X2).v, .int .u16 (lsX X2).t, .int .u8 (lsX X2).x, .bool (lsX X2).w]) ∧ ∃ m, w' = mP v1 m) := fun m => Calls.more_q ((F0 _).mono fun _ _ h => ⟨h.1, h.2.below⟩)
            have Q1 : ∀ m, Calls Try.prog 24 #[.agg #[.int .i64 X.p.c, .int .i64 X.p.l, .int .i64 X.p.a, .int .i64 X.p.d, .int .i64 X.p.r, .int .i64 X.q.c, .int .i64 X.q.l, .int .i64 X.q.a, .int .i64 X.q.d, .int .i64 X.q.r, .int .i64 X.x, .bool X.w]] (mP v1 m) (fun e w' => e = .returned (.agg #[.int .i64 X2.p.c, .int .i64 X2.p.l, .int .i64 X2.p.a, .int .i64 X2.p.d, .int .i64 X2.p.r, .int .i64 X2.q.c, .int .i64 X2.q.l, .int .i64 X2.q.a, .int .i64 X2.q.d, .int .i64 X2.q.r, .int .i64 X2.x, .bool X2.w]) ∧ ∃ m, w' = mP v1 m) := fun m => Calls.more_q ((F1 _).mono fun _ _ h => ⟨h.1, h.2.below⟩)
            clear F0 F1 h1
            go_upto_region 27 with (fail)
            refine wp_region_mtail 4 (by kernel_rfl) (by kernel_rfl) (by kernel_rfl) ?_
            show wpQuiet _ _ _ _ [_, _, _, _] _
            repeat (go_big_quiet_step (first | (go_at_call 23; exact Q0 _) | (go_at_call 24; exact Q1 _)))
            refine wpQuiet_nil ?_
            intro m
            have g1 := hq2.bel (mP_below v1 m)
            have g2 := hx2.bel (mP_below v1 m)
            have g3 := hB2.trans ((mP_below v1 m).mono hB2.size)
            clear q0 q1 q2 q3 x0 x1 x2 x3 x4 x5 x6 x7 x8 x9 x10 x11 a1 Q0 Q1
            generalize mP v1 m = v2 at *
            have k0 := g1.lt
            have k1 := g1.fz
            have k2 := g2.lt
            have k3 := g2.fz
            have m0 := g1.c0
            have m1 := g1.c1
            have m2 := g1.c2
            have m3 := g1.c3
            have n0 := g2.c0
            have n1 := g2.c1
            have n2 := g2.c2
            have n3 := g2.c3
            have n4 := g2.c4
            have n5 := g2.c5
            have n6 := g2.c6
            have n7 := g2.c7
            have n8 := g2.c8
            have n9 := g2.c9
            have n10 := g2.c10
            have n11 := g2.c11
            show wpList _ _ _ [_, _] _ _
            go_wp2
            go_meet
            case rel => exact ⟨rfl, X2, h2, (g1.put (lsX X2)).putX_other hne.symm X2, (g2.put_other hne (lsX X2)).put X2, below_putX (below_put4 g3 (Nat.le_refl _) (lsX X2)) (Nat.le_of_lt hsX) X2⟩
          · obtain ⟨h1, h2⟩ := lin_sim hS
            have F0 := fun v => lyLine_any s.v s.t s.x s.w v
            rw [h1] at F0
            have F1 := fun v => rrLine_any X.p X.q X.x X.w v
            generalize linX X = X2 at *
            unfold ls lv at F0
            unfold xs xv at F1
            have Q0 : ∀ m, Calls Try.prog 25 #[.agg #[.int .u16 s.v, .int .u16 s.t, .int .u8 s.x, .bool s.w]] (mP v1 m) (fun e w' => e = .returned (.agg #[.int .u16 (lsX X2).v, .int .u16 (lsX X2).t, .int .u8 (lsX X2).x, .bool (lsX X2).w]) ∧ ∃ m, w' = mP v1 m) := fun m => Calls.more_q ((F0 _).mono fun _ _ h => ⟨h.1, h.2.below⟩)
            have Q1 : ∀ m, Calls Try.prog 26 #[.agg #[.int .i64 X.p.c, .int .i64 X.p.l, .int .i64 X.p.a, .int .i64 X.p.d, .int .i64 X.p.r, .int .i64 X.q.c, .int .i64 X.q.l, .int .i64 X.q.a, .int .i64 X.q.d, .int .i64 X.q.r, .int .i64 X.x, .bool X.w]] (mP v1 m) (fun e w' => e = .returned (.agg #[.int .i64 X2.p.c, .int .i64 X2.p.l, .int .i64 X2.p.a, .int .i64 X2.p.d, .int .i64 X2.p.r, .int .i64 X2.q.c, .int .i64 X2.q.l, .int .i64 X2.q.a, .int .i64 X2.q.d, .int .i64 X2.q.r, .int .i64 X2.x, .bool X2.w]) ∧ ∃ m, w' = mP v1 m) := fun m => Calls.more_q ((F1 _).mono fun _ _ h => ⟨h.1, h.2.below⟩)
            clear F0 F1 h1
            go_upto_region 29 with (fail)
            refine wp_region_mtail 4 (by kernel_rfl) (by kernel_rfl) (by kernel_rfl) ?_
            show wpQuiet _ _ _ _ [_, _, _, _] _
            repeat (go_big_quiet_step (first | (go_at_call 25; exact Q0 _) | (go_at_call 26; exact Q1 _)))
            refine wpQuiet_nil ?_
            intro m
            have g1 := hq2.bel (mP_below v1 m)
            have g2 := hx2.bel (mP_below v1 m)
            have g3 := hB2.trans ((mP_below v1 m).mono hB2.size)
            clear q0 q1 q2 q3 x0 x1 x2 x3 x4 x5 x6 x7 x8 x9 x10 x11 a1 Q0 Q1
            generalize mP v1 m = v2 at *
            have k0 := g1.lt
            have k1 := g1.fz
            have k2 := g2.lt
            have k3 := g2.fz
            have m0 := g1.c0
            have m1 := g1.c1
            have m2 := g1.c2
            have m3 := g1.c3
            have n0 := g2.c0
            have n1 := g2.c1
            have n2 := g2.c2
            have n3 := g2.c3
            have n4 := g2.c4
            have n5 := g2.c5
            have n6 := g2.c6
            have n7 := g2.c7
            have n8 := g2.c8
            have n9 := g2.c9
            have n10 := g2.c10
            have n11 := g2.c11
            show wpList _ _ _ [_, _] _ _
            go_wp2
            go_meet
            case rel => exact ⟨rfl, X2, h2, (g1.put (lsX X2)).putX_other hne.symm X2, (g2.put_other hne (lsX X2)).put X2, below_putX (below_put4 g3 (Nat.le_refl _) (lsX X2)) (Nat.le_of_lt hsX) X2⟩
          · obtain ⟨h1, h2⟩ := top_sim hS
            have F0 := fun v => lyTop_any s.v s.t s.x s.w v
            rw [h1] at F0
            have F1 := fun v => rrTop_any X.p X.q X.x X.w v
            generalize topX X = X2 at *
            unfold ls lv at F0
            unfold xs xv at F1
            have Q0 : ∀ m, Calls Try.prog 27 #[.agg #[.int .u16 s.v, .int .u16 s.t, .int .u8 s.x, .bool s.w]] (mP v1 m) (fun e w' => e = .returned (.agg #[.int .u16 (lsX X2).v, .int .u16 (lsX X2).t, .int .u8 (lsX X2).x, .bool (lsX X2).w]) ∧ ∃ m, w' = mP v1 m) := fun m => Calls.more_q ((F0 _).mono fun _ _ h => ⟨h.1, h.2.below⟩)
            have Q1 : ∀ m, Calls Try.prog 28 #[.agg #[.int .i64 X.p.c, .int .i64 X.p.l, .int .i64 X.p.a, .int .i64 X.p.d, .int .i64 X.p.r, .int .i64 X.q.c, .int .i64 X.q.l, .int .i64 X.q.a, .int .i64 X.q.d, .int .i64 X.q.r, .int .i64 X.x, .bool X.w]] (mP v1 m) (fun e w' => e = .returned (.agg #[.int .i64 X2.p.c, .int .i64 X2.p.l, .int .i64 X2.p.a, .int .i64 X2.p.d, .int .i64 X2.p.r, .int .i64 X2.q.c, .int .i64 X2.q.l, .int .i64 X2.q.a, .int .i64 X2.q.d, .int .i64 X2.q.r, .int .i64 X2.x, .bool X2.w]) ∧ ∃ m, w' = mP v1 m) := fun m => Calls.more_q ((F1 _).mono fun _ _ h => ⟨h.1, h.2.below⟩)
            clear F0 F1 h1
            go_upto_region 10 with (fail)
            refine wp_region_mtail 4 (by kernel_rfl) (by kernel_rfl) (by kernel_rfl) ?_
            show wpQuiet _ _ _ _ [_, _, _, _] _
            repeat (go_big_quiet_step (first | (go_at_call 27; exact Q0 _) | (go_at_call 28; exact Q1 _)))
            refine wpQuiet_nil ?_
            intro m
            have g1 := hq2.bel (mP_below v1 m)
            have g2 := hx2.bel (mP_below v1 m)
            have g3 := hB2.trans ((mP_below v1 m).mono hB2.size)
            clear q0 q1 q2 q3 x0 x1 x2 x3 x4 x5 x6 x7 x8 x9 x10 x11 a1 Q0 Q1
            generalize mP v1 m = v2 at *
            have k0 := g1.lt
            have k1 := g1.fz
            have k2 := g2.lt
            have k3 := g2.fz
            have m0 := g1.c0
            have m1 := g1.c1
            have m2 := g1.c2
            have m3 := g1.c3
            have n0 := g2.c0
            have n1 := g2.c1
            have n2 := g2.c2
            have n3 := g2.c3
            have n4 := g2.c4
            have n5 := g2.c5
            have n6 := g2.c6
            have n7 := g2.c7
            have n8 := g2.c8
            have n9 := g2.c9
            have n10 := g2.c10
            have n11 := g2.c11
            show wpList _ _ _ [_, _] _ _
            go_wp2
            go_meet
            case rel => exact ⟨rfl, X2, h2, (g1.put (lsX X2)).putX_other hne.symm X2, (g2.put_other hne (lsX X2)).put X2, below_putX (below_put4 g3 (Nat.le_refl _) (lsX X2)) (Nat.le_of_lt hsX) X2⟩
        case rest =>
          clear hq2 hx2 hB2 hq hx hB hS ha0 ha1 hal
          obtain ⟨rfl, X2, hF, hq, hx, hB⟩ := hcut
          have F0 := fun w => like14_any X2 w hF
          unfold ls lv xs xv at F0
          have k0 := hq.lt
          have k2 := hx.lt
          have m0 := hq.c0
          have m1 := hq.c1
          have m2 := hq.c2
          have m3 := hq.c3
          have n0 := hx.c0
          have n1 := hx.c1
          have n2 := hx.c2
          have n3 := hx.c3
          have n4 := hx.c4
          have n5 := hx.c5
          have n6 := hx.c6
          have n7 := hx.c7
          have n8 := hx.c8
          have n9 := hx.c9
          have n10 := hx.c10
          have n11 := hx.c11
          go_wp2_with (go_at_call 29; refine (F0 _).mono ?_; rintro e w2 ⟨rfl, b2⟩)
          go_roundw
          case rel => exact ⟨k + 1, lsX X2, X2, by omega, by go_num, Sim.of hF, hq.bel b2, hx.bel b2, hB.trans (b2.mono hB.size)⟩
          case measure => simp [intOf]; omega
      · go_wp2
        go_ret
        exact ⟨rfl, hB.alloc hB.size _⟩
    · subst hB0
      go_wp2
      go_ret
      exact ⟨rfl, hB⟩

end Go.Proofs.Ytdbfdhfdfjdnoaa
