/- The picture unit: strips, and the dots of tiles. No law is claimed here. -/
import Derived.Test.YthldppdkheclkaaPc5
import Derived.Test.YthldppdkheclkaaLy7
set_option linter.unusedSimpArgs false
set_option linter.unusedVariables false
namespace Go.Proofs.Ythldppdkheclkaa
open Go.RowKit Go.Great

variable {w0 v v' : World} {m : Nat} {A : Nat → Value} {c : PC}

/-- is it shown there? -/
def shwV (k a b x : Int) : Bool := !decide (bits .and .u8 k a = 0) && (decide (8 ≤ x) || !decide (bits .and .u8 k b = 0))
set_option maxRecDepth 100000 in
set_option maxHeartbeats 1000000 in
theorem pshows_any (h : PX w0 m c v) (a b x : Int) :
    Calls Try.prog 95 #[.pointer (some ⟨m, 0, none⟩), .int .u8 a, .int .u8 b, .int .i64 x] v fun e v' => e = .returned (.bool (shwV c.msk a b x)) ∧ v' = v := by
  obtain ⟨A, hA, hT⟩ := h
  have q1 : v.cell? ⟨m, 10278, none⟩ = some (.int .u8 c.msk) := (hA.cell 10278 (by decide)).trans (congrArg some hT.msk)
  unfold shwV
  generalize c.msk = k at *
  by_cases e1 : bits .and .u8 k a = 0 <;> by_cases e2 : 8 ≤ x <;> by_cases e3 : bits .and .u8 k b = 0
  all_goals
    simp only [e1, e2, e3, decide_true, decide_false, Bool.not_true, Bool.not_false, Bool.and_true, Bool.and_false, Bool.true_and, Bool.false_and, Bool.or_true, Bool.true_or, Bool.false_or, Bool.or_false]
    go_enter Try.func95, Try.ntmps95
    go_wp2
    go_ret
    exact ⟨congrArg (fun b => Ending.returned (.bool b)) (by simp [e1, e3]), rfl⟩

/-- where a row of a tile lies -/
def patV (t r : Int) (u : Bool) : Int := t * 16 + r + (if u then 4096 else 0)
theorem patV_b (t r : Int) (u : Bool) (ht : 0 ≤ t ∧ t < 256) (hr : 0 ≤ r ∧ r < 16) : 0 ≤ patV t r u ∧ patV t r u < 8208 := by
  unfold patV; cases u <;> simp <;> omega
set_option maxRecDepth 100000 in
set_option maxHeartbeats 1000000 in
theorem ppat_any (t r : Int) (u : Bool) (w : World) (ht : 0 ≤ t ∧ t < 256) (hr : 0 ≤ r ∧ r < 16) :
    Calls Try.prog 96 #[.int .u8 t, .int .i64 r, .bool u] w fun e w' => e = .returned (.int .u16 (patV t r u)) ∧ w' = w := by
  have z1 : IntKind.u16.wrap t = t := by rw [wrap_u16_mod]; omega
  have z2 : IntKind.u16.wrap r = r := by rw [wrap_u16_mod]; omega
  have z3 : IntKind.u16.wrap (t * 16) = t * 16 := by rw [wrap_u16_mod]; omega
  have z4 : IntKind.u16.wrap (t * 16 + r) = t * 16 + r := by rw [wrap_u16_mod]; omega
  have z5 : IntKind.u16.wrap (t * 16 + r + 4096) = t * 16 + r + 4096 := by rw [wrap_u16_mod]; omega
  cases u
  · have e : patV t r false = t * 16 + r := by unfold patV; simp
    rw [e]
    go_enter Try.func96, Try.ntmps96
    go_wp2
    go_ret
    exact ⟨rfl, rfl⟩
  · have e : patV t r true = t * 16 + r + 4096 := by unfold patV; simp
    rw [e]
    go_enter Try.func96, Try.ntmps96
    go_wp2
    go_ret
    exact ⟨rfl, rfl⟩

/-- the number of a strip's dot -/
def numV (l u d : Int) : Int := u / 2 ^ (7 - d).toNat % 2 * 2 + l / 2 ^ (7 - d).toNat % 2
theorem numV_b (l u d : Int) : 0 ≤ numV l u d ∧ numV l u d < 4 := by unfold numV; omega
theorem or_two (a b : Int) (ha : 0 ≤ a ∧ a < 2) (hb : 0 ≤ b ∧ b < 2) : bits .or .u8 (a * 2) b = a * 2 + b := by
  rcases (by omega : a = 0 ∨ a = 1) with rfl | rfl <;> rcases (by omega : b = 0 ∨ b = 1) with rfl | rfl <;> decide +kernel
set_option maxRecDepth 100000 in
set_option maxHeartbeats 2000000 in
theorem pnumber_any (l u d : Int) (w : World) (hl : 0 ≤ l ∧ l < 256) (hu : 0 ≤ u ∧ u < 256) (hd : 0 ≤ d ∧ d < 8) :
    Calls Try.prog 100 #[.agg #[.int .u8 l, .int .u8 u], .int .i64 d] w fun e w' => e = .returned (.int .u8 (numV l u d)) ∧ Ext w w' := by
  have hk : ∀ (y : Int), 0 ≤ y ∧ y < 256 → 0 ≤ y / 2 ^ (7 - d).toNat ∧ y / 2 ^ (7 - d).toNat < 256 := fun y hy => by
    rcases (by omega : d = 0 ∨ d = 1 ∨ d = 2 ∨ d = 3 ∨ d = 4 ∨ d = 5 ∨ d = 6 ∨ d = 7) with rfl | rfl | rfl | rfl | rfl | rfl | rfl | rfl <;> simp only [show (7 - 0 : Int).toNat = 7 from rfl, show (7 - 1 : Int).toNat = 6 from rfl, show (7 - 2 : Int).toNat = 5 from rfl, show (7 - 3 : Int).toNat = 4 from rfl, show (7 - 4 : Int).toNat = 3 from rfl, show (7 - 5 : Int).toNat = 2 from rfl, show (7 - 6 : Int).toNat = 1 from rfl, show (7 - 7 : Int).toNat = 0 from rfl] <;> omega
  have k1 := b1 _ (hk u hu)
  have k2 := b1 _ (hk l hl)
  obtain ⟨s, hs⟩ : ∃ s, 7 - d = s := ⟨_, rfl⟩
  have hs2 : 0 ≤ s ∧ s < 8 := by omega
  unfold numV
  rw [hs] at k1 k2 ⊢
  obtain ⟨U, hU⟩ : ∃ U, u / 2 ^ s.toNat = U := ⟨_, rfl⟩
  obtain ⟨L, hL⟩ : ∃ L, l / 2 ^ s.toNat = L := ⟨_, rfl⟩
  rw [hU] at k1 ⊢
  rw [hL] at k2 ⊢
  have z1 : IntKind.u8.wrap (U % 2 * 2) = U % 2 * 2 := by rw [wrap_u8_mod]; omega
  have z2 := or_two (U % 2) (L % 2) (by omega) (by omega)
  clear hk
  go_enter Try.func100, Try.ntmps100
  go_upto_region 2 with (fail)
  go_quiet (fail)
  go_wp2
  go_ret
  exact ⟨rfl, ((Ext.refl _).alloc _).drewN _⟩

set_option maxRecDepth 100000 in
set_option maxHeartbeats 2000000 in
theorem pmstrip_any (hA : PA w0 m A v) (hT : Ty c A) (a : Int) (ha : 0 ≤ a ∧ a < 65528) :
    Calls Try.prog 92 #[.pointer (some ⟨m, 0, none⟩), .int .u16 a] v fun e v' => e = .returned (.agg #[.int .u8 (memV A c.up a), .int .u8 (memV A c.up (a + 8))]) ∧ Below v.heap.size v v' := by
  have FG := fun (u : World) (hu : PA w0 m A u) => pmget_any hu hT a (by omega)
  have FH := fun (u : World) (hu : PA w0 m A u) => pmget_any hu hT (a + 8) (by omega)
  have z1 : IntKind.u16.wrap (a + 8) = a + 8 := by rw [wrap_u16_mod]; omega
  have b1 := memV_is hT a
  have b2 := memV_is hT (a + 8)
  generalize memV A c.up a = L at *
  generalize memV A c.up (a + 8) = H at *
  go_enter Try.func92, Try.ntmps92
  go_upto_region 1 with (fail)
  have hb0 : Below v.heap.size v (v.alloc (.cells #[.int .u8 0, .int .u8 0] 79)) := ((Ext.refl _).alloc _).below
  have h0 := hA.past hb0
  have hr0 := heap_alloc_new v (.cells #[.int .u8 0, .int .u8 0] 79)
  have hl0 : v.heap.size < (v.alloc (.cells #[.int .u8 0, .int .u8 0] 79)).heap.size := by simp
  generalize v.alloc (.cells #[.int .u8 0, .int .u8 0] 79) = v1 at *
  go_wp2_with (first | (go_at_call_of 50 (Value.int IntKind.u16 a); refine (FG _ h0).mono ?_; clear FG; rintro e v2 ⟨rfl, k2⟩; have h2 := h0.past k2) | (go_at_call 50; refine (FH _ h2).mono ?_; clear FH; rintro e v3 ⟨rfl, k3⟩; have hr3 := (k3.block _ (Nat.lt_of_lt_of_le hl0 k2.size)).trans ((k2.block _ hl0).trans hr0); have r0 := cell_of_row _ _ 0 _ _ _ hr3; have r1 := cell_of_row _ _ 1 _ _ _ hr3; have r2 : v3.frozen? ⟨v.heap.size, 0, none⟩ = false := (by simp [World.frozen?, hr3]); have r3 : v3.frozen? ⟨v.heap.size, 1, none⟩ = false := (by simp [World.frozen?, hr3])))
  have r0 : v3.cell? ⟨v.heap.size, 0, none⟩ = some (.int .u8 0) := r0
  have r1 : v3.cell? ⟨v.heap.size, 1, none⟩ = some (.int .u8 0) := r1
  have hl3 : v.heap.size < v3.heap.size := Nat.lt_of_lt_of_le hl0 (Nat.le_trans k2.size k3.size)
  refine bodyPost_ret (by simp [results, Try.results92, go_sem, *] <;> (repeat' (first | exact rfl | refine And.intro ?_ ?_))) rfl ⟨rfl, ?_⟩
  exact (((hb0.trans ((k2.mono (Nat.le_of_lt hl0)).trans (k3.mono (Nat.le_of_lt (Nat.lt_of_lt_of_le hl0 k2.size))))).setCell (Nat.le_refl _) _).setCell (Nat.le_refl _) _)

theorem sc_alloc {u : World} {s : LS} (h : m < u.heap.size ∧ u.cell? ⟨m, 10273, none⟩ = some (.int .u16 s.v) ∧ u.cell? ⟨m, 10274, none⟩ = some (.int .u16 s.t) ∧ u.cell? ⟨m, 10275, none⟩ = some (.int .u8 s.x) ∧ u.cell? ⟨m, 10276, none⟩ = some (.bool s.w)) (o : Obj) :
    m < (u.alloc o).heap.size ∧ (u.alloc o).cell? ⟨m, 10273, none⟩ = some (.int .u16 s.v) ∧ (u.alloc o).cell? ⟨m, 10274, none⟩ = some (.int .u16 s.t) ∧ (u.alloc o).cell? ⟨m, 10275, none⟩ = some (.int .u8 s.x) ∧ (u.alloc o).cell? ⟨m, 10276, none⟩ = some (.bool s.w) :=
  ⟨by simp; omega, (World.cell?_alloc_lt u _ _ h.1).trans h.2.1, (World.cell?_alloc_lt u _ _ h.1).trans h.2.2.1, (World.cell?_alloc_lt u _ _ h.1).trans h.2.2.2.1, (World.cell?_alloc_lt u _ _ h.1).trans h.2.2.2.2⟩
theorem sc_drew {u : World} {s : LS} (h : m < u.heap.size ∧ u.cell? ⟨m, 10273, none⟩ = some (.int .u16 s.v) ∧ u.cell? ⟨m, 10274, none⟩ = some (.int .u16 s.t) ∧ u.cell? ⟨m, 10275, none⟩ = some (.int .u8 s.x) ∧ u.cell? ⟨m, 10276, none⟩ = some (.bool s.w)) :
    m < u.drew.heap.size ∧ u.drew.cell? ⟨m, 10273, none⟩ = some (.int .u16 s.v) ∧ u.drew.cell? ⟨m, 10274, none⟩ = some (.int .u16 s.t) ∧ u.drew.cell? ⟨m, 10275, none⟩ = some (.int .u8 s.x) ∧ u.drew.cell? ⟨m, 10276, none⟩ = some (.bool s.w) := h
/-- where a tile's number lies -/
def nmA (p : PL) : Int := 8192 + (p.c + 32 * p.l + 1024 * p.a + 2048 * p.d)
/-- the place of the tile at x -/
def tilS (c : PC) (x : Int) : LS := if x % 8 + c.X < 8 then scrC c else rigL (scrC c)
def tilD (c : PC) (x : Int) : Int := if x % 8 + c.X < 8 then x % 8 + c.X else x % 8 + c.X - 8
def tilL (c : PC) (x : Int) : PL := ofP ((tilS c x).v % 32768)
def tilT (A : Nat → Value) (c : PC) (x : Int) : Int := patV (memV A c.up (nmA (tilL c x))) (tilL c x).r (bits .and .u8 c.con 16 != 0)
def tilN (A : Nat → Value) (c : PC) (x : Int) : Int := if shwV c.msk 8 2 x = true then numV (memV A c.up (tilT A c x)) (memV A c.up (tilT A c x + 8)) (tilD c x) else 0
def tilP (A : Nat → Value) (c : PC) (x : Int) : Int := if shwV c.msk 8 2 x = true then memV A c.up (shAt (tilL c x)) / 2 ^ (shBy (tilL c x)).toNat % 4 else 0

set_option maxRecDepth 100000 in
set_option maxHeartbeats 2000000 in
theorem ptileDot_no (h : PX w0 m c v) (x : Int) (hs : shwV c.msk 8 2 x = false) :
    Calls Try.prog 90 #[.pointer (some ⟨m, 0, none⟩), .int .i64 x] v fun e v' => e = .returned (.tuple #[.int .u8 0, .int .u8 0]) ∧ v' = v := by
  have FS := pshows_any h 8 2 x
  rw [hs] at FS
  go_enter Try.func90, Try.ntmps90
  go_wp2_with (go_at_call 95; refine FS.mono ?_; rintro e w2 ⟨rfl, rfl⟩)
  (first | refine bodyPost_end (results_tmp2 rfl _ _ _) rfl ?_ | refine bodyPost_ret (results_tmp2 rfl _ _ _) rfl ?_)
  exact ⟨rfl, rfl⟩

theorem B4.low {v v' : World} {n : Nat} {s : LS} (h : B4 v n s) (hb : Below v.heap.size v v') : B4 v' n s := by
  have hl := h.lt
  exact ⟨Nat.lt_of_lt_of_le hl hb.size, (hb.cell hl).trans h.c0, (hb.cell hl).trans h.c1, (hb.cell hl).trans h.c2, (hb.cell hl).trans h.c3, fun i => (hb.frozen hl).trans (h.fz i)⟩

set_option maxRecDepth 100000 in
set_option maxHeartbeats 4000000 in
theorem ptileDot_on (hA : PA w0 m A v) (hT : Ty c A) (hS : LIn (scrC c)) (x : Int) (hx : 0 ≤ x ∧ x < 256) (hs : shwV c.msk 8 2 x = true) :
    Calls Try.prog 90 #[.pointer (some ⟨m, 0, none⟩), .int .i64 x] v fun e v' => e = .returned (.tuple #[.int .u8 (tilN A c x), .int .u8 (tilP A c x)]) ∧ Below v.heap.size v v' := by
  have FS := pshows_any ⟨A, hA, hT⟩ 8 2 x
  rw [hs] at FS
  have hX : 0 ≤ c.X ∧ c.X < 8 := hS.x
  have hR : rigL (scrC c) = _ := rigL_is hS
  have FR := fun u => lyRight_any (scrC c).v (scrC c).t (scrC c).x (scrC c).w u
  rw [show (⟨(scrC c).v, (scrC c).t, (scrC c).x, (scrC c).w⟩ : LS) = scrC c from rfl] at FR
  unfold ls lv at FR
  have hV : 0 ≤ (tilS c x).v ∧ (tilS c x).v < 65536 := by
    unfold tilS
    have := hS.v
    split
    · omega
    · rw [hR]; simp only; split <;> omega
  have eN : tilN A c x = numV (memV A c.up (tilT A c x)) (memV A c.up (tilT A c x + 8)) (tilD c x) := if_pos hs
  have eP : tilP A c x = memV A c.up (shAt (tilL c x)) / 2 ^ (shBy (tilL c x)).toNat % 4 := if_pos hs
  rw [eN, eP]
  clear eN eP
  obtain ⟨N0, hN0⟩ : ∃ N0, numV (memV A c.up (tilT A c x)) (memV A c.up (tilT A c x + 8)) (tilD c x) = N0 := ⟨_, rfl⟩
  obtain ⟨P0, hP0⟩ : ∃ P0, memV A c.up (shAt (tilL c x)) / 2 ^ (shBy (tilL c x)).toNat % 4 = P0 := ⟨_, rfl⟩
  rw [hN0, hP0]
  have qX : v.cell? ⟨m, 10275, none⟩ = some (.int .u8 c.X) := (hA.cell _ (by decide)).trans (congrArg some hT.X)
  have hSC : SC v m (scrC c) := PX.sc ⟨A, hA, hT⟩
  have z1 : IntKind.i64.wrap c.X = c.X := IntWalk.i64_in _ ⟨by omega, by omega⟩
  obtain ⟨D, hD⟩ : ∃ D, x % 8 + c.X = D := ⟨_, rfl⟩
  have bD : 0 ≤ D ∧ D < 15 := by omega
  obtain ⟨s0, hs0⟩ : ∃ s0, scrC c = s0 := ⟨_, rfl⟩
  obtain ⟨s1, t1, s2, s3, y0, y1, y2, y3⟩ := hSC
  rw [hs0] at s1 t1 s2 s3 FR
  go_enter Try.func90, Try.ntmps90
  go_upto_region 3 with (go_at_call 95; refine FS.mono ?_; clear FS; rintro e v ⟨rfl, rfl⟩)
  rw [show c.X = s0.x from (by rw [← hs0]; rfl)] at qX hX hD z1
  clear qX
  have hm := hA.lt
  have t0 : x.tmod 8 = x % 8 := Int.tmod_eq_emod_of_nonneg hx.1
  have z2 : IntKind.i64.wrap D = D := IntWalk.i64_in _ ⟨by omega, by omega⟩
  go_region_held3 (fun u => m < u.heap.size ∧ u.cell? ⟨m, 10273, none⟩ = some (.int .u16 s0.v) ∧ u.cell? ⟨m, 10274, none⟩ = some (.int .u16 s0.t) ∧ u.cell? ⟨m, 10275, none⟩ = some (.int .u8 s0.x) ∧ u.cell? ⟨m, 10276, none⟩ = some (.bool s0.w)) (first | assumption | exact ⟨hm, s1, t1, s2, s3⟩ | exact sc_alloc ⟨hm, s1, t1, s2, s3⟩ _ | exact sc_drew (sc_alloc ⟨hm, s1, t1, s2, s3⟩ _)) (fail)
  have hb0 : Below v.heap.size v (v.alloc (.cells #[.int .u16 s0.v, .int .u16 s0.t, .int .u8 s0.x, .bool s0.w] 76)).drew := ((Ext.refl _).alloc _).drew.below
  have hB : B4 (v.alloc (.cells #[.int .u16 s0.v, .int .u16 s0.t, .int .u8 s0.x, .bool s0.w] 76)).drew v.heap.size s0 := (B4.made v s0 76).drewN 1
  have hA0 := hA.past hb0
  rename_i hHeld
  have hAv := hA
  clear hHeld hA s1 t1 s2 s3 y0 y1 y2 y3 hm
  generalize (v.alloc (.cells #[.int .u16 s0.v, .int .u16 s0.t, .int .u8 s0.x, .bool s0.w] 76)).drew = u at *
  by_cases h8 : D < 8
  · have e1 : tilS c x = s0 := by unfold tilS; rw [if_pos (by rw [show c.X = s0.x from (by rw [← hs0]; rfl)]; omega)]; exact hs0
    have e2 : tilD c x = D := by unfold tilD; rw [show c.X = s0.x from (by rw [← hs0]; rfl), hD, if_pos h8]
    go_upto_region 6 with (fail)
    have hBk : B4 u v.heap.size (tilS c x) := by rw [e1]; exact hB
    have hAk := hA0
    have hbk := hb0
    rw [← e2]
    clear hA0 hb0 hB FR e1 e2 z2 hD h8 bD
    obtain ⟨u2, hu2⟩ : ∃ u2, u2 = u := ⟨_, rfl⟩
    rw [← hu2] at hAk hBk hbk ⊢
    clear hu2
    obtain ⟨P, hP⟩ : ∃ P, ofP ((tilS c x).v % 32768) = P := ⟨_, rfl⟩
    have fP : P.F := hP ▸ ofP_F _
    obtain ⟨f1, f2, f3, f4, f5⟩ := fP
    have eL : tilL c x = P := hP
    have bD : 0 ≤ tilD c x ∧ tilD c x < 8 := by unfold tilD; have := hS.x; have : (scrC c).x = c.X := rfl; split <;> omega
    unfold tilT at hN0
    rw [eL] at hN0 hP0
    have bN : 0 ≤ nmA P ∧ nmA P < 65536 := by unfold nmA; omega
    have bS : 0 ≤ shAt P ∧ shAt P < 65536 := by unfold shAt; omega
    have bM := memV_is hT (nmA P)
    have bH := memV_is hT (shAt P)
    have bT := patV_b (memV A c.up (nmA P)) P.r (bits .and .u8 c.con 16 != 0) bM.2 (by omega)
    have QN := fun n => Calls.more_q (w := u2) (n := n) ((lyName_any (tilS c x).v (tilS c x).t (tilS c x).x (tilS c x).w P (mP u2 n) hV hP).mono fun _ _ hh => ⟨hh.1, hh.2.below⟩)
    have QR := fun n => Calls.more_q (w := u2) (n := n) ((lyRow_any (tilS c x).v (tilS c x).t (tilS c x).x (tilS c x).w P (mP u2 n) hV hP).mono fun _ _ hh => ⟨hh.1, hh.2.below⟩)
    have QG := fun n => Calls.more_q (w := u2) (n := n) (pmget_any (hAk.past (mP_below u2 n)) hT (nmA P) bN)
    have QP := fun n => Calls.more_q (w := u2) (n := n) ((ppat_any (memV A c.up (nmA P)) P.r (bits .and .u8 c.con 16 != 0) (mP u2 n) bM.2 (by omega)).mono fun _ _ hh => ⟨hh.1, by rw [hh.2]; exact Below.refl _ _⟩)
    have hmk := hAk.lt
    have x0 : ∀ n, (mP u2 n).cell? ⟨m, 10277, none⟩ = some (.int .u8 c.con) := fun n => mP_cell hmk ((hAk.cell _ (by decide)).trans (congrArg some hT.con)) n
    have x1 : ∀ n, (mP u2 n).cell? ⟨v.heap.size, 0, none⟩ = some (.int .u16 (tilS c x).v) := fun n => mP_cell hBk.lt hBk.c0 n
    have x2 : ∀ n, (mP u2 n).cell? ⟨v.heap.size, 1, none⟩ = some (.int .u16 (tilS c x).t) := fun n => mP_cell hBk.lt hBk.c1 n
    have x3 : ∀ n, (mP u2 n).cell? ⟨v.heap.size, 2, none⟩ = some (.int .u8 (tilS c x).x) := fun n => mP_cell hBk.lt hBk.c2 n
    have x4 : ∀ n, (mP u2 n).cell? ⟨v.heap.size, 3, none⟩ = some (.bool (tilS c x).w) := fun n => mP_cell hBk.lt hBk.c3 n
    have z4 : IntKind.i64.wrap P.r = P.r := IntWalk.i64_in _ ⟨by omega, by omega⟩
    unfold lv at QN QR
    change 0 ≤ nmA P ∧ nmA P < 65536 at bN
    rw [show 8192 + (P.c + 32 * P.l + 1024 * P.a + 2048 * P.d) = nmA P from rfl] at QN
    refine wp_region_more (by kernel_rfl) (by kernel_rfl) ?_
    repeat (go_big_quiet_step (first | (go_at_call 97; exact QN _) | (go_at_call 98; exact QR _) | (go_at_call 50; exact QG _) | (go_at_call 96; exact QP _)))
    refine wpQuiet_nil ?_
    intro w9 hw
    obtain ⟨nq, rfl⟩ := hw
    have hA7 := hAk.past (mP_below u2 nq)
    have hB7 := hBk.low (mP_below u2 nq)
    have hb7 := hbk.trans ((mP_below u2 nq).mono (Nat.le_of_lt hBk.lt))
    clear QN QR QG QP x0 x1 x2 x3 x4 hmk hAk hBk hbk bN z4
    obtain ⟨T, hTT⟩ : ∃ T, patV (memV A c.up (nmA P)) P.r (bits .and .u8 c.con 16 != 0) = T := ⟨_, rfl⟩
    rw [hTT] at hN0 bT ⊢
    clear hTT bM
    generalize mP u2 nq = u7 at *
    obtain ⟨hl7, p0, p1, p2, p3, p4⟩ := hB7
    have FSh := lyShade_any (tilS c x).v (tilS c x).t (tilS c x).x (tilS c x).w P u7 hV hP
    unfold lv at FSh
    go_upto_region 8 with (go_at_call 99; refine FSh.mono ?_; clear FSh; rintro e u8 ⟨rfl, hE8⟩)
    have hA8 := hA7.past hE8.below
    have hb8 := hb7.trans (hE8.below.mono (Nat.le_of_lt hl7))
    have hv8 : v.heap.size ≤ u8.heap.size := hb8.size
    clear hA7 hb7 hE8 p0 p1 p2 p3 p4
    have bL := memV_is hT T
    have bU := memV_is hT (T + 8)
    have bY : 0 ≤ shBy P ∧ shBy P < 8 := by unfold shBy; omega
    have bW : 0 ≤ memV A c.up (shAt P) / 2 ^ (shBy P).toNat ∧ memV A c.up (shAt P) / 2 ^ (shBy P).toNat < 256 := by
      have h1 : (0 : Int) < 2 ^ (shBy P).toNat := Int.pow_pos (by decide)
      refine ⟨Int.ediv_nonneg bH.2.1 (Int.le_of_lt h1), Int.lt_of_le_of_lt (Int.ediv_le_self _ bH.2.1) bH.2.2⟩
    have k3 := b3 _ bW
    rw [hP0] at k3
    have QS := fun n => Calls.more_q (w := u8) (n := n) (pmstrip_any (hA8.past (mP_below u8 n)) hT T ⟨bT.1, by omega⟩)
    have QU := fun n => Calls.more_q (w := u8) (n := n) ((pnumber_any (memV A c.up T) (memV A c.up (T + 8)) (tilD c x) (mP u8 n) bL.2 bU.2 bD).mono fun _ _ hh => ⟨hh.1, hh.2.below⟩)
    rw [hN0] at QU
    have QH := fun n => Calls.more_q (w := u8) (n := n) (pmget_any (hA8.past (mP_below u8 n)) hT (shAt P) bS)
    refine wp_region_more (by kernel_rfl) (by kernel_rfl) ?_
    repeat (go_big_quiet_step (first | (go_at_call 92; exact QS _) | (go_at_call 100; exact QU _) | (go_at_call 50; exact QH _)))
    refine wpQuiet_nil ?_
    intro w9 hw
    obtain ⟨nr, rfl⟩ := hw
    go_wp2
    (first | refine bodyPost_end (results_tmp2 rfl _ _ _) rfl ?_ | refine bodyPost_ret (results_tmp2 rfl _ _ _) rfl ?_)
    exact ⟨rfl, hb8.trans ((mP_below u8 nr).mono hv8)⟩
  · have e1 : tilS c x = rigL s0 := by unfold tilS; rw [if_neg (by rw [show c.X = s0.x from (by rw [← hs0]; rfl)]; omega), hs0]
    have e2 : tilD c x = D - 8 := by unfold tilD; rw [show c.X = s0.x from (by rw [← hs0]; rfl), hD, if_neg h8]
    have z3 : IntKind.i64.wrap (D - 8) = D - 8 := IntWalk.i64_in _ ⟨by omega, by omega⟩
    obtain ⟨hl, p0, p1, p2, p3, p4⟩ := hB
    go_upto_region 6 with (go_at_call 85; refine (FR _).mono ?_; clear FR; rintro e u2 ⟨rfl, hE⟩; have hA2 := hA0.past hE.below; have hB2 := (B4.mk hl p0 p1 p2 p3 p4).ext hE; clear p0 p1 p2 p3 p4; obtain ⟨hl2, p0, p1, p2, p3, p4⟩ := hB2)
    have hBk : B4 (put4 u2 v.heap.size (rigL s0)) v.heap.size (tilS c x) := by rw [e1]; exact (B4.mk hl2 p0 p1 p2 p3 p4).put _
    have hbk : Below v.heap.size v (put4 u2 v.heap.size (rigL s0)) := below_put4 (hb0.trans (hE.below.mono (Nat.le_of_lt hl))) (Nat.le_refl _) _
    have hAk : PA w0 m A (put4 u2 v.heap.size (rigL s0)) := hAv.past hbk
    unfold put4 at hAk hBk hbk
    rw [← e2]
    clear hA0 hb0 hA2 hE hl hl2 p0 p1 p2 p3 p4 e1 e2 z2 z3 hD h8 bD
    generalize (((u2.setCell ⟨v.heap.size, 0, none⟩ (.int .u16 (rigL s0).v)).setCell ⟨v.heap.size, 1, none⟩ (.int .u16 (rigL s0).t)).setCell ⟨v.heap.size, 2, none⟩ (.int .u8 (rigL s0).x)).setCell ⟨v.heap.size, 3, none⟩ (.bool (rigL s0).w) = u3 at *
    obtain ⟨P, hP⟩ : ∃ P, ofP ((tilS c x).v % 32768) = P := ⟨_, rfl⟩
    have fP : P.F := hP ▸ ofP_F _
    obtain ⟨f1, f2, f3, f4, f5⟩ := fP
    have eL : tilL c x = P := hP
    have bD : 0 ≤ tilD c x ∧ tilD c x < 8 := by unfold tilD; have := hS.x; have : (scrC c).x = c.X := rfl; split <;> omega
    unfold tilT at hN0
    rw [eL] at hN0 hP0
    have bN : 0 ≤ nmA P ∧ nmA P < 65536 := by unfold nmA; omega
    have bS : 0 ≤ shAt P ∧ shAt P < 65536 := by unfold shAt; omega
    have bM := memV_is hT (nmA P)
    have bH := memV_is hT (shAt P)
    have bT := patV_b (memV A c.up (nmA P)) P.r (bits .and .u8 c.con 16 != 0) bM.2 (by omega)
    have QN := fun n => Calls.more_q (w := u3) (n := n) ((lyName_any (tilS c x).v (tilS c x).t (tilS c x).x (tilS c x).w P (mP u3 n) hV hP).mono fun _ _ hh => ⟨hh.1, hh.2.below⟩)
    have QR := fun n => Calls.more_q (w := u3) (n := n) ((lyRow_any (tilS c x).v (tilS c x).t (tilS c x).x (tilS c x).w P (mP u3 n) hV hP).mono fun _ _ hh => ⟨hh.1, hh.2.below⟩)
    have QG := fun n => Calls.more_q (w := u3) (n := n) (pmget_any (hAk.past (mP_below u3 n)) hT (nmA P) bN)
    have QP := fun n => Calls.more_q (w := u3) (n := n) ((ppat_any (memV A c.up (nmA P)) P.r (bits .and .u8 c.con 16 != 0) (mP u3 n) bM.2 (by omega)).mono fun _ _ hh => ⟨hh.1, by rw [hh.2]; exact Below.refl _ _⟩)
    have hmk := hAk.lt
    have x0 : ∀ n, (mP u3 n).cell? ⟨m, 10277, none⟩ = some (.int .u8 c.con) := fun n => mP_cell hmk ((hAk.cell _ (by decide)).trans (congrArg some hT.con)) n
    have x1 : ∀ n, (mP u3 n).cell? ⟨v.heap.size, 0, none⟩ = some (.int .u16 (tilS c x).v) := fun n => mP_cell hBk.lt hBk.c0 n
    have x2 : ∀ n, (mP u3 n).cell? ⟨v.heap.size, 1, none⟩ = some (.int .u16 (tilS c x).t) := fun n => mP_cell hBk.lt hBk.c1 n
    have x3 : ∀ n, (mP u3 n).cell? ⟨v.heap.size, 2, none⟩ = some (.int .u8 (tilS c x).x) := fun n => mP_cell hBk.lt hBk.c2 n
    have x4 : ∀ n, (mP u3 n).cell? ⟨v.heap.size, 3, none⟩ = some (.bool (tilS c x).w) := fun n => mP_cell hBk.lt hBk.c3 n
    have z4 : IntKind.i64.wrap P.r = P.r := IntWalk.i64_in _ ⟨by omega, by omega⟩
    unfold lv at QN QR
    change 0 ≤ nmA P ∧ nmA P < 65536 at bN
    rw [show 8192 + (P.c + 32 * P.l + 1024 * P.a + 2048 * P.d) = nmA P from rfl] at QN
    refine wp_region_more (by kernel_rfl) (by kernel_rfl) ?_
    repeat (go_big_quiet_step (first | (go_at_call 97; exact QN _) | (go_at_call 98; exact QR _) | (go_at_call 50; exact QG _) | (go_at_call 96; exact QP _)))
    refine wpQuiet_nil ?_
    intro w9 hw
    obtain ⟨nq, rfl⟩ := hw
    have hA7 := hAk.past (mP_below u3 nq)
    have hB7 := hBk.low (mP_below u3 nq)
    have hb7 := hbk.trans ((mP_below u3 nq).mono (Nat.le_of_lt hBk.lt))
    clear QN QR QG QP x0 x1 x2 x3 x4 hmk hAk hBk hbk bN z4
    obtain ⟨T, hTT⟩ : ∃ T, patV (memV A c.up (nmA P)) P.r (bits .and .u8 c.con 16 != 0) = T := ⟨_, rfl⟩
    rw [hTT] at hN0 bT ⊢
    clear hTT bM
    generalize mP u3 nq = u7 at *
    obtain ⟨hl7, p0, p1, p2, p3, p4⟩ := hB7
    have FSh := lyShade_any (tilS c x).v (tilS c x).t (tilS c x).x (tilS c x).w P u7 hV hP
    unfold lv at FSh
    go_upto_region 8 with (go_at_call 99; refine FSh.mono ?_; clear FSh; rintro e u8 ⟨rfl, hE8⟩)
    have hA8 := hA7.past hE8.below
    have hb8 := hb7.trans (hE8.below.mono (Nat.le_of_lt hl7))
    have hv8 : v.heap.size ≤ u8.heap.size := hb8.size
    clear hA7 hb7 hE8 p0 p1 p2 p3 p4
    have bL := memV_is hT T
    have bU := memV_is hT (T + 8)
    have bY : 0 ≤ shBy P ∧ shBy P < 8 := by unfold shBy; omega
    have bW : 0 ≤ memV A c.up (shAt P) / 2 ^ (shBy P).toNat ∧ memV A c.up (shAt P) / 2 ^ (shBy P).toNat < 256 := by
      have h1 : (0 : Int) < 2 ^ (shBy P).toNat := Int.pow_pos (by decide)
      refine ⟨Int.ediv_nonneg bH.2.1 (Int.le_of_lt h1), Int.lt_of_le_of_lt (Int.ediv_le_self _ bH.2.1) bH.2.2⟩
    have k3 := b3 _ bW
    rw [hP0] at k3
    have QS := fun n => Calls.more_q (w := u8) (n := n) (pmstrip_any (hA8.past (mP_below u8 n)) hT T ⟨bT.1, by omega⟩)
    have QU := fun n => Calls.more_q (w := u8) (n := n) ((pnumber_any (memV A c.up T) (memV A c.up (T + 8)) (tilD c x) (mP u8 n) bL.2 bU.2 bD).mono fun _ _ hh => ⟨hh.1, hh.2.below⟩)
    rw [hN0] at QU
    have QH := fun n => Calls.more_q (w := u8) (n := n) (pmget_any (hA8.past (mP_below u8 n)) hT (shAt P) bS)
    refine wp_region_more (by kernel_rfl) (by kernel_rfl) ?_
    repeat (go_big_quiet_step (first | (go_at_call 92; exact QS _) | (go_at_call 100; exact QU _) | (go_at_call 50; exact QH _)))
    refine wpQuiet_nil ?_
    intro w9 hw
    obtain ⟨nr, rfl⟩ := hw
    go_wp2
    (first | refine bodyPost_end (results_tmp2 rfl _ _ _) rfl ?_ | refine bodyPost_ret (results_tmp2 rfl _ _ _) rfl ?_)
    exact ⟨rfl, hb8.trans ((mP_below u8 nr).mono hv8)⟩

theorem ptileDot_any (hA : PA w0 m A v) (hT : Ty c A) (hS : LIn (scrC c)) (x : Int) (hx : 0 ≤ x ∧ x < 256) :
    Calls Try.prog 90 #[.pointer (some ⟨m, 0, none⟩), .int .i64 x] v fun e v' => e = .returned (.tuple #[.int .u8 (tilN A c x), .int .u8 (tilP A c x)]) ∧ Below v.heap.size v v' := by
  by_cases hs : shwV c.msk 8 2 x = true
  · exact ptileDot_on hA hT hS x hx hs
  · have hs2 : shwV c.msk 8 2 x = false := by simpa using hs
    have e1 : tilN A c x = 0 := if_neg hs
    have e2 : tilP A c x = 0 := if_neg hs
    rw [e1, e2]
    exact (ptileDot_no ⟨A, hA, hT⟩ x hs2).mono fun _ _ hh => ⟨hh.1, by rw [hh.2]; exact Below.refl _ _⟩
theorem tilN_b (A : Nat → Value) (c : PC) (x : Int) : 0 ≤ tilN A c x ∧ tilN A c x < 4 := by
  unfold tilN; split
  · exact numV_b _ _ _
  · decide
theorem tilP_b (A : Nat → Value) (c : PC) (x : Int) : 0 ≤ tilP A c x ∧ tilP A c x < 4 := by
  unfold tilP; split
  · omega
  · decide

end Go.Proofs.Ythldppdkheclkaa
