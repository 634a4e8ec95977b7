/- The picture unit: a sprite that is read. No law is claimed here. -/
import Derived.Test.YthldppdkheclkaaPc13
set_option linter.unusedSimpArgs false
set_option linter.unusedVariables false
namespace Go.Proofs.Ythldppdkheclkaa
open Go.RowKit Go.Great

variable {w0 v0 v v' : World} {m : Nat} {A : Nat → Value} {c : PC}

/-- a byte of the sprites -/
def spV (A : Nat → Value) (i : Nat) : Int := bI (A (10282 + i))
theorem TB.sp_is (h : TB A) (i : Nat) (hi : i < 256) : A (10282 + i) = .int .u8 (spV A i) ∧ 0 ≤ spV A i ∧ spV A i < 256 := (h.sp i hi).val
def rdW (A : Nat → Value) (c : PC) (j : Nat) (r : Int) : Int := if (bits .and .u8 (spV A (j + 2)) 128 != 0) = true then heiV c - 1 - r else r
def rdT (A : Nat → Value) (c : PC) (j : Nat) (r : Int) : Int := sadV c (spV A (j + 1)) (rdW A c j r)
def rdL (A : Nat → Value) (c : PC) (j : Nat) (r : Int) : Int := if (bits .and .u8 (spV A (j + 2)) 64 != 0) = true then revV (memV A c.up (rdT A c j r)) else memV A c.up (rdT A c j r)
def rdU (A : Nat → Value) (c : PC) (j : Nat) (r : Int) : Int := if (bits .and .u8 (spV A (j + 2)) 64 != 0) = true then revV (memV A c.up (rdT A c j r + 8)) else memV A c.up (rdT A c j r + 8)
theorem rdL_b (h : TB A) (c : PC) (j : Nat) (r : Int) : 0 ≤ rdL A c j r ∧ rdL A c j r < 256 := by
  unfold rdL; split
  · exact revV_b _
  · exact (h.mem_is _ _).2
theorem rdU_b (h : TB A) (c : PC) (j : Nat) (r : Int) : 0 ≤ rdU A c j r ∧ rdU A c j r < 256 := by
  unfold rdU; split
  · exact revV_b _
  · exact (h.mem_is _ _).2
theorem B5.put2 {n : Nat} {f : Bool} {a x l u : Int} (h : B5 v n f a x l u) (l' u' : Int) : B5 ((v.setCell ⟨n, 3, none⟩ (.int .u8 l')).setCell ⟨n, 4, none⟩ (.int .u8 u')) n f a x l' u' := by
  obtain ⟨h0, h1, h2, h3, h4, h6, h5⟩ := h
  constructor
  · simpa using h0
  · simp [go_sem, *]
  · simp [go_sem, *]
  · simp [go_sem, *]
  · simp [go_sem, *]
  · simp [go_sem, *]
  · intro i; simp [go_sem, *]

theorem size_two (v : World) (p q : Addr) (x y : Value) : ((v.setCell p x).setCell q y).heap.size = v.heap.size := by simp
set_option maxRecDepth 100000 in
set_option maxHeartbeats 4000000 in
theorem ST.rdS (h : ST w0 v0 m A c v) (j : Nat) (r : Int) (hj : j + 3 < 256) (hr : 0 ≤ r ∧ r < heiV c) :
    Calls Try.prog 88 #[.pointer (some ⟨m, 0, none⟩), .int .i64 j, .int .i64 r] v fun e v' =>
      e = .returned (sprV ((j : Int) == 0) (spV A (j + 2)) (spV A (j + 3)) (rdL A c j r) (rdU A c j r)) ∧ Below v.heap.size v v' := by
  have T := h.tb
  obtain ⟨t1, b1⟩ := T.sp_is (j + 1) (by omega)
  obtain ⟨t2, b2⟩ := T.sp_is (j + 2) (by omega)
  obtain ⟨t3, b3⟩ := T.sp_is (j + 3) (by omega)
  have Q1 := fun (u : World) (hu : ST w0 v0 m A c u) => (hu.big (10282 + (j + 1)) (.inr (.inl (by omega))) (by omega)).trans (congrArg some t1)
  have Q2 := fun (u : World) (hu : ST w0 v0 m A c u) => (hu.big (10282 + (j + 2)) (.inr (.inl (by omega))) (by omega)).trans (congrArg some t2)
  have Q3 := fun (u : World) (hu : ST w0 v0 m A c u) => (hu.big (10282 + (j + 3)) (.inr (.inl (by omega))) (by omega)).trans (congrArg some t3)
  have hH := heiV_is c
  have bW : 0 ≤ rdW A c j r ∧ rdW A c j r < heiV c := by unfold rdW; split <;> omega
  have eW : rdW A c j r = if (bits .and .u8 (spV A (j + 2)) 128 != 0) = true then heiV c - 1 - r else r := rfl
  have FT : rdT A c j r = sadV c (spV A (j + 1)) (rdW A c j r) := rfl
  have bT := sadV_b c (spV A (j + 1)) (rdW A c j r) b1 bW
  rw [← FT] at bT
  have FA := fun (u : World) (hu : ST w0 v0 m A c u) => (psadr_any hu.px (spV A (j + 1)) (rdW A c j r) b1 bW).mono fun _ _ h => And.intro h.1 h.2.symm
  rw [← FT] at FA
  have FM := fun (u : World) (hu : ST w0 v0 m A c u) => hu.mstrip (rdT A c j r) (by omega)
  have bL := (T.mem_is c.up (rdT A c j r)).2
  have bU := (T.mem_is c.up (rdT A c j r + 8)).2
  have FR := fun (u : World) => pturned_any (memV A c.up (rdT A c j r)) (memV A c.up (rdT A c j r + 8)) u bL bU
  have eL : rdL A c j r = if (bits .and .u8 (spV A (j + 2)) 64 != 0) = true then revV (memV A c.up (rdT A c j r)) else memV A c.up (rdT A c j r) := rfl
  have eU : rdU A c j r = if (bits .and .u8 (spV A (j + 2)) 64 != 0) = true then revV (memV A c.up (rdT A c j r + 8)) else memV A c.up (rdT A c j r + 8) := rfl
  have FH := fun (u : World) (hu : ST w0 v0 m A c u) => (pheight_any hu.px).mono fun _ _ h => And.intro h.1 h.2.symm
  generalize rdL A c j r = L at *
  generalize rdU A c j r = U at *
  generalize rdW A c j r = W at *
  clear FT bT
  generalize rdT A c j r = D at *
  generalize memV A c.up D = l0 at *
  generalize memV A c.up (D + 8) = u0 at *
  generalize revV l0 = l1 at *
  generalize revV u0 = u1 at *
  generalize spV A (j + 1) = p1 at *
  generalize spV A (j + 2) = p2 at *
  generalize spV A (j + 3) = p3 at *
  generalize heiV c = H at *
  clear t1 t2 t3
  have w1 : IntKind.i64.wrap ((j : Int) + 1) = (j : Int) + 1 := IntWalk.i64_in _ ⟨by omega, by omega⟩
  have w2 : IntKind.i64.wrap ((j : Int) + 2) = (j : Int) + 2 := IntWalk.i64_in _ ⟨by omega, by omega⟩
  have w3 : IntKind.i64.wrap ((j : Int) + 3) = (j : Int) + 3 := IntWalk.i64_in _ ⟨by omega, by omega⟩
  have w4 : IntKind.i64.wrap (H - 1) = H - 1 := IntWalk.i64_in _ ⟨by omega, by omega⟩
  have w5 : IntKind.i64.wrap (H - 1 - r) = H - 1 - r := IntWalk.i64_in _ ⟨by omega, by omega⟩
  have w6 : IntKind.i64.wrap p3 = p3 := IntWalk.i64_in _ ⟨by omega, by omega⟩
  have g1 : 0 ≤ (j : Int) + 1 := by omega
  have g2 : 0 ≤ (j : Int) + 2 := by omega
  have g3 : 0 ≤ (j : Int) + 3 := by omega
  have i1 : ((j : Int) + 1).toNat = j + 1 := by omega
  have i2 : ((j : Int) + 2).toNat = j + 2 := by omega
  have i3 : ((j : Int) + 3).toNat = j + 3 := by omega
  have k1 : (j : Int) + 1 < 256 := by omega
  have k2 : (j : Int) + 2 < 256 := by omega
  have k3 : (j : Int) + 3 < 256 := by omega
  go_enter Try.func88, Try.ntmps88
  go_upto_region 1 with (fail)
  have hb0 : Below v.heap.size v (v.alloc (.cells #[.bool false, .int .u8 0, .int .i64 0, .int .u8 0, .int .u8 0] 81)) := ((Ext.refl _).alloc _).below
  have hB0 := B5.made v false 0 0 0 0 81
  have h0 := h.past hb0
  have s0 : (v.alloc (.cells #[.bool false, .int .u8 0, .int .i64 0, .int .u8 0, .int .u8 0] 81)).heap.size = v.heap.size + 1 := by simp
  generalize v.alloc (.cells #[.bool false, .int .u8 0, .int .i64 0, .int .u8 0, .int .u8 0] 81) = x0 at *
  have hm := h0.lt
  have q2 := Q2 x0 h0
  have q3 := Q3 x0 h0
  obtain ⟨n0, hn0⟩ : ∃ n0, v.heap.size = n0 := ⟨_, rfl⟩
  rw [hn0] at hB0 s0 hb0 ⊢
  have al : ∀ o, Below x0.heap.size x0 (x0.alloc o).drew := fun o => ((Ext.refl x0).alloc o).drew.below
  go_region_held3 (fun x => m < x.heap.size ∧ x.cell? ⟨m, 10282 + (j + 2), none⟩ = some (.int .u8 p2) ∧ x.cell? ⟨m, 10282 + (j + 3), none⟩ = some (.int .u8 p3)) (first | assumption | exact ⟨hm, q2, q3⟩ | exact ⟨Nat.lt_of_lt_of_le hm (al _).size, ((al _).cell hm).trans q2, ((al _).cell hm).trans q3⟩) (fail)
  have hB1 : B5 (x0.alloc (.cells #[.bool ((j : Int) == 0), .int .u8 p2, .int .i64 p3, .int .u8 0, .int .u8 0] 81)).drew x0.heap.size ((j : Int) == 0) p2 p3 0 0 := (B5.made x0 _ _ _ _ _ 81).low (Below.refl _ _).drew
  have ab := al (.cells #[.bool ((j : Int) == 0), .int .u8 p2, .int .i64 p3, .int .u8 0, .int .u8 0] 81)
  have n0l : n0 ≤ x0.heap.size := by omega
  have hb1 := hb0.trans (ab.mono n0l)
  have h1 := h0.past ab
  have hm1 := h1.lt
  have hC0 := hB0.low ab
  have n1m : m ≠ n0 + 1 := by omega
  rw [s0] at hB1
  have n01 : n0 ≠ n0 + 1 := by omega
  have n0l : n0 ≤ n0 + 1 := by omega
  clear al q2 q3 hm Q2 Q3 hb0 h0 hB0 k2 k3 i2 i3 g2 g3 w2 w3 w6 ab s0
  rename_i hHeld
  clear hHeld
  generalize (x0.alloc (.cells #[.bool ((j : Int) == 0), .int .u8 p2, .int .i64 p3, .int .u8 0, .int .u8 0] 81)).drew = x1 at *
  generalize n0 + 1 = n1 at *
  generalize hf : ((j : Int) == 0) = f at *
  obtain ⟨gl1, c0, c1, c2, c3, c4, cz⟩ := hB1
  have nx1 : n0 ≤ x1.heap.size := by omega
  have q1 := Q1 x1 h1
  rcases Bool.eq_false_or_eq_true (bits .and .u8 p2 128 != 0) with e1 | e1
  · rw [if_pos e1] at eW
    replace eW := eW.symm
    subst eW
    rcases Bool.eq_false_or_eq_true (bits .and .u8 p2 64 != 0) with e2 | e2
    · rw [if_pos e2] at eL eU
      replace eL := eL.symm
      replace eU := eU.symm
      subst eL eU
      go_upto_region 4 with (go_at_call 87; refine (FH _ h1).mono ?_; rintro e y ⟨rfl, rfl⟩)
      go_region_held3 (fun x => m < x.heap.size ∧ x.cell? ⟨m, 10282 + (j + 1), none⟩ = some (.int .u8 p1)) (first | assumption | exact ⟨hm1, q1⟩ | exact ⟨Nat.lt_of_lt_of_le hm1 k2.size, (k2.cell hm1).trans q1⟩ | exact ⟨Nat.lt_of_lt_of_le hm1 (Nat.le_trans k2.size (Nat.le_of_eq (size_two _ _ _ _ _).symm)), (cell_two _ _ _ _ _ _ _ _ n1m).trans ((k2.cell hm1).trans q1)⟩) (first | (go_at_call 93; refine (FA _ (by first | exact h1 | exact h1.drew)).mono ?_; rintro e y1 ⟨rfl, rfl⟩) | (go_at_call 92; refine (FM _ (by first | exact h1 | exact h1.drew)).mono ?_; rintro e y2 ⟨rfl, k2⟩; replace k2 : Below x1.heap.size x1 y2 := (Below.refl _ _).drew.trans k2; have d0 := (k2.cell gl1).trans c0; have d1 := (k2.cell gl1).trans c1; have d2 := (k2.cell gl1).trans c2; have d3 := (k2.cell gl1).trans c3; have d4 := (k2.cell gl1).trans c4; have dz := fun i => (k2.frozen gl1).trans (cz i)))
      rename_i hHeld
      clear hHeld
      have gl2 := Nat.lt_of_lt_of_le gl1 k2.size
      have hB2 := (B5.mk gl2 d0 d1 d2 d3 d4 dz).put2 l0 u0
      have hC2 := hC0.low k2
      have hC3 : B5 ((y2.setCell ⟨n1, 3, none⟩ (.int .u8 l0)).setCell ⟨n1, 4, none⟩ (.int .u8 u0)) n0 false 0 0 0 0 := ⟨by rw [size_two]; exact hC2.lt, (cell_two _ _ _ _ _ _ _ _ n01).trans hC2.c0, (cell_two _ _ _ _ _ _ _ _ n01).trans hC2.c1, (cell_two _ _ _ _ _ _ _ _ n01).trans hC2.c2, (cell_two _ _ _ _ _ _ _ _ n01).trans hC2.c3, (cell_two _ _ _ _ _ _ _ _ n01).trans hC2.c4, fun i => by simp [go_sem]; exact hC2.fz i⟩
      have hb2 : Below n0 v ((y2.setCell ⟨n1, 3, none⟩ (.int .u8 l0)).setCell ⟨n1, 4, none⟩ (.int .u8 u0)) := (((hb1.trans (k2.mono nx1)).setCell n0l _).setCell n0l _)
      have hB3 : B5 ((y2.setCell ⟨n1, 3, none⟩ (.int .u8 l0)).setCell ⟨n1, 4, none⟩ (.int .u8 u0)) n1 f p2 p3 l0 u0 := hB2
      have hC4 : B5 ((y2.setCell ⟨n1, 3, none⟩ (.int .u8 l0)).setCell ⟨n1, 4, none⟩ (.int .u8 u0)) n0 false 0 0 0 0 := hC3
      clear hB2 hC2 hC3 d0 d1 d2 d3 d4 dz gl2 k2 c0 c1 c2 c3 c4 cz gl1 hC0 q1 hm1 h1 hb1
      generalize (y2.setCell ⟨n1, 3, none⟩ (.int .u8 l0)).setCell ⟨n1, 4, none⟩ (.int .u8 u0) = x2 at *
      obtain ⟨gl1, c0, c1, c2, c3, c4, cz⟩ := hB3
      have nx2 : n0 ≤ x2.heap.size := by omega
      go_upto_region 7 with (go_at_call 94; refine (FR _).mono ?_; rintro e y3 ⟨rfl, k3⟩; have d0 := (k3.cell gl1).trans c0; have d1 := (k3.cell gl1).trans c1; have d2 := (k3.cell gl1).trans c2; have d3 := (k3.cell gl1).trans c3; have d4 := (k3.cell gl1).trans c4; have dz := fun i => (k3.frozen gl1).trans (cz i))
      have gl2 := Nat.lt_of_lt_of_le gl1 k3.size
      have hB2 := (B5.mk gl2 d0 d1 d2 d3 d4 dz).put2 l1 u1
      have hC2 := hC4.low k3
      have hC3 : B5 ((y3.setCell ⟨n1, 3, none⟩ (.int .u8 l1)).setCell ⟨n1, 4, none⟩ (.int .u8 u1)) n0 false 0 0 0 0 := ⟨by rw [size_two]; exact hC2.lt, (cell_two _ _ _ _ _ _ _ _ n01).trans hC2.c0, (cell_two _ _ _ _ _ _ _ _ n01).trans hC2.c1, (cell_two _ _ _ _ _ _ _ _ n01).trans hC2.c2, (cell_two _ _ _ _ _ _ _ _ n01).trans hC2.c3, (cell_two _ _ _ _ _ _ _ _ n01).trans hC2.c4, fun i => by simp [go_sem]; exact hC2.fz i⟩
      have hb9 : Below n0 v ((y3.setCell ⟨n1, 3, none⟩ (.int .u8 l1)).setCell ⟨n1, 4, none⟩ (.int .u8 u1)) := (((hb2.trans (k3.mono nx2)).setCell n0l _).setCell n0l _)
      have hC9 := hC3
      clear hC2 hC3 d0 d1 d2 d3 d4 dz gl2 k3 c0 c1 c2 c3 c4 cz gl1 hC4 hb2
      generalize (y3.setCell ⟨n1, 3, none⟩ (.int .u8 l1)).setCell ⟨n1, 4, none⟩ (.int .u8 u1) = x9 at *
      obtain ⟨gl1, c0, c1, c2, c3, c4, cz⟩ := hB2
      have hP : Below v.heap.size v (put5 x9 n0 f p2 p3 l1 u1) := by rw [hn0]; exact below_put5 hb9 (Nat.le_refl _) f p2 p3 l1 u1
      have hQ := hC9.put f p2 p3 l1 u1
      obtain ⟨gl3, r0, r1, r2, r3, r4, rz⟩ := hC9
      unfold put5 at hP hQ
      go_wp2
      obtain ⟨gl4, t0, t1, t2, t3, t4, tz⟩ := hQ
      clear r0 r1 r2 r3 r4 rz
      generalize ((((x9.setCell ⟨n0, 0, none⟩ (.bool f)).setCell ⟨n0, 1, none⟩ (.int .u8 p2)).setCell ⟨n0, 2, none⟩ (.int .i64 p3)).setCell ⟨n0, 3, none⟩ (.int .u8 l1)).setCell ⟨n0, 4, none⟩ (.int .u8 u1) = x8 at *
      unfold sprV
      refine bodyPost_ret (by simp [results, Try.results88, go_sem, *] <;> (repeat' (first | exact rfl | refine And.intro ?_ ?_))) rfl ⟨rfl, hP⟩
    · rw [if_neg (by rw [e2]; decide)] at eL eU
      replace eL := eL.symm
      replace eU := eU.symm
      subst eL eU
      go_upto_region 4 with (go_at_call 87; refine (FH _ h1).mono ?_; rintro e y ⟨rfl, rfl⟩)
      go_region_held3 (fun x => m < x.heap.size ∧ x.cell? ⟨m, 10282 + (j + 1), none⟩ = some (.int .u8 p1)) (first | assumption | exact ⟨hm1, q1⟩ | exact ⟨Nat.lt_of_lt_of_le hm1 k2.size, (k2.cell hm1).trans q1⟩ | exact ⟨Nat.lt_of_lt_of_le hm1 (Nat.le_trans k2.size (Nat.le_of_eq (size_two _ _ _ _ _).symm)), (cell_two _ _ _ _ _ _ _ _ n1m).trans ((k2.cell hm1).trans q1)⟩) (first | (go_at_call 93; refine (FA _ (by first | exact h1 | exact h1.drew)).mono ?_; rintro e y1 ⟨rfl, rfl⟩) | (go_at_call 92; refine (FM _ (by first | exact h1 | exact h1.drew)).mono ?_; rintro e y2 ⟨rfl, k2⟩; replace k2 : Below x1.heap.size x1 y2 := (Below.refl _ _).drew.trans k2; have d0 := (k2.cell gl1).trans c0; have d1 := (k2.cell gl1).trans c1; have d2 := (k2.cell gl1).trans c2; have d3 := (k2.cell gl1).trans c3; have d4 := (k2.cell gl1).trans c4; have dz := fun i => (k2.frozen gl1).trans (cz i)))
      rename_i hHeld
      clear hHeld
      have gl2 := Nat.lt_of_lt_of_le gl1 k2.size
      have hB2 := (B5.mk gl2 d0 d1 d2 d3 d4 dz).put2 l0 u0
      have hC2 := hC0.low k2
      have hC3 : B5 ((y2.setCell ⟨n1, 3, none⟩ (.int .u8 l0)).setCell ⟨n1, 4, none⟩ (.int .u8 u0)) n0 false 0 0 0 0 := ⟨by rw [size_two]; exact hC2.lt, (cell_two _ _ _ _ _ _ _ _ n01).trans hC2.c0, (cell_two _ _ _ _ _ _ _ _ n01).trans hC2.c1, (cell_two _ _ _ _ _ _ _ _ n01).trans hC2.c2, (cell_two _ _ _ _ _ _ _ _ n01).trans hC2.c3, (cell_two _ _ _ _ _ _ _ _ n01).trans hC2.c4, fun i => by simp [go_sem]; exact hC2.fz i⟩
      have hb2 : Below n0 v ((y2.setCell ⟨n1, 3, none⟩ (.int .u8 l0)).setCell ⟨n1, 4, none⟩ (.int .u8 u0)) := (((hb1.trans (k2.mono nx1)).setCell n0l _).setCell n0l _)
      have hB3 : B5 ((y2.setCell ⟨n1, 3, none⟩ (.int .u8 l0)).setCell ⟨n1, 4, none⟩ (.int .u8 u0)) n1 f p2 p3 l0 u0 := hB2
      have hC4 : B5 ((y2.setCell ⟨n1, 3, none⟩ (.int .u8 l0)).setCell ⟨n1, 4, none⟩ (.int .u8 u0)) n0 false 0 0 0 0 := hC3
      clear hB2 hC2 hC3 d0 d1 d2 d3 d4 dz gl2 k2 c0 c1 c2 c3 c4 cz gl1 hC0 q1 hm1 h1 hb1
      generalize (y2.setCell ⟨n1, 3, none⟩ (.int .u8 l0)).setCell ⟨n1, 4, none⟩ (.int .u8 u0) = x2 at *
      obtain ⟨gl1, c0, c1, c2, c3, c4, cz⟩ := hB3
      have nx2 : n0 ≤ x2.heap.size := by omega
      have hC9 := hC4
      have hb9 := hb2
      have hP : Below v.heap.size v (put5 x2 n0 f p2 p3 l0 u0) := by rw [hn0]; exact below_put5 hb9 (Nat.le_refl _) f p2 p3 l0 u0
      have hQ := hC9.put f p2 p3 l0 u0
      obtain ⟨gl3, r0, r1, r2, r3, r4, rz⟩ := hC9
      unfold put5 at hP hQ
      go_wp2
      obtain ⟨gl4, t0, t1, t2, t3, t4, tz⟩ := hQ
      clear r0 r1 r2 r3 r4 rz
      generalize ((((x2.setCell ⟨n0, 0, none⟩ (.bool f)).setCell ⟨n0, 1, none⟩ (.int .u8 p2)).setCell ⟨n0, 2, none⟩ (.int .i64 p3)).setCell ⟨n0, 3, none⟩ (.int .u8 l0)).setCell ⟨n0, 4, none⟩ (.int .u8 u0) = x8 at *
      unfold sprV
      refine bodyPost_ret (by simp [results, Try.results88, go_sem, *] <;> (repeat' (first | exact rfl | refine And.intro ?_ ?_))) rfl ⟨rfl, hP⟩
  · rw [if_neg (by rw [e1]; decide)] at eW
    replace eW := eW.symm
    subst eW
    rcases Bool.eq_false_or_eq_true (bits .and .u8 p2 64 != 0) with e2 | e2
    · rw [if_pos e2] at eL eU
      replace eL := eL.symm
      replace eU := eU.symm
      subst eL eU
      go_upto_region 4 with (go_at_call 87; refine (FH _ h1).mono ?_; rintro e y ⟨rfl, rfl⟩)
      go_region_held3 (fun x => m < x.heap.size ∧ x.cell? ⟨m, 10282 + (j + 1), none⟩ = some (.int .u8 p1)) (first | assumption | exact ⟨hm1, q1⟩ | exact ⟨Nat.lt_of_lt_of_le hm1 k2.size, (k2.cell hm1).trans q1⟩ | exact ⟨Nat.lt_of_lt_of_le hm1 (Nat.le_trans k2.size (Nat.le_of_eq (size_two _ _ _ _ _).symm)), (cell_two _ _ _ _ _ _ _ _ n1m).trans ((k2.cell hm1).trans q1)⟩) (first | (go_at_call 93; refine (FA _ (by first | exact h1 | exact h1.drew)).mono ?_; rintro e y1 ⟨rfl, rfl⟩) | (go_at_call 92; refine (FM _ (by first | exact h1 | exact h1.drew)).mono ?_; rintro e y2 ⟨rfl, k2⟩; replace k2 : Below x1.heap.size x1 y2 := (Below.refl _ _).drew.trans k2; have d0 := (k2.cell gl1).trans c0; have d1 := (k2.cell gl1).trans c1; have d2 := (k2.cell gl1).trans c2; have d3 := (k2.cell gl1).trans c3; have d4 := (k2.cell gl1).trans c4; have dz := fun i => (k2.frozen gl1).trans (cz i)))
      rename_i hHeld
      clear hHeld
      have gl2 := Nat.lt_of_lt_of_le gl1 k2.size
      have hB2 := (B5.mk gl2 d0 d1 d2 d3 d4 dz).put2 l0 u0
      have hC2 := hC0.low k2
      have hC3 : B5 ((y2.setCell ⟨n1, 3, none⟩ (.int .u8 l0)).setCell ⟨n1, 4, none⟩ (.int .u8 u0)) n0 false 0 0 0 0 := ⟨by rw [size_two]; exact hC2.lt, (cell_two _ _ _ _ _ _ _ _ n01).trans hC2.c0, (cell_two _ _ _ _ _ _ _ _ n01).trans hC2.c1, (cell_two _ _ _ _ _ _ _ _ n01).trans hC2.c2, (cell_two _ _ _ _ _ _ _ _ n01).trans hC2.c3, (cell_two _ _ _ _ _ _ _ _ n01).trans hC2.c4, fun i => by simp [go_sem]; exact hC2.fz i⟩
      have hb2 : Below n0 v ((y2.setCell ⟨n1, 3, none⟩ (.int .u8 l0)).setCell ⟨n1, 4, none⟩ (.int .u8 u0)) := (((hb1.trans (k2.mono nx1)).setCell n0l _).setCell n0l _)
      have hB3 : B5 ((y2.setCell ⟨n1, 3, none⟩ (.int .u8 l0)).setCell ⟨n1, 4, none⟩ (.int .u8 u0)) n1 f p2 p3 l0 u0 := hB2
      have hC4 : B5 ((y2.setCell ⟨n1, 3, none⟩ (.int .u8 l0)).setCell ⟨n1, 4, none⟩ (.int .u8 u0)) n0 false 0 0 0 0 := hC3
      clear hB2 hC2 hC3 d0 d1 d2 d3 d4 dz gl2 k2 c0 c1 c2 c3 c4 cz gl1 hC0 q1 hm1 h1 hb1
      generalize (y2.setCell ⟨n1, 3, none⟩ (.int .u8 l0)).setCell ⟨n1, 4, none⟩ (.int .u8 u0) = x2 at *
      obtain ⟨gl1, c0, c1, c2, c3, c4, cz⟩ := hB3
      have nx2 : n0 ≤ x2.heap.size := by omega
      go_upto_region 7 with (go_at_call 94; refine (FR _).mono ?_; rintro e y3 ⟨rfl, k3⟩; have d0 := (k3.cell gl1).trans c0; have d1 := (k3.cell gl1).trans c1; have d2 := (k3.cell gl1).trans c2; have d3 := (k3.cell gl1).trans c3; have d4 := (k3.cell gl1).trans c4; have dz := fun i => (k3.frozen gl1).trans (cz i))
      have gl2 := Nat.lt_of_lt_of_le gl1 k3.size
      have hB2 := (B5.mk gl2 d0 d1 d2 d3 d4 dz).put2 l1 u1
      have hC2 := hC4.low k3
      have hC3 : B5 ((y3.setCell ⟨n1, 3, none⟩ (.int .u8 l1)).setCell ⟨n1, 4, none⟩ (.int .u8 u1)) n0 false 0 0 0 0 := ⟨by rw [size_two]; exact hC2.lt, (cell_two _ _ _ _ _ _ _ _ n01).trans hC2.c0, (cell_two _ _ _ _ _ _ _ _ n01).trans hC2.c1, (cell_two _ _ _ _ _ _ _ _ n01).trans hC2.c2, (cell_two _ _ _ _ _ _ _ _ n01).trans hC2.c3, (cell_two _ _ _ _ _ _ _ _ n01).trans hC2.c4, fun i => by simp [go_sem]; exact hC2.fz i⟩
      have hb9 : Below n0 v ((y3.setCell ⟨n1, 3, none⟩ (.int .u8 l1)).setCell ⟨n1, 4, none⟩ (.int .u8 u1)) := (((hb2.trans (k3.mono nx2)).setCell n0l _).setCell n0l _)
      have hC9 := hC3
      clear hC2 hC3 d0 d1 d2 d3 d4 dz gl2 k3 c0 c1 c2 c3 c4 cz gl1 hC4 hb2
      generalize (y3.setCell ⟨n1, 3, none⟩ (.int .u8 l1)).setCell ⟨n1, 4, none⟩ (.int .u8 u1) = x9 at *
      obtain ⟨gl1, c0, c1, c2, c3, c4, cz⟩ := hB2
      have hP : Below v.heap.size v (put5 x9 n0 f p2 p3 l1 u1) := by rw [hn0]; exact below_put5 hb9 (Nat.le_refl _) f p2 p3 l1 u1
      have hQ := hC9.put f p2 p3 l1 u1
      obtain ⟨gl3, r0, r1, r2, r3, r4, rz⟩ := hC9
      unfold put5 at hP hQ
      go_wp2
      obtain ⟨gl4, t0, t1, t2, t3, t4, tz⟩ := hQ
      clear r0 r1 r2 r3 r4 rz
      generalize ((((x9.setCell ⟨n0, 0, none⟩ (.bool f)).setCell ⟨n0, 1, none⟩ (.int .u8 p2)).setCell ⟨n0, 2, none⟩ (.int .i64 p3)).setCell ⟨n0, 3, none⟩ (.int .u8 l1)).setCell ⟨n0, 4, none⟩ (.int .u8 u1) = x8 at *
      unfold sprV
      refine bodyPost_ret (by simp [results, Try.results88, go_sem, *] <;> (repeat' (first | exact rfl | refine And.intro ?_ ?_))) rfl ⟨rfl, hP⟩
    · rw [if_neg (by rw [e2]; decide)] at eL eU
      replace eL := eL.symm
      replace eU := eU.symm
      subst eL eU
      go_upto_region 4 with (go_at_call 87; refine (FH _ h1).mono ?_; rintro e y ⟨rfl, rfl⟩)
      go_region_held3 (fun x => m < x.heap.size ∧ x.cell? ⟨m, 10282 + (j + 1), none⟩ = some (.int .u8 p1)) (first | assumption | exact ⟨hm1, q1⟩ | exact ⟨Nat.lt_of_lt_of_le hm1 k2.size, (k2.cell hm1).trans q1⟩ | exact ⟨Nat.lt_of_lt_of_le hm1 (Nat.le_trans k2.size (Nat.le_of_eq (size_two _ _ _ _ _).symm)), (cell_two _ _ _ _ _ _ _ _ n1m).trans ((k2.cell hm1).trans q1)⟩) (first | (go_at_call 93; refine (FA _ (by first | exact h1 | exact h1.drew)).mono ?_; rintro e y1 ⟨rfl, rfl⟩) | (go_at_call 92; refine (FM _ (by first | exact h1 | exact h1.drew)).mono ?_; rintro e y2 ⟨rfl, k2⟩; replace k2 : Below x1.heap.size x1 y2 := (Below.refl _ _).drew.trans k2; have d0 := (k2.cell gl1).trans c0; have d1 := (k2.cell gl1).trans c1; have d2 := (k2.cell gl1).trans c2; have d3 := (k2.cell gl1).trans c3; have d4 := (k2.cell gl1).trans c4; have dz := fun i => (k2.frozen gl1).trans (cz i)))
      rename_i hHeld
      clear hHeld
      have gl2 := Nat.lt_of_lt_of_le gl1 k2.size
      have hB2 := (B5.mk gl2 d0 d1 d2 d3 d4 dz).put2 l0 u0
      have hC2 := hC0.low k2
      have hC3 : B5 ((y2.setCell ⟨n1, 3, none⟩ (.int .u8 l0)).setCell ⟨n1, 4, none⟩ (.int .u8 u0)) n0 false 0 0 0 0 := ⟨by rw [size_two]; exact hC2.lt, (cell_two _ _ _ _ _ _ _ _ n01).trans hC2.c0, (cell_two _ _ _ _ _ _ _ _ n01).trans hC2.c1, (cell_two _ _ _ _ _ _ _ _ n01).trans hC2.c2, (cell_two _ _ _ _ _ _ _ _ n01).trans hC2.c3, (cell_two _ _ _ _ _ _ _ _ n01).trans hC2.c4, fun i => by simp [go_sem]; exact hC2.fz i⟩
      have hb2 : Below n0 v ((y2.setCell ⟨n1, 3, none⟩ (.int .u8 l0)).setCell ⟨n1, 4, none⟩ (.int .u8 u0)) := (((hb1.trans (k2.mono nx1)).setCell n0l _).setCell n0l _)
      have hB3 : B5 ((y2.setCell ⟨n1, 3, none⟩ (.int .u8 l0)).setCell ⟨n1, 4, none⟩ (.int .u8 u0)) n1 f p2 p3 l0 u0 := hB2
      have hC4 : B5 ((y2.setCell ⟨n1, 3, none⟩ (.int .u8 l0)).setCell ⟨n1, 4, none⟩ (.int .u8 u0)) n0 false 0 0 0 0 := hC3
      clear hB2 hC2 hC3 d0 d1 d2 d3 d4 dz gl2 k2 c0 c1 c2 c3 c4 cz gl1 hC0 q1 hm1 h1 hb1
      generalize (y2.setCell ⟨n1, 3, none⟩ (.int .u8 l0)).setCell ⟨n1, 4, none⟩ (.int .u8 u0) = x2 at *
      obtain ⟨gl1, c0, c1, c2, c3, c4, cz⟩ := hB3
      have nx2 : n0 ≤ x2.heap.size := by omega
      have hC9 := hC4
      have hb9 := hb2
      have hP : Below v.heap.size v (put5 x2 n0 f p2 p3 l0 u0) := by rw [hn0]; exact below_put5 hb9 (Nat.le_refl _) f p2 p3 l0 u0
      have hQ := hC9.put f p2 p3 l0 u0
      obtain ⟨gl3, r0, r1, r2, r3, r4, rz⟩ := hC9
      unfold put5 at hP hQ
      go_wp2
      obtain ⟨gl4, t0, t1, t2, t3, t4, tz⟩ := hQ
      clear r0 r1 r2 r3 r4 rz
      generalize ((((x2.setCell ⟨n0, 0, none⟩ (.bool f)).setCell ⟨n0, 1, none⟩ (.int .u8 p2)).setCell ⟨n0, 2, none⟩ (.int .i64 p3)).setCell ⟨n0, 3, none⟩ (.int .u8 l0)).setCell ⟨n0, 4, none⟩ (.int .u8 u0) = x8 at *
      unfold sprV
      refine bodyPost_ret (by simp [results, Try.results88, go_sem, *] <;> (repeat' (first | exact rfl | refine And.intro ?_ ?_))) rfl ⟨rfl, hP⟩

end Go.Proofs.Ythldppdkheclkaa
