/- The picture unit: the dots of sprites. No law is claimed here. -/
import Derived.Test.YthldppdkheclkaaPc7
set_option linter.unusedSimpArgs false
set_option linter.unusedVariables false
namespace Go.Proofs.Ythldppdkheclkaa
open Go.RowKit Go.Great

variable {w0 v v' : World} {m : Nat} {A : Nat → Value} {c : PC}

@[go_sem] theorem size_spr (w : World) : (sizeOf 81).run Try.prog w = .ok 5 w := by kernel_rfl
@[go_sem] theorem elem_sprs : Try.prog.elem 82 = 81 := by kernel_rfl
@[go_sem] theorem len_sprs : Try.prog.arrayLen 82 = 8 := by kernel_rfl
@[go_sem] theorem elem_sspr : Try.prog.elem 126 = 81 := by kernel_rfl

/-- a sprite in a box -/
structure B5 (v : World) (n : Nat) (f : Bool) (a x l u : Int) : Prop where
  lt : n < v.heap.size
  c0 : v.cell? ⟨n, 0, none⟩ = some (.bool f)
  c1 : v.cell? ⟨n, 1, none⟩ = some (.int .u8 a)
  c2 : v.cell? ⟨n, 2, none⟩ = some (.int .i64 x)
  c3 : v.cell? ⟨n, 3, none⟩ = some (.int .u8 l)
  c4 : v.cell? ⟨n, 4, none⟩ = some (.int .u8 u)
  fz : ∀ i, v.frozen? ⟨n, i, none⟩ = false
theorem B5.low {n : Nat} {f : Bool} {a x l u : Int} (h : B5 v n f a x l u) (hb : Below v.heap.size v v') : B5 v' n f a x l u := by
  have hl := h.lt
  exact ⟨Nat.lt_of_lt_of_le hl hb.size, (hb.cell hl).trans h.c0, (hb.cell hl).trans h.c1, (hb.cell hl).trans h.c2, (hb.cell hl).trans h.c3, (hb.cell hl).trans h.c4, fun i => (hb.frozen hl).trans (h.fz i)⟩
theorem B5.made (w : World) (f : Bool) (a x l u : Int) (t : TypeId) : B5 (w.alloc (.cells #[.bool f, .int .u8 a, .int .i64 x, .int .u8 l, .int .u8 u] t)) w.heap.size f a x l u := by
  refine ⟨by simp, ?_, ?_, ?_, ?_, ?_, fun i => by simp [go_sem]⟩ <;> exact cell_of_row _ _ _ _ _ _ (heap_alloc_new w _)
def put5 (v : World) (n : Nat) (f : Bool) (a x l u : Int) : World :=
  ((((v.setCell ⟨n, 0, none⟩ (.bool f)).setCell ⟨n, 1, none⟩ (.int .u8 a)).setCell ⟨n, 2, none⟩ (.int .i64 x)).setCell ⟨n, 3, none⟩ (.int .u8 l)).setCell ⟨n, 4, none⟩ (.int .u8 u)
theorem B5.put {n : Nat} {f : Bool} {a x l u : Int} (h : B5 v n f a x l u) (f' : Bool) (a' x' l' u' : Int) : B5 (put5 v n f' a' x' l' u') n f' a' x' l' u' := by
  have h0 := h.lt
  have h1 := h.c0
  have h2 := h.c1
  have h3 := h.c2
  have h4 := h.c3
  have h6 := h.c4
  have h5 := h.fz
  unfold put5
  constructor
  · simpa using h0
  · simp [go_sem, *]
  · simp [go_sem, *]
  · simp [go_sem, *]
  · simp [go_sem, *]
  · simp [go_sem, *]
  · intro i; simp [go_sem, *]
theorem below_put5 {B : Nat} {w v : World} {n : Nat} (h : Below B w v) (hn : B ≤ n) (f : Bool) (a x l u : Int) : Below B w (put5 v n f a x l u) := by
  unfold put5
  exact ((((h.setCell hn _).setCell hn _).setCell hn _).setCell hn _).setCell hn _

/-- a truth's value -/
def bB (y : Value) : Bool := match y with | .bool b => b | _ => false
def selF (A : Nat → Value) (i : Nat) : Bool := bB (A (10538 + 5 * i))
def selA (A : Nat → Value) (i : Nat) : Int := bI (A (10538 + 5 * i + 1))
def selX (A : Nat → Value) (i : Nat) : Int := bI (A (10538 + 5 * i + 2))
def selL (A : Nat → Value) (i : Nat) : Int := bI (A (10538 + 5 * i + 3))
def selU (A : Nat → Value) (i : Nat) : Int := bI (A (10538 + 5 * i + 4))
structure SelOk (A : Nat → Value) (i : Nat) : Prop where
  f : A (10538 + 5 * i) = .bool (selF A i)
  a : A (10538 + 5 * i + 1) = .int .u8 (selA A i)
  x : A (10538 + 5 * i + 2) = .int .i64 (selX A i)
  l : A (10538 + 5 * i + 3) = .int .u8 (selL A i)
  u : A (10538 + 5 * i + 4) = .int .u8 (selU A i)
  ba : 0 ≤ selA A i ∧ selA A i < 256
  bx : 0 ≤ selX A i ∧ selX A i < 256
  bl : 0 ≤ selL A i ∧ selL A i < 256
  bu : 0 ≤ selU A i ∧ selU A i < 256
theorem Ty.selOk (hT : Ty c A) (i : Nat) (hi : i < 8) : SelOk A i := by
  obtain ⟨f, a, x, l, u, h0, h1, h2, h3, h4, b1, b2, b3, b4⟩ := hT.sel i hi
  have e0 : selF A i = f := by unfold selF; rw [h0]; rfl
  have e1 : selA A i = a := by unfold selA; rw [h1]; rfl
  have e2 : selX A i = x := by unfold selX; rw [h2]; rfl
  have e3 : selL A i = l := by unfold selL; rw [h3]; rfl
  have e4 : selU A i = u := by unfold selU; rw [h4]; rfl
  constructor <;> simp only [e0, e1, e2, e3, e4] <;> assumption
/-- has it a dot at x? -/
def hitS (A : Nat → Value) (x : Int) (i : Nat) : Bool := decide (0 ≤ x - selX A i) && decide (x - selX A i < 8) && decide (numV (selL A i) (selU A i) (x - selX A i) ≠ 0)
/-- the first that has -/
def fstS (A : Nat → Value) (n : Nat) (x : Int) : Option Nat := (List.range n).find? (hitS A x)
theorem fstS_some {A : Nat → Value} {n j : Nat} {x : Int} (hj : j < n) (h : hitS A x j = true) (hn : ∀ i, i < j → hitS A x i = false) : fstS A n x = some j := by
  unfold fstS
  rw [List.find?_range_eq_some]
  exact ⟨h, by simpa using hj, fun i hi => by simpa using hn i hi⟩
theorem fstS_none {A : Nat → Value} {n : Nat} {x : Int} (hn : ∀ i, i < n → hitS A x i = false) : fstS A n x = none := by
  unfold fstS
  rw [List.find?_eq_none]
  intro i hi
  simpa using hn i (by simpa using hi)
/-- what spriteDot tells -/
def sprR (A : Nat → Value) (c : PC) (x : Int) : Value × Int :=
  if shwV c.msk 16 4 x = true then
    match fstS A c.cnt.toNat x with
    | some i => (sprV (selF A i) (selA A i) (selX A i) (selL A i) (selU A i), numV (selL A i) (selU A i) (x - selX A i))
    | none => (sprV false 0 0 0 0, 0)
  else (sprV false 0 0 0 0, 0)

set_option maxRecDepth 100000 in
set_option maxHeartbeats 2000000 in
theorem pspriteDot_no (h : PX w0 m c v) (x : Int) (hs : shwV c.msk 16 4 x = false) :
    Calls Try.prog 91 #[.pointer (some ⟨m, 0, none⟩), .int .i64 x] v fun e v' => e = .returned (.tuple #[sprV false 0 0 0 0, .int .u8 0]) ∧ Below v.heap.size v v' := by
  have FS := fun (u : World) (hu : PX w0 m c u) => pshows_any hu 16 4 x
  rw [hs] at FS
  unfold sprV
  go_enter Try.func91, Try.ntmps91
  go_upto_region 1 with (fail)
  have hb : Below v.heap.size v (v.alloc (.cells #[.bool false, .int .u8 0, .int .i64 0, .int .u8 0, .int .u8 0] 81)) := ((Ext.refl _).alloc _).below
  have h1 := h.past hb
  have ha := heap_alloc_new v (.cells #[.bool false, .int .u8 0, .int .i64 0, .int .u8 0, .int .u8 0] 81)
  go_wp2_with (go_at_call 95; refine (FS _ h1).mono ?_; rintro e w2 ⟨rfl, rfl⟩)
  (first | refine bodyPost_end (results_row_tmp rfl _ _ v.heap.size 81 #[.bool false, .int .u8 0, .int .i64 0, .int .u8 0, .int .u8 0] (0, 0) _ rfl ?_ Try.underlying81 rfl (by kernel_rfl)) rfl ⟨rfl, ?_⟩ | refine bodyPost_ret (results_row_tmp rfl _ _ v.heap.size 81 #[.bool false, .int .u8 0, .int .i64 0, .int .u8 0, .int .u8 0] (0, 0) _ rfl ?_ Try.underlying81 rfl (by kernel_rfl)) rfl ⟨rfl, ?_⟩)
  all_goals clear FS h1 hb ha
  · exact heap_alloc_new v _
  · exact ((Ext.refl _).alloc _).below

set_option maxRecDepth 100000 in
set_option maxHeartbeats 4000000 in
theorem pspriteDot_on (hA : PA w0 m A v) (hT : Ty c A) (hn : 0 ≤ c.cnt ∧ c.cnt ≤ 8) (x : Int) (hx : 0 ≤ x ∧ x < 256) (hs : shwV c.msk 16 4 x = true) :
    Calls Try.prog 91 #[.pointer (some ⟨m, 0, none⟩), .int .i64 x] v fun e v' => e = .returned (.tuple #[(sprR A c x).1, .int .u8 (sprR A c x).2]) ∧ Below v.heap.size v v' := by
  have FS := fun (u : World) (hu : PX w0 m c u) => pshows_any hu 16 4 x
  rw [hs] at FS
  obtain ⟨n, hn1⟩ := natP c.cnt hn.1
  have hn2 : n ≤ 8 := by omega
  have eS : ∀ i, fstS A n x = some i → sprR A c x = (sprV (selF A i) (selA A i) (selX A i) (selL A i) (selU A i), numV (selL A i) (selU A i) (x - selX A i)) := fun i hi => by
    unfold sprR; rw [if_pos hs, hn1, show ((n : Int)).toNat = n from rfl, hi]
  have eN : fstS A n x = none → sprR A c x = (sprV false 0 0 0 0, 0) := fun hi => by
    unfold sprR; rw [if_pos hs, hn1, show ((n : Int)).toNat = n from rfl, hi]
  have qn : ∀ (u : World), PA w0 m A u → u.cell? ⟨m, 10578, none⟩ = some (.int .i64 n) := fun u hu => (hu.cell 10578 (by decide)).trans (congrArg some (hT.cnt.trans (by rw [hn1])))
  generalize sprR A c x = R at *
  have b1n : 0 ≤ (n : Int) := by omega
  have b2n : (n : Int) ≤ 8 := by omega
  go_enter Try.func91, Try.ntmps91
  go_upto_region 1 with (fail)
  have hb0 : Below v.heap.size v (v.alloc (.cells #[.bool false, .int .u8 0, .int .i64 0, .int .u8 0, .int .u8 0] 81)) := ((Ext.refl _).alloc _).below
  have hB0 := B5.made v false 0 0 0 0 81
  have hAv := hA
  generalize v.alloc (.cells #[.bool false, .int .u8 0, .int .i64 0, .int .u8 0, .int .u8 0] 81) = u at *
  have hA0 := hA.past hb0
  have q1 := qn u hA0
  go_upto_region 3 with (go_at_call 95; refine (FS _ ⟨A, hA0, hT⟩).mono ?_; clear FS; rintro e u ⟨rfl, rfl⟩)
  go_quiet (fail)
  go_upto_region 4 with (fail)
  have hbU : Below v.heap.size v (u.drewN nq) := hb0.trans ((still_below _ _ _).mono hb0.size)
  have hBU : B5 (u.drewN nq) v.heap.size false 0 0 0 0 := hB0.low (still_below _ _ _)
  generalize u.drewN nq = u1 at *
  clear q1 hA0 hB0 hb0 qn hA
  go_loopw [24] (fun i wr => ∃ j : Nat, i = .int .i64 j ∧ j ≤ n ∧ (∀ i, i < j → hitS A x i = false) ∧ Below v.heap.size v wr ∧ B5 wr v.heap.size false 0 0 0 0) (fun i _ => n - (intOf i).toNat)
  case atStart => exact ⟨0, rfl, by omega, fun i hi => absurd hi (by omega), hbU, hBU⟩
  case round =>
    clear hbU hBU
    obtain ⟨v1, rfl⟩ : ∃ v1, v1 = wr := ⟨wr, rfl⟩
    obtain ⟨j, rfl, hj, hno, hb, hB⟩ := hrel
    have hA1 := hAv.past hb
    by_cases t1 : (j : Int) < n
    · have hjn : j < n := by omega
      have S := hT.selOk j (by omega)
      have q0 : v1.cell? ⟨m, 10538 + j * 5, none⟩ = some (.bool (selF A j)) := by have := (hA1.cell (10538 + 5 * j) (by omega)).trans (congrArg some S.f); rwa [Nat.mul_comm 5 j] at this
      have q1 : v1.cell? ⟨m, 10538 + j * 5 + 1, none⟩ = some (.int .u8 (selA A j)) := by have := (hA1.cell (10538 + 5 * j + 1) (by omega)).trans (congrArg some S.a); rwa [Nat.mul_comm 5 j] at this
      have q2 : v1.cell? ⟨m, 10538 + j * 5 + 2, none⟩ = some (.int .i64 (selX A j)) := by have := (hA1.cell (10538 + 5 * j + 2) (by omega)).trans (congrArg some S.x); rwa [Nat.mul_comm 5 j] at this
      have q3 : v1.cell? ⟨m, 10538 + j * 5 + 3, none⟩ = some (.int .u8 (selL A j)) := by have := (hA1.cell (10538 + 5 * j + 3) (by omega)).trans (congrArg some S.l); rwa [Nat.mul_comm 5 j] at this
      have q4 : v1.cell? ⟨m, 10538 + j * 5 + 4, none⟩ = some (.int .u8 (selU A j)) := by have := (hA1.cell (10538 + 5 * j + 4) (by omega)).trans (congrArg some S.u); rwa [Nat.mul_comm 5 j] at this
      have eH : hitS A x j = (decide (0 ≤ x - selX A j) && decide (x - selX A j < 8) && decide (numV (selL A j) (selU A j) (x - selX A j) ≠ 0)) := rfl
      have bX := S.bx
      have bL := S.bl
      have bU := S.bu
      have eR := eS j
      obtain ⟨D, hD⟩ : ∃ D, x - selX A j = D := ⟨_, rfl⟩
      rw [hD] at eH eR
      have zD : IntKind.i64.wrap D = D := IntWalk.i64_in _ ⟨by omega, by omega⟩
      have FN := fun u (hd : 0 ≤ D ∧ D < 8) => pnumber_any (selL A j) (selU A j) D u bL bU hd
      clear S eS eN
      generalize selF A j = f at *
      generalize selA A j = a at *
      generalize selX A j = X at *
      generalize selL A j = l at *
      generalize selU A j = u at *
      generalize numV l u D = N at *
      go_upto_region 6 with (fail)
      have hbA : Below v.heap.size v (v1.alloc (.cells #[.bool f, .int .u8 a, .int .i64 X, .int .u8 l, .int .u8 u] 81)) := hb.trans ((((Ext.refl v1).alloc _).below).mono hb.size)
      have hBA : B5 (v1.alloc (.cells #[.bool f, .int .u8 a, .int .i64 X, .int .u8 l, .int .u8 u] 81)) v.heap.size false 0 0 0 0 := hB.low ((Ext.refl v1).alloc _).below
      have hCA := B5.made v1 f a X l u 81
      generalize v1.alloc (.cells #[.bool f, .int .u8 a, .int .i64 X, .int .u8 l, .int .u8 u] 81) = v2 at *
      clear q0 q1 q2 q3 q4 hA1 hB hb
      obtain ⟨gl0, g0, g1, g2, g3, g4, gz⟩ := hCA
      rcases (by omega : D < 0 ∨ 8 ≤ D ∨ (0 ≤ D ∧ D < 8)) with d0 | d0 | d0
      · have e1 : hitS A x j = false := by rw [eH]; simp; omega
        go_wp2
        go_roundw
        case rel => exact ⟨j + 1, by go_num, by omega, fun i hi => by rcases (by omega : i < j ∨ i = j) with h | rfl; exact hno i h; exact e1, hbA, hBA⟩
        case measure => simp [intOf]; omega
      · have e1 : hitS A x j = false := by rw [eH]; simp; omega
        go_wp2
        go_roundw
        case rel => exact ⟨j + 1, by go_num, by omega, fun i hi => by rcases (by omega : i < j ∨ i = j) with h | rfl; exact hno i h; exact e1, hbA, hBA⟩
        case measure => simp [intOf]; omega
      · by_cases hN : N = 0
        · have e1 : hitS A x j = false := by rw [eH, hN]; simp
          subst hN
          go_wp2_with (go_at_call 100; refine (FN _ d0).mono ?_; clear FN; rintro e v3 ⟨rfl, hE⟩; have hbB := hbA.trans (hE.below.mono hbA.size); have hBB := hBA.low hE.below)
          go_roundw
          case rel => exact ⟨j + 1, by go_num, by omega, fun i hi => by rcases (by omega : i < j ∨ i = j) with h | rfl; exact hno i h; exact e1, hbB, hBB⟩
          case measure => simp [intOf]; omega
        · have e1 : hitS A x j = true := by rw [eH]; simp [hN]; omega
          have eR2 := eR (fstS_some hjn e1 hno)
          unfold sprV at eR2
          clear eR eH hno e1
          subst eR2
          go_upto_region 10 with (go_at_call 100; refine (FN _ d0).mono ?_; clear FN; rintro e v3 ⟨rfl, hE⟩; have hbB := hbA.trans (hE.below.mono hbA.size); have hBB := hBA.low hE.below; have hCB := (B5.mk gl0 g0 g1 g2 g3 g4 gz).low hE.below; clear g0 g1 g2 g3 g4 gz)
          obtain ⟨gl1, g0, g1, g2, g3, g4, gz⟩ := hCB
          have hP : Below v.heap.size v (put5 v3 v.heap.size f a X l u) := below_put5 hbB (Nat.le_refl _) f a X l u
          have hQ := hBB.put f a X l u
          obtain ⟨gl2, p0, p1, p2, p3, p4, pz⟩ := hBB
          unfold put5 at hP hQ
          go_wp2
          obtain ⟨gl3, r0, r1, r2, r3, r4, rz⟩ := hQ
          clear p0 p1 p2 p3 p4 pz g0 g1 g2 g3 g4 gz
          generalize ((((v3.setCell ⟨v.heap.size, 0, none⟩ (.bool f)).setCell ⟨v.heap.size, 1, none⟩ (.int .u8 a)).setCell ⟨v.heap.size, 2, none⟩ (.int .i64 X)).setCell ⟨v.heap.size, 3, none⟩ (.int .u8 l)).setCell ⟨v.heap.size, 4, none⟩ (.int .u8 u) = v4 at *
          refine bodyPost_ret (by simp [results, Try.results91, go_sem, *] <;> (repeat' (first | exact rfl | refine And.intro ?_ ?_))) rfl ⟨rfl, hP⟩
    · have ej : j = n := by omega
      subst ej
      have eR2 := eN (fstS_none hno)
      unfold sprV at eR2
      clear eS eN
      subst eR2
      have hP : Below v.heap.size v (put5 v1 v.heap.size false 0 0 0 0) := below_put5 hb (Nat.le_refl _) false 0 0 0 0
      have hQ := hB.put false 0 0 0 0
      obtain ⟨gl2, p0, p1, p2, p3, p4, pz⟩ := hB
      unfold put5 at hP hQ
      go_wp2
      obtain ⟨gl3, r0, r1, r2, r3, r4, rz⟩ := hQ
      clear p0 p1 p2 p3 p4 pz
      generalize ((((v1.setCell ⟨v.heap.size, 0, none⟩ (.bool false)).setCell ⟨v.heap.size, 1, none⟩ (.int .u8 0)).setCell ⟨v.heap.size, 2, none⟩ (.int .i64 0)).setCell ⟨v.heap.size, 3, none⟩ (.int .u8 0)).setCell ⟨v.heap.size, 4, none⟩ (.int .u8 0) = v4 at *
      refine bodyPost_ret (by simp [results, Try.results91, go_sem, *] <;> (repeat' (first | exact rfl | refine And.intro ?_ ?_))) rfl ⟨rfl, hP⟩

/-- which sprite is seen at x -/
def sprI (A : Nat → Value) (c : PC) (x : Int) : Option Nat := if shwV c.msk 16 4 x = true then fstS A c.cnt.toNat x else none
def spF (A : Nat → Value) (c : PC) (x : Int) : Bool := match sprI A c x with | some i => selF A i | none => false
def spA (A : Nat → Value) (c : PC) (x : Int) : Int := match sprI A c x with | some i => selA A i | none => 0
def spX (A : Nat → Value) (c : PC) (x : Int) : Int := match sprI A c x with | some i => selX A i | none => 0
def spL (A : Nat → Value) (c : PC) (x : Int) : Int := match sprI A c x with | some i => selL A i | none => 0
def spU (A : Nat → Value) (c : PC) (x : Int) : Int := match sprI A c x with | some i => selU A i | none => 0
def spN (A : Nat → Value) (c : PC) (x : Int) : Int := match sprI A c x with | some i => numV (selL A i) (selU A i) (x - selX A i) | none => 0
theorem sprR_is (A : Nat → Value) (c : PC) (x : Int) : sprR A c x = (sprV (spF A c x) (spA A c x) (spX A c x) (spL A c x) (spU A c x), spN A c x) := by
  unfold sprR spF spA spX spL spU spN
  have e : sprI A c x = if shwV c.msk 16 4 x = true then fstS A c.cnt.toNat x else none := rfl
  by_cases h : shwV c.msk 16 4 x = true
  · rw [if_pos h] at e ⊢
    cases k : fstS A c.cnt.toNat x <;> rw [k] at e <;> simp only [e]
  · rw [if_neg h] at e ⊢
    simp only [e]
theorem spN_b (A : Nat → Value) (c : PC) (x : Int) : 0 ≤ spN A c x ∧ spN A c x < 4 := by
  unfold spN; split
  · exact numV_b _ _ _
  · decide
theorem sprI_lt {A : Nat → Value} {c : PC} {x : Int} (hn : 0 ≤ c.cnt ∧ c.cnt ≤ 8) {i : Nat} (h : sprI A c x = some i) : i < 8 := by
  unfold sprI at h
  split at h
  · unfold fstS at h
    have := List.mem_of_find?_eq_some h
    have : i < c.cnt.toNat := by simpa using this
    omega
  · simp at h
theorem spA_b (hT : Ty c A) (hn : 0 ≤ c.cnt ∧ c.cnt ≤ 8) (x : Int) : 0 ≤ spA A c x ∧ spA A c x < 256 := by
  unfold spA; split
  · rename_i i h; exact (hT.selOk i (sprI_lt hn h)).ba
  · decide
theorem pspriteDot_any (hA : PA w0 m A v) (hT : Ty c A) (hn : 0 ≤ c.cnt ∧ c.cnt ≤ 8) (x : Int) (hx : 0 ≤ x ∧ x < 256) :
    Calls Try.prog 91 #[.pointer (some ⟨m, 0, none⟩), .int .i64 x] v fun e v' => e = .returned (.tuple #[sprV (spF A c x) (spA A c x) (spX A c x) (spL A c x) (spU A c x), .int .u8 (spN A c x)]) ∧ Below v.heap.size v v' := by
  have e := sprR_is A c x
  by_cases hs : shwV c.msk 16 4 x = true
  · have := pspriteDot_on hA hT hn x hx hs
    rwa [e] at this
  · have hs2 : shwV c.msk 16 4 x = false := by simpa using hs
    have e2 : sprR A c x = (sprV false 0 0 0 0, 0) := if_neg hs
    have := pspriteDot_no ⟨A, hA, hT⟩ x hs2
    rw [e2] at e
    have e3 := congrArg Prod.fst e
    have e4 := congrArg Prod.snd e
    simp only at e3 e4
    rwa [e3, e4] at this

end Go.Proofs.Ythldppdkheclkaa
