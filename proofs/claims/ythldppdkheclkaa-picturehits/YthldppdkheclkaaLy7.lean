/- The document's scroll, places by their fields; LoopyReads (walks). No law is claimed here. -/
import Derived.Test.YthldppdkheclkaaLy6
import Derived.Test.YthldppdkheclkaaMoreQ
namespace Go.Proofs.Ythldppdkheclkaa
open Go.RowKit

/-- a place of the document, by its fields -/
structure PL where
  c : Int
  l : Int
  a : Int
  d : Int
  r : Int
def PL.n (p : PL) : Int := enc p.c p.l p.a p.d p.r
def PL.F (p : PL) : Prop := Fld p.c p.l p.a p.d p.r
def ofP (v : Int) : PL := ⟨v % 32, v / 32 % 32, v / 1024 % 2, v / 2048 % 2, v / 4096 % 8⟩
theorem ofP_n (v : Int) (h : 0 ≤ v ∧ v < 32768) : (ofP v).n = v := by unfold ofP PL.n enc; simp only; omega
theorem ofP_F (v : Int) : (ofP v).F := ⟨by show 0 ≤ v % 32 ∧ v % 32 < 32; omega, by show 0 ≤ v / 32 % 32 ∧ v / 32 % 32 < 32; omega, by show 0 ≤ v / 1024 % 2 ∧ v / 1024 % 2 < 2; omega, by show 0 ≤ v / 2048 % 2 ∧ v / 2048 % 2 < 2; omega, by show 0 ≤ v / 4096 % 8 ∧ v / 4096 % 8 < 8; omega⟩
/-- the document's scroll, by value -/
def xv (p q : PL) (x : Int) (w : Bool) : Value :=
  .agg #[.int .i64 p.c, .int .i64 p.l, .int .i64 p.a, .int .i64 p.d, .int .i64 p.r, .int .i64 q.c, .int .i64 q.l, .int .i64 q.a, .int .i64 q.d, .int .i64 q.r, .int .i64 x, .bool w]
def pv (p : PL) : Value := .agg #[.int .i64 p.c, .int .i64 p.l, .int .i64 p.a, .int .i64 p.d, .int .i64 p.r]

theorem rof_p (n : Int) (w : World) (hn : 0 ≤ n) (hn2 : n < 65536) : Calls Try.prog 72 #[.int .i64 n] w fun e w' => e = .returned (pv (ofP n)) ∧ Ext w w' := rof_any n w hn hn2

theorem own_ext {B : Nat} {u : World} {v t x : Int} {wr : Bool} (h : B + 1 < u.heap.size ∧ u.cell? ⟨B, 0, none⟩ = some (.int .u16 v) ∧ u.cell? ⟨B, 1, none⟩ = some (.int .u16 t) ∧ u.cell? ⟨B, 2, none⟩ = some (.int .u8 x) ∧ u.cell? ⟨B, 3, none⟩ = some (.bool wr)) (os : List Obj) (q : Nat) :
    B + 1 < (ext u os q).heap.size ∧ (ext u os q).cell? ⟨B, 0, none⟩ = some (.int .u16 v) ∧ (ext u os q).cell? ⟨B, 1, none⟩ = some (.int .u16 t) ∧ (ext u os q).cell? ⟨B, 2, none⟩ = some (.int .u8 x) ∧ (ext u os q).cell? ⟨B, 3, none⟩ = some (.bool wr) := by
  obtain ⟨h0, h1, h2, h3, h4⟩ := h
  have hb : ∀ i, (⟨B, i, none⟩ : Addr).block < u.heap.size := fun i => by show B < _; omega
  exact ⟨ext_lt _ _ _ _ h0, (ext_cell _ _ _ _ (hb 0)).trans h1, (ext_cell _ _ _ _ (hb 1)).trans h2, (ext_cell _ _ _ _ (hb 2)).trans h3, (ext_cell _ _ _ _ (hb 3)).trans h4⟩

/-- the document's scroll in a box -/
structure B12 (v : World) (n : Nat) (p q : PL) (x : Int) (w : Bool) : Prop where
  lt : n < v.heap.size
  c0 : v.cell? ⟨n, 0, none⟩ = some (.int .i64 p.c)
  c1 : v.cell? ⟨n, 1, none⟩ = some (.int .i64 p.l)
  c2 : v.cell? ⟨n, 2, none⟩ = some (.int .i64 p.a)
  c3 : v.cell? ⟨n, 3, none⟩ = some (.int .i64 p.d)
  c4 : v.cell? ⟨n, 4, none⟩ = some (.int .i64 p.r)
  c5 : v.cell? ⟨n, 5, none⟩ = some (.int .i64 q.c)
  c6 : v.cell? ⟨n, 6, none⟩ = some (.int .i64 q.l)
  c7 : v.cell? ⟨n, 7, none⟩ = some (.int .i64 q.a)
  c8 : v.cell? ⟨n, 8, none⟩ = some (.int .i64 q.d)
  c9 : v.cell? ⟨n, 9, none⟩ = some (.int .i64 q.r)
  c10 : v.cell? ⟨n, 10, none⟩ = some (.int .i64 x)
  c11 : v.cell? ⟨n, 11, none⟩ = some (.bool w)
  fz : ∀ i, v.frozen? ⟨n, i, none⟩ = false
theorem B12.ext {v v' : World} {n : Nat} {p q : PL} {x : Int} {w : Bool} (h : B12 v n p q x w) (hE : Ext v v') : B12 v' n p q x w := by
  have hb := hE.below
  have hl := h.lt
  exact ⟨Nat.lt_of_lt_of_le hl hb.size, (hb.cell hl).trans h.c0, (hb.cell hl).trans h.c1, (hb.cell hl).trans h.c2, (hb.cell hl).trans h.c3, (hb.cell hl).trans h.c4, (hb.cell hl).trans h.c5, (hb.cell hl).trans h.c6, (hb.cell hl).trans h.c7, (hb.cell hl).trans h.c8, (hb.cell hl).trans h.c9, (hb.cell hl).trans h.c10, (hb.cell hl).trans h.c11, fun i => (hb.frozen hl).trans (h.fz i)⟩
theorem B12.made (w : World) (p q : PL) (x : Int) (wr : Bool) (ty : TypeId) : B12 (w.alloc (.cells #[.int .i64 p.c, .int .i64 p.l, .int .i64 p.a, .int .i64 p.d, .int .i64 p.r, .int .i64 q.c, .int .i64 q.l, .int .i64 q.a, .int .i64 q.d, .int .i64 q.r, .int .i64 x, .bool wr] ty)) w.heap.size p q x wr := by
  refine ⟨by simp, ?_, ?_, ?_, ?_, ?_, ?_, ?_, ?_, ?_, ?_, ?_, ?_, fun i => by simp [go_sem]⟩ <;> exact cell_of_row _ _ _ _ _ _ (heap_alloc_new w _)

/-- a register's fields, whatever its highest bit -/
theorem mF (v : Int) (p : PL) (hv : 0 ≤ v ∧ v < 65536) (hp : ofP (v % 32768) = p) :
    bits .and .u16 v 31 = p.c ∧ bits .and .u16 v 992 = p.l * 32 ∧ bits .and .u16 v 3072 = (p.a + 2 * p.d) * 1024 ∧ bits .and .u16 v 28672 = p.r * 4096 ∧ bits .and .u16 v 4095 = p.c + 32 * p.l + 1024 * p.a + 2048 * p.d := by
  subst hp
  rw [m31 v hv, m992 v hv, m3072 v hv, m28672 v hv, m4095 v hv]
  unfold ofP
  simp only
  refine ⟨by omega, by omega, by omega, by omega, by omega⟩

set_option maxRecDepth 100000 in
set_option maxHeartbeats 1000000 in
theorem lyName_any (v t x : Int) (wr : Bool) (p : PL) (w : World) (hv : 0 ≤ v ∧ v < 65536) (hp : ofP (v % 32768) = p) :
    Calls Try.prog 97 #[lv v t x wr] w fun e w' => e = .returned (.int .u16 (8192 + (p.c + 32 * p.l + 1024 * p.a + 2048 * p.d))) ∧ Ext w w' := by
  obtain ⟨k1, k2, k3, k4, k5⟩ := mF v p hv hp
  have f : p.F := hp ▸ ofP_F _
  obtain ⟨f1, f2, f3, f4, f5⟩ := f
  obtain ⟨S, hS⟩ : ∃ S, p.c + 32 * p.l + 1024 * p.a + 2048 * p.d = S := ⟨_, rfl⟩
  rw [hS] at k5
  rw [hS]
  have hS2 : 0 ≤ S ∧ S < 4096 := by omega
  clear hS f1 f2 f3 f4 f5 hp
  unfold lv
  go_enter Try.func97, Try.ntmps97
  go_wp2
  go_ret
  exact ⟨rfl, (Ext.refl _).alloc _⟩
set_option maxRecDepth 100000 in
set_option maxHeartbeats 1000000 in
theorem lyRow_any (v t x : Int) (wr : Bool) (p : PL) (w : World) (hv : 0 ≤ v ∧ v < 65536) (hp : ofP (v % 32768) = p) :
    Calls Try.prog 98 #[lv v t x wr] w fun e w' => e = .returned (.int .u8 p.r) ∧ Ext w w' := by
  obtain ⟨k1, k2, k3, k4, k5⟩ := mF v p hv hp
  have f : p.F := hp ▸ ofP_F _
  have f5 := f.r
  have e1 : p.r * 4096 / 4096 = p.r := by omega
  clear hp f
  unfold lv
  go_enter Try.func98, Try.ntmps98
  go_wp2
  go_ret
  exact ⟨rfl, (Ext.refl _).alloc _⟩
def shAt (p : PL) : Int := 9152 + 1024 * (p.a + 2 * p.d) + 8 * (p.l / 4) + p.c / 4
def shBy (p : PL) : Int := p.c % 4 / 2 * 2 + p.l % 4 / 2 * 4
set_option maxRecDepth 100000 in
set_option maxHeartbeats 1000000 in
theorem lyShade_any (v t x : Int) (wr : Bool) (p : PL) (w : World) (hv : 0 ≤ v ∧ v < 65536) (hp : ofP (v % 32768) = p) :
    Calls Try.prog 99 #[lv v t x wr] w fun e w' => e = .returned (.tuple #[.int .u16 (shAt p), .int .u8 (shBy p)]) ∧ Ext w w' := by
  obtain ⟨k1, k2, k3, k4, k5⟩ := mF v p hv hp
  have f : p.F := hp ▸ ofP_F _
  obtain ⟨f1, f2, f3, f4, f5⟩ := f
  have e1 : p.l * 32 / 32 = p.l := by omega
  have n1 := m2 p.c (by omega)
  have n2 := m2 p.l (by omega)
  obtain ⟨A, hA⟩ : ∃ A, 9152 + (p.a + 2 * p.d) * 1024 = A := ⟨_, rfl⟩
  have bA : 9152 ≤ A ∧ A < 13000 := by omega
  have hAt : shAt p = A + p.l / 4 * 8 + p.c / 4 := by unfold shAt; omega
  have z1 : IntKind.u16.wrap (9152 + (p.a + 2 * p.d) * 1024) = A := by rw [wrap_u16_mod]; omega
  have hBy : shBy p = p.c / 2 % 2 * 2 + p.l / 2 % 2 * 4 := by unfold shBy; omega
  have d1 : p.l.tdiv 4 = p.l / 4 := Int.tdiv_eq_ediv_of_nonneg (by omega)
  have d2 : p.c.tdiv 4 = p.c / 4 := Int.tdiv_eq_ediv_of_nonneg (by omega)
  have d3 : IntKind.u16.wrap (p.l / 4) = p.l / 4 := by rw [wrap_u16_mod]; omega
  have d4 : IntKind.u16.wrap (p.c / 4) = p.c / 4 := by rw [wrap_u16_mod]; omega
  have d5 : IntKind.u16.wrap (p.l / 4 * 8) = p.l / 4 * 8 := by rw [wrap_u16_mod]; omega
  have d6 : IntKind.u16.wrap (A + p.l / 4 * 8) = A + p.l / 4 * 8 := by rw [wrap_u16_mod]; omega
  have d7 : IntKind.u16.wrap (A + p.l / 4 * 8 + p.c / 4) = A + p.l / 4 * 8 + p.c / 4 := by rw [wrap_u16_mod]; omega
  rw [hAt, hBy]
  rcases (by omega : p.c / 2 % 2 = 0 ∨ p.c / 2 % 2 = 1) with c1 | c1
  all_goals
    rcases (by omega : p.l / 2 % 2 = 0 ∨ p.l / 2 % 2 = 1) with c2 | c2
    all_goals
      rw [c1] at n1
      rw [c2] at n2
      rw [c1, c2]
      clear c1 c2 hp hA hAt hBy k5 k4
      unfold lv
      go_enter Try.func99, Try.ntmps99
      go_wp2
      refine bodyPost_ret (by simp [results, Try.results99, go_sem] <;> (repeat' (first | exact rfl | refine And.intro ?_ ?_))) rfl ⟨rfl, ?_⟩
      exact (Ext.refl _).alloc _

set_option maxRecDepth 100000 in
set_option maxHeartbeats 1000000 in
theorem rName_any (p : PL) (w : World) (f : p.F) :
    Calls Try.prog 77 #[pv p] w fun e w' => e = .returned (.int .i64 (8192 + (p.c + 32 * p.l + 1024 * p.a + 2048 * p.d))) ∧ Ext w w' := by
  obtain ⟨f1, f2, f3, f4, f5⟩ := f
  rw [show 8192 + (p.c + 32 * p.l + 1024 * p.a + 2048 * p.d) = 8192 + p.c + 32 * p.l + 1024 * p.a + 2048 * p.d by omega]
  unfold pv
  go_enter Try.func77, Try.ntmps77
  go_wp2
  go_ret
  exact ⟨rfl, (Ext.refl _).alloc _⟩
set_option maxRecDepth 100000 in
set_option maxHeartbeats 1000000 in
theorem rShade_any (p : PL) (w : World) (f : p.F) :
    Calls Try.prog 78 #[pv p] w fun e w' => e = .returned (.tuple #[.int .i64 (shAt p), .int .i64 (shBy p)]) ∧ Ext w w' := by
  obtain ⟨f1, f2, f3, f4, f5⟩ := f
  have d1 : p.l.tdiv 4 = p.l / 4 := Int.tdiv_eq_ediv_of_nonneg (by omega)
  have d2 : p.c.tdiv 4 = p.c / 4 := Int.tdiv_eq_ediv_of_nonneg (by omega)
  have d3 : p.l.tmod 4 = p.l % 4 := Int.tmod_eq_emod_of_nonneg (by omega)
  have d4 : p.c.tmod 4 = p.c % 4 := Int.tmod_eq_emod_of_nonneg (by omega)
  have d5 : (p.l % 4).tdiv 2 = p.l % 4 / 2 := Int.tdiv_eq_ediv_of_nonneg (by omega)
  have d6 : (p.c % 4).tdiv 2 = p.c % 4 / 2 := Int.tdiv_eq_ediv_of_nonneg (by omega)
  unfold pv shAt shBy
  go_enter Try.func78, Try.ntmps78
  go_upto_region 2 with (fail)
  go_quiet (fail)
  go_wp2
  refine bodyPost_ret (by simp [results, Try.results78, go_sem] <;> (repeat' (first | exact rfl | refine And.intro ?_ ?_))) rfl ?_
  exact ⟨rfl, ((Ext.refl _).alloc _).drewN _⟩

end Go.Proofs.Ythldppdkheclkaa
