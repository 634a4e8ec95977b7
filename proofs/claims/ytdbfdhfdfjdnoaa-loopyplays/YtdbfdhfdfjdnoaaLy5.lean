/- LoopyAddresses, LoopyScrolls (walks). No law is claimed here. -/
import Derived.Test.YtdbfdhfdfjdnoaaLy3
namespace Go.Proofs.Ytdbfdhfdfjdnoaa
open Go.RowKit

/-- a scroll in a box -/
structure B4 (v : World) (n : Nat) (s : LS) : Prop where
  lt : n < v.heap.size
  c0 : v.cell? ⟨n, 0, none⟩ = some (.int .u16 s.v)
  c1 : v.cell? ⟨n, 1, none⟩ = some (.int .u16 s.t)
  c2 : v.cell? ⟨n, 2, none⟩ = some (.int .u8 s.x)
  c3 : v.cell? ⟨n, 3, none⟩ = some (.bool s.w)
  fz : ∀ i, v.frozen? ⟨n, i, none⟩ = false
theorem B4.ext {v v' : World} {n : Nat} {s : LS} (h : B4 v n s) (hE : Ext v v') : B4 v' n s := by
  have hb := hE.below
  have hl := h.lt
  exact ⟨Nat.lt_of_lt_of_le hl hb.size, (hb.cell hl).trans h.c0, (hb.cell hl).trans h.c1, (hb.cell hl).trans h.c2, (hb.cell hl).trans h.c3, fun i => (hb.frozen hl).trans (h.fz i)⟩
def put4 (v : World) (n : Nat) (s : LS) : World :=
  (((v.setCell ⟨n, 0, none⟩ (.int .u16 s.v)).setCell ⟨n, 1, none⟩ (.int .u16 s.t)).setCell ⟨n, 2, none⟩ (.int .u8 s.x)).setCell ⟨n, 3, none⟩ (.bool s.w)
theorem B4.put {v : World} {n : Nat} {s : LS} (h : B4 v n s) (s' : LS) : B4 (put4 v n s') n s' := by
  have h0 := h.lt
  have h1 := h.c0
  have h2 := h.c1
  have h3 := h.c2
  have h4 := h.c3
  have h5 := h.fz
  unfold put4
  constructor
  · simpa using h0
  · simp [go_sem, *]
  · simp [go_sem, *]
  · simp [go_sem, *]
  · simp [go_sem, *]
  · intro i; simp [go_sem, *]
theorem B4.made (w : World) (s : LS) (t : TypeId) : B4 (w.alloc (.cells #[.int .u16 s.v, .int .u16 s.t, .int .u8 s.x, .bool s.w] t)) w.heap.size s := by
  refine ⟨by simp, ?_, ?_, ?_, ?_, fun i => by simp [go_sem]⟩ <;> exact cell_of_row _ _ _ _ _ _ (heap_alloc_new w _)
theorem B4.drewN {v : World} {n : Nat} {s : LS} (h : B4 v n s) (q : Nat) : B4 (v.drewN q) n s := ⟨h.lt, h.c0, h.c1, h.c2, h.c3, h.fz⟩
theorem below_put4 {B : Nat} {w v : World} {n : Nat} (h : Below B w v) (hn : B ≤ n) (s : LS) : Below B w (put4 v n s) := by
  unfold put4
  exact (((h.setCell hn _).setCell hn _).setCell hn _).setCell hn _

theorem look_in {s : LS} (h : LOk s) : LIn (lookL s) := by
  rw [lookL_is h]; exact ⟨by simp only; omega, by simp only; omega, by simp only; omega⟩
theorem adr2 {s : LS} (h : LOk s) (hi lo : Int) (h1 : 0 ≤ hi ∧ hi < 256) (h2 : 0 ≤ lo ∧ lo < 256) :
    adrL (adrL (lookL s) hi) lo = ⟨hi % 64 * 256 + lo, hi % 64 * 256 + lo, s.x % 8, false⟩ := by
  have a := look_in h
  rw [lookL_is h] at *
  rw [adrL_f a _ h1 rfl]
  have b : LIn { (⟨s.v % 32768, s.t % 32768, s.x % 8, false⟩ : LS) with t := s.t % 32768 % 256 + hi % 64 * 256, w := true } := ⟨a.v, by simp only; omega, a.x⟩
  rw [adrL_t b _ h2 rfl]
  apply ls_ext <;> first | rfl | (simp only; omega)

set_option maxRecDepth 100000 in
set_option maxHeartbeats 2000000 in
theorem loopyAddresses_walk (v t x : Int) (wr0 : Bool) (hi lo n : Int) (far : Bool) (w : World) (hs : LOk ⟨v, t, x, wr0⟩) (h1 : 0 ≤ hi ∧ hi < 256) (h2 : 0 ≤ lo ∧ lo < 256) (h3 : 0 ≤ n ∧ n < 256) :
    Calls Try.prog 7 #[lv v t x wr0, .int .u8 hi, .int .u8 lo, .int .u8 n, .bool far] w fun e w' => e = .returned (.bool true) ∧ Below w.heap.size w w' := by
  have FA := awake14_any
  have F1 := lyLook_any v t x wr0
  have F2 := fun s : LS => lyAddress_any s.v s.t s.x s.w hi
  have F3 := fun s : LS => lyAddress_any s.v s.t s.x s.w lo
  have a2 := adr2 hs hi lo h1 h2
  have z1 := b63 hi h1
  have hx := hs.x
  simp only at a2 hx
  have hX : 0 ≤ x % 8 ∧ x % 8 < 8 := by omega
  obtain ⟨X, eX⟩ : ∃ X, x % 8 = X := ⟨_, rfl⟩
  rw [eX] at a2 hX
  replace F2 := F2 (lookL ⟨v, t, x, wr0⟩)
  replace F3 := F3 (adrL (lookL ⟨v, t, x, wr0⟩) hi)
  simp only [a2] at F3
  clear a2 eX hx
  generalize hl : lookL ⟨v, t, x, wr0⟩ = s1 at *
  generalize adrL s1 hi = s2 at *
  obtain ⟨A, hA⟩ : ∃ A, hi % 64 * 256 + lo = A := ⟨_, rfl⟩
  have bA : 0 ≤ A ∧ A < 16384 := by omega
  rw [hA] at F3
  obtain ⟨H, hH⟩ : ∃ H, hi % 64 = H := ⟨_, rfl⟩
  have bH : 0 ≤ H ∧ H < 64 := by omega
  rw [hH] at z1 hA
  have e1 : IntKind.i64.wrap H = H := IntWalk.i64_in _ ⟨by omega, by omega⟩
  have e2 : IntKind.i64.wrap (H * 256) = H * 256 := IntWalk.i64_in _ ⟨by omega, by omega⟩
  have e3 : IntKind.i64.wrap lo = lo := IntWalk.i64_in _ ⟨by omega, by omega⟩
  have e4 : IntKind.i64.wrap A = A := IntWalk.i64_in _ ⟨by omega, by omega⟩
  have e5 : IntKind.i64.wrap n = n := IntWalk.i64_in _ ⟨by omega, by omega⟩
  unfold ls lv at F1 F2 F3
  have r1 := ext_cell
  have r2 := ext_frozen
  have r3 := ext_setCell
  have r4 := ext_lt
  have r5 := ext_drew
  have r6 := ext_ext
  have hS : ∀ k : Nat, stepL ⟨(A + (if far then 32 else 1) * k) % 32768, A, X, false⟩ far = ⟨(A + (if far then 32 else 1) * (k + 1 : Nat)) % 32768, A, X, false⟩ := fun k => by
    rw [stepL_is ⟨by simp only; omega, by simp only; omega, hX⟩]
    apply ls_ext <;> first | rfl | (cases far <;> simp only [if_true, if_false, Bool.false_eq_true] <;> omega)
  have hA0 : A % 32768 = A := by omega
  cases far
  · simp only [if_false, Bool.false_eq_true] at hS
    unfold lv
    go_enter Try.func7, Try.ntmps7
    go_upto_region 11 with (first
      | (go_at_call 10; refine (FA _).mono ?_; rintro e w1 ⟨rfl, os, q, rfl⟩)
      | (go_at_call 18; refine (F1 _).mono ?_; rintro e w2 ⟨rfl, os2, q2, rfl⟩)
      | (go_at_call_of 16 (Value.int IntKind.u8 hi); refine (F2 _).mono ?_; rintro e w2 ⟨rfl, os3, q3, rfl⟩)
      | (go_at_call_of 16 (Value.int IntKind.u8 lo); refine (F3 _).mono ?_; rintro e w2 ⟨rfl, os4, q4, rfl⟩))
    clear F1 F2 F3 FA
    go_loopw [46] (fun i wr => ∃ k : Nat, (k : Int) ≤ n ∧ i = .int .u8 k ∧ B4 wr w.heap.size ⟨(A + 1 * k) % 32768, A, X, false⟩ ∧ Below w.heap.size w wr) (fun i _ => n.toNat - (intOf i).toNat)
    case atStart =>
      refine ⟨0, by omega, rfl, ?_, ext_below ((Below.refl _ w).alloc (Nat.le_refl _) _) (by simp) _ _⟩
      rw [show (A + 1 * ((0 : Nat) : Int)) % 32768 = A by omega]
      exact (B4.made w ⟨A, A, X, false⟩ 24).ext ⟨_, _, rfl⟩
    case round =>
      obtain ⟨k, hk, rfl, hq, hb⟩ := hrel
      have c0 := hq.c0
      have c1 := hq.c1
      have c2 := hq.c2
      have c3 := hq.c3
      have cl := hq.lt
      have cf := hq.fz
      by_cases h : (k : Int) < n
      · have F4 := fun w => lyStep_any ((A + 1 * k) % 32768) A X false false w
        rw [hS] at F4
        generalize hV : (A + 1 * (k : Int)) % 32768 = V at *
        generalize hV2 : (A + 1 * ((k + 1 : Nat) : Int)) % 32768 = V2 at *
        simp only at c0 c1 c2 c3
        unfold ls lv at F4
        clear hS
        go_wp2_with (go_at_call 19; refine (F4 _).mono ?_; rintro e w2 ⟨rfl, os, q, rfl⟩)
        go_roundw
        case rel =>
          refine ⟨k + 1, by omega, by go_num, ?_, ?_⟩
          · rw [hV2]; exact (hq.put ⟨V2, A, X, false⟩).ext ⟨os, q, rfl⟩
          · exact ext_below (below_put4 hb (Nat.le_refl _) ⟨V2, A, X, false⟩) (Nat.le_trans hb.size (by simp [put4])) os q
        case measure => simp [intOf]; omega
      · have hkn : n = (k : Int) := by omega
        subst hkn
        have g1 : IntKind.i64.wrap ((A + 1 * (k : Int)) % 32768) = (A + 1 * (k : Int)) % 32768 := IntWalk.i64_in _ ⟨by omega, by omega⟩
        have g2 : IntKind.i64.wrap (1 * (k : Int)) = 1 * k := IntWalk.i64_in _ ⟨by omega, by omega⟩
        have g3 : IntKind.i64.wrap (A + 1 * (k : Int)) = A + 1 * k := IntWalk.i64_in _ ⟨by omega, by omega⟩
        have g4 : (A + 1 * (k : Int)).tmod 32768 = (A + 1 * (k : Int)) % 32768 := Int.tmod_eq_emod_of_nonneg (by omega)
        clear hS hk h
        simp only at c0 c1 c2 c3
        go_wp2
        go_ret
        exact ⟨rfl, hb⟩
  · simp only [if_true] at hS
    unfold lv
    go_enter Try.func7, Try.ntmps7
    go_upto_region 11 with (first
      | (go_at_call 10; refine (FA _).mono ?_; rintro e w1 ⟨rfl, os, q, rfl⟩)
      | (go_at_call 18; refine (F1 _).mono ?_; rintro e w2 ⟨rfl, os2, q2, rfl⟩)
      | (go_at_call_of 16 (Value.int IntKind.u8 hi); refine (F2 _).mono ?_; rintro e w2 ⟨rfl, os3, q3, rfl⟩)
      | (go_at_call_of 16 (Value.int IntKind.u8 lo); refine (F3 _).mono ?_; rintro e w2 ⟨rfl, os4, q4, rfl⟩))
    clear F1 F2 F3 FA
    go_loopw [46] (fun i wr => ∃ k : Nat, (k : Int) ≤ n ∧ i = .int .u8 k ∧ B4 wr w.heap.size ⟨(A + 32 * k) % 32768, A, X, false⟩ ∧ Below w.heap.size w wr) (fun i _ => n.toNat - (intOf i).toNat)
    case atStart =>
      refine ⟨0, by omega, rfl, ?_, ext_below ((Below.refl _ w).alloc (Nat.le_refl _) _) (by simp) _ _⟩
      rw [show (A + 32 * ((0 : Nat) : Int)) % 32768 = A by omega]
      exact (B4.made w ⟨A, A, X, false⟩ 24).ext ⟨_, _, rfl⟩
    case round =>
      obtain ⟨k, hk, rfl, hq, hb⟩ := hrel
      have c0 := hq.c0
      have c1 := hq.c1
      have c2 := hq.c2
      have c3 := hq.c3
      have cl := hq.lt
      have cf := hq.fz
      by_cases h : (k : Int) < n
      · have F4 := fun w => lyStep_any ((A + 32 * k) % 32768) A X false true w
        rw [hS] at F4
        generalize hV : (A + 32 * (k : Int)) % 32768 = V at *
        generalize hV2 : (A + 32 * ((k + 1 : Nat) : Int)) % 32768 = V2 at *
        simp only at c0 c1 c2 c3
        unfold ls lv at F4
        clear hS
        go_wp2_with (go_at_call 19; refine (F4 _).mono ?_; rintro e w2 ⟨rfl, os, q, rfl⟩)
        go_roundw
        case rel =>
          refine ⟨k + 1, by omega, by go_num, ?_, ?_⟩
          · rw [hV2]; exact (hq.put ⟨V2, A, X, false⟩).ext ⟨os, q, rfl⟩
          · exact ext_below (below_put4 hb (Nat.le_refl _) ⟨V2, A, X, false⟩) (Nat.le_trans hb.size (by simp [put4])) os q
        case measure => simp [intOf]; omega
      · have hkn : n = (k : Int) := by omega
        subst hkn
        have g1 : IntKind.i64.wrap ((A + 32 * (k : Int)) % 32768) = (A + 32 * (k : Int)) % 32768 := IntWalk.i64_in _ ⟨by omega, by omega⟩
        have g2 : IntKind.i64.wrap (32 * (k : Int)) = 32 * k := IntWalk.i64_in _ ⟨by omega, by omega⟩
        have g3 : IntKind.i64.wrap (A + 32 * (k : Int)) = A + 32 * k := IntWalk.i64_in _ ⟨by omega, by omega⟩
        have g4 : (A + 32 * (k : Int)).tmod 32768 = (A + 32 * (k : Int)) % 32768 := Int.tmod_eq_emod_of_nonneg (by omega)
        clear hS hk h
        simp only at c0 c1 c2 c3
        go_wp2
        go_ret
        exact ⟨rfl, hb⟩

end Go.Proofs.Ytdbfdhfdfjdnoaa
