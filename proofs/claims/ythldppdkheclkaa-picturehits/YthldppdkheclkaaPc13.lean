/- The picture unit: a sprite's height, its row's address, a strip that is turned. No law is claimed here. -/
import Derived.Test.YthldppdkheclkaaPc12
set_option linter.unusedSimpArgs false
set_option linter.unusedVariables false
namespace Go.Proofs.Ythldppdkheclkaa
open Go.RowKit Go.Great

variable {w0 v0 v v' : World} {m : Nat} {A : Nat → Value} {c : PC}

def heiV (c : PC) : Int := if bits .and .u8 c.con 32 = 0 then 8 else 16
theorem heiV_is (c : PC) : heiV c = 8 ∨ heiV c = 16 := by unfold heiV; split <;> simp
set_option maxRecDepth 100000 in
set_option maxHeartbeats 1000000 in
theorem pheight_any (h : PX w0 m c v) :
    Calls Try.prog 87 #[.pointer (some ⟨m, 0, none⟩)] v fun e v' => e = .returned (.int .i64 (heiV c)) ∧ v' = v := by
  obtain ⟨A, hA, hT⟩ := h
  have q1 : v.cell? ⟨m, 10277, none⟩ = some (.int .u8 c.con) := (hA.cell 10277 (by decide)).trans (congrArg some hT.con)
  unfold heiV
  generalize c.con = k at *
  by_cases e1 : bits .and .u8 k 32 = 0
  · rw [if_pos e1]
    go_enter Try.func87, Try.ntmps87
    go_wp2
    go_ret
    exact ⟨rfl, rfl⟩
  · rw [if_neg e1]
    have e2 : (bits .and .u8 k 32 != 0) = true := by simpa using e1
    go_enter Try.func87, Try.ntmps87
    go_wp2
    go_ret
    exact ⟨rfl, rfl⟩

/-- the bits of a byte from the last to the first -/
def revV (n : Int) : Int := n % 2 * 128 + n / 2 % 2 * 64 + n / 4 % 2 * 32 + n / 8 % 2 * 16 + n / 16 % 2 * 8 + n / 32 % 2 * 4 + n / 64 % 2 * 2 + n / 128 % 2
theorem revV_b (n : Int) : 0 ≤ revV n ∧ revV n < 256 := by unfold revV; omega
set_option maxRecDepth 100000 in
set_option maxHeartbeats 4000000 in
theorem brev_any (n : Int) (w : World) (hn : 0 ≤ n ∧ n < 256) :
    Calls Try.prog 101 #[.int .u8 n] w fun e w' => e = .returned (.int .u8 (revV n)) ∧ w' = w := by
  obtain ⟨j, rfl⟩ := natP n hn.1
  go_enter Try.func101, Try.ntmps101
  go_upto_region 1 with (fail)
  go_wp2
  go_ret
  refine ⟨congrArg (fun z => Ending.returned (Value.int IntKind.u8 z)) ?_, rfl⟩
  obtain ⟨n, rfl⟩ : ∃ n : Fin 256, n.val = j := ⟨⟨j, by omega⟩, rfl⟩
  revert n
  decide +kernel

/-- a strip in a box -/
structure B2 (v : World) (n : Nat) (a b : Int) : Prop where
  lt : n < v.heap.size
  c0 : v.cell? ⟨n, 0, none⟩ = some (.int .u8 a)
  c1 : v.cell? ⟨n, 1, none⟩ = some (.int .u8 b)
  fz : ∀ i, v.frozen? ⟨n, i, none⟩ = false
theorem B2.low {n : Nat} {a b : Int} (h : B2 v n a b) (hb : Below v.heap.size v v') : B2 v' n a b :=
  ⟨Nat.lt_of_lt_of_le h.lt hb.size, (hb.cell h.lt).trans h.c0, (hb.cell h.lt).trans h.c1, fun i => (hb.frozen h.lt).trans (h.fz i)⟩
theorem B2.made (w : World) (a b : Int) (t : TypeId) : B2 (w.alloc (.cells #[.int .u8 a, .int .u8 b] t)) w.heap.size a b := by
  refine ⟨by simp, ?_, ?_, fun i => by simp [go_sem]⟩ <;> exact cell_of_row _ _ _ _ _ _ (heap_alloc_new w _)
theorem cell_two (v : World) (n b i j k : Nat) (x y : Value) (h : b ≠ n) : ((v.setCell ⟨n, j, none⟩ x).setCell ⟨n, k, none⟩ y).drew.cell? ⟨b, i, none⟩ = v.cell? ⟨b, i, none⟩ := by
  simp [go_sem, h, Ne.symm h]
theorem B2.put {n : Nat} {a b : Int} (h : B2 v n a b) (a' b' : Int) : B2 ((v.setCell ⟨n, 0, none⟩ (.int .u8 a')).setCell ⟨n, 1, none⟩ (.int .u8 b')).drew n a' b' := by
  obtain ⟨h0, h1, h2, h3⟩ := h
  constructor
  · simpa using h0
  · simp [go_sem, *]
  · simp [go_sem, *]
  · intro i; simp [go_sem, *]
set_option maxRecDepth 100000 in
set_option maxHeartbeats 2000000 in
theorem pturned_any (l u : Int) (w : World) (hl : 0 ≤ l ∧ l < 256) (hu : 0 ≤ u ∧ u < 256) :
    Calls Try.prog 94 #[.agg #[.int .u8 l, .int .u8 u]] w fun e w' => e = .returned (.agg #[.int .u8 (revV l), .int .u8 (revV u)]) ∧ Below w.heap.size w w' := by
  have F1 := fun v => brev_any l v hl
  have F2 := fun v => brev_any u v hu
  generalize revV l = L at *
  generalize revV u = U at *
  go_enter Try.func94, Try.ntmps94
  go_upto_region 1 with (fail)
  have hb : Below w.heap.size w ((w.alloc (.cells #[.int .u8 l, .int .u8 u] 79)).alloc (.cells #[.int .u8 0, .int .u8 0] 79)) := (((Ext.refl w).alloc _).alloc _).below
  have k0 : B2 ((w.alloc (.cells #[.int .u8 l, .int .u8 u] 79)).alloc (.cells #[.int .u8 0, .int .u8 0] 79)) w.heap.size l u := (B2.made w l u 79).low ((Ext.refl _).alloc _).below
  have k1 : B2 ((w.alloc (.cells #[.int .u8 l, .int .u8 u] 79)).alloc (.cells #[.int .u8 0, .int .u8 0] 79)) (w.heap.size + 1) 0 0 := by
    have := B2.made (w.alloc (.cells #[.int .u8 l, .int .u8 u] 79)) 0 0 79
    rwa [show (w.alloc (.cells #[.int .u8 l, .int .u8 u] 79)).heap.size = w.heap.size + 1 by simp] at this
  generalize (w.alloc (.cells #[.int .u8 l, .int .u8 u] 79)).alloc (.cells #[.int .u8 0, .int .u8 0] 79) = v at *
  obtain ⟨hm, s0, s1, sz⟩ := k0
  have ne : w.heap.size ≠ w.heap.size + 1 := by omega
  obtain ⟨n, hn⟩ : ∃ n, w.heap.size + 1 = n := ⟨_, rfl⟩
  rw [hn] at k1 ne
  try rw [hn]
  obtain ⟨hm1, r0, r1, rz⟩ := k1
  go_region_held3 (fun x => x.cell? ⟨w.heap.size, 0, none⟩ = some (.int .u8 l) ∧ x.cell? ⟨w.heap.size, 1, none⟩ = some (.int .u8 u)) (first | assumption | exact ⟨s0, s1⟩ | exact ⟨(cell_two _ _ _ _ _ _ _ _ ne).trans s0, (cell_two _ _ _ _ _ _ _ _ ne).trans s1⟩) (first | (go_at_call_of 101 (Value.int IntKind.u8 l); refine (F1 _).mono ?_; rintro e x ⟨rfl, rfl⟩) | (go_at_call 101; refine (F2 _).mono ?_; rintro e x ⟨rfl, rfl⟩))
  have hZ : Below w.heap.size w ((v.setCell ⟨n, 0, none⟩ (.int .u8 L)).setCell ⟨n, 1, none⟩ (.int .u8 U)).drew := by
    have hle : w.heap.size ≤ n := by omega
    exact ((hb.setCell hle _).setCell hle _).drew
  have hB := (B2.mk hm1 r0 r1 rz).put L U
  clear r0 r1 rz hm1
  obtain ⟨g, r0, r1, rz⟩ := hB
  generalize ((v.setCell ⟨n, 0, none⟩ (.int .u8 L)).setCell ⟨n, 1, none⟩ (.int .u8 U)).drew = z at *
  go_wp2
  refine bodyPost_ret (by simp [results, Try.results94, go_sem, *] <;> (repeat' (first | exact rfl | refine And.intro ?_ ?_))) rfl ⟨rfl, hZ⟩

/-- where a sprite's row lies -/
def sadV (c : PC) (t r : Int) : Int :=
  if heiV c = 8 then patV t r (bits .and .u8 c.con 8 != 0)
  else if 8 ≤ r then patV (t - t % 2 + 1) (r - 8) (t % 2 != 0) else patV (t - t % 2) r (t % 2 != 0)
theorem sadV_b (c : PC) (t r : Int) (ht : 0 ≤ t ∧ t < 256) (hr : 0 ≤ r ∧ r < heiV c) : 0 ≤ sadV c t r ∧ sadV c t r < 8208 := by
  have := heiV_is c
  unfold sadV
  split
  · exact patV_b _ _ _ ht (by omega)
  · split
    · exact patV_b _ _ _ (by omega) (by omega)
    · exact patV_b _ _ _ (by omega) (by omega)
theorem andNot1 (t : Int) (ht : 0 ≤ t ∧ t < 256) : bits .andNot .u8 t 1 = t - t % 2 := by
  have H : ∀ n : Fin 256, bits .andNot .u8 (n.val : Int) 1 = (n.val : Int) - (n.val : Int) % 2 := by decide +kernel
  obtain ⟨n, rfl⟩ := natP t ht.1
  exact H ⟨n, by omega⟩
set_option maxRecDepth 100000 in
set_option maxHeartbeats 2000000 in
theorem psadr_any (h : PX w0 m c v) (t r : Int) (ht : 0 ≤ t ∧ t < 256) (hr : 0 ≤ r ∧ r < heiV c) :
    Calls Try.prog 93 #[.pointer (some ⟨m, 0, none⟩), .int .u8 t, .int .i64 r] v fun e v' => e = .returned (.int .u16 (sadV c t r)) ∧ v' = v := by
  have FH := pheight_any h
  have hi := heiV_is c
  have q1 : v.cell? ⟨m, 10277, none⟩ = some (.int .u8 c.con) := by obtain ⟨A, hA, hT⟩ := h; exact (hA.cell 10277 (by decide)).trans (congrArg some hT.con)
  unfold sadV
  have FP := fun t r u w ht hr => ppat_any t r u w ht hr
  rcases hi with e1 | e1
  · rw [if_pos e1]
    rw [e1] at FH hr
    have FP := ppat_any t r (bits .and .u8 c.con 8 != 0) v ht (by omega)
    go_enter Try.func93, Try.ntmps93
    go_wp2_with (first | (go_at_call 87; refine FH.mono ?_; clear FH; rintro e w2 ⟨rfl, rfl⟩) | (go_at_call 96; refine FP.mono ?_; clear FP; rintro e w2 ⟨rfl, rfl⟩))
    go_ret
    exact ⟨rfl, rfl⟩
  · rw [if_neg (by omega)]
    rw [e1] at FH hr
    have z0 := b1 t ht
    have z1 := andNot1 t ht
    have z2 : IntKind.u8.wrap (t - t % 2 + 1) = t - t % 2 + 1 := by rw [wrap_u8_mod]; omega
    have z3 : IntKind.i64.wrap (r - 8) = r - 8 := IntWalk.i64_in _ ⟨by omega, by omega⟩
    by_cases e2 : 8 ≤ r
    · rw [if_pos e2]
      have FP := ppat_any (t - t % 2 + 1) (r - 8) (t % 2 != 0) v (by omega) (by omega)
      generalize t - t % 2 = t2 at *
      go_enter Try.func93, Try.ntmps93
      go_wp2_with (first | (go_at_call 87; refine FH.mono ?_; clear FH; rintro e w2 ⟨rfl, rfl⟩) | (go_at_call 96; refine FP.mono ?_; clear FP; rintro e w2 ⟨rfl, rfl⟩))
      go_ret
      exact ⟨rfl, rfl⟩
    · rw [if_neg e2]
      have FP := ppat_any (t - t % 2) r (t % 2 != 0) v (by omega) (by omega)
      generalize t - t % 2 = t2 at *
      go_enter Try.func93, Try.ntmps93
      go_wp2_with (first | (go_at_call 87; refine FH.mono ?_; clear FH; rintro e w2 ⟨rfl, rfl⟩) | (go_at_call 96; refine FP.mono ?_; clear FP; rintro e w2 ⟨rfl, rfl⟩))
      go_ret
      exact ⟨rfl, rfl⟩

end Go.Proofs.Ythldppdkheclkaa
