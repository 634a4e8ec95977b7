/- The document's pad (kotatsuref16): rows of bits. No law is claimed here. -/
import Derived.Test.YtahoebnlihgobaaPad2
import Derived.Test.YtahoebnlihgobaaMore
namespace Go.Proofs.Ytahoebnlihgobaa
open Go.RowKit

/-- k bits of a number, the lowest first -/
def bitsL : Nat → Int → List Int
  | 0, _ => []
  | k + 1, n => n % 2 :: bitsL k (n / 2)
theorem bitsL_len (k : Nat) : ∀ n, (bitsL k n).length = k := by
  induction k with
  | zero => intro n; rfl
  | succ k ih => intro n; simp [bitsL, ih]
/-- bits so far, and the rest -/
def BitsTo (j : Nat) (z : Int) (done full : List Int) : Prop := full = done ++ bitsL (8 - j) z
theorem BitsTo.next {j : Nat} {z : Int} {done full : List Int} (h : BitsTo j z done full) (hj : j < 8) : BitsTo (j + 1) (z / 2) (done ++ [z % 2]) full := by
  unfold BitsTo at *
  rw [show 8 - j = (8 - (j + 1)) + 1 from by omega] at h
  rw [h]; simp [bitsL]
theorem BitsTo.done {j : Nat} {z : Int} {done full : List Int} (h : BitsTo j z done full) (hj : ¬ j < 8) : done = full := by
  unfold BitsTo at *
  rw [show 8 - j = 0 from by omega] at h
  rw [h]; simp [bitsL]

set_option maxRecDepth 100000 in
set_option maxHeartbeats 1000000 in
theorem qbits_any (b : Int) (w : World) (hb : 0 ≤ b) (hb2 : b < 256) :
    Calls Try.prog 21 #[.int .i64 b] w (RetL iv 3 w (bitsL 8 b)) := by
  have HT : BitsTo 0 b [] (bitsL 8 b) := by simp [BitsTo]
  generalize bitsL 8 b = full at *
  obtain ⟨i0, hi, hz0, hz1, hz2⟩ := info_parts Try.infoInt
  go_enter Try.func21, Try.ntmps21
  go_wp2
  go_loopw [0, 3, 4] (fun mv v i wr => ∃ (j : Nat) (z : Int) (done : List Int) (A' : Option Addr) (n' c' : Nat), j ≤ 8 ∧ i = .int .i64 j ∧ mv = .int .i64 z ∧ 0 ≤ z ∧ z < 256 ∧ v = .slice A' n' c' ∧ n' ≤ j ∧
      Own iv wr w.heap.size 3 A' n' c' done ∧ BitsTo j z done full ∧ Below w.heap.size w wr)
    (fun _ _ i _ => 8 - (intOf i).toNat)
  case atStart => exact ⟨0, b, [], none, 0, 0, Nat.zero_le _, rfl, rfl, hb, hb2, rfl, Nat.le_refl _, Own.empty _ _ _ _, HT, Below.refl _ _⟩
  case round =>
    obtain ⟨j, z, done, A', n', c', hj, rfl, rfl, hz, hz3, rfl, hn', hown, hQ, hb⟩ := hrel
    have hsz := hb.size
    by_cases hlt : j < 8
    · have t1 : (j : Int) < 8 := by omega
      have hr1 := Rd.one (f := iv) wr 3 (z % 2)
      have HR := Lib.hid hr1
      clear hr1
      go_wp2_with (at_builtin; refine wpList_app _ oneCell_iv rfl (.tmp 9) (.tmp 12) _ rfl w.heap.size 3 i0 _ 8 Try.underlying26 hi hz0 hz1 hz2 rfl A' n' c' _ rfl (hown.alloc _) _ _ 1 1 _ rfl HR.out (by simp only [maxLen]; omega) (by omega) (by simp; omega) ?_; intro A3 c3 w3 hown3 hb3 _)
      go_roundw
      case rel =>
        exact ⟨j + 1, z / 2, _, A3, n' + 1, c3, by omega, by go_num, rfl, by omega, by omega, rfl, by omega, hown3, hQ.next hlt, hb.trans (((Below.refl _ _).alloc (by omega) _).trans hb3)⟩
      case measure => simp [intOf]; omega
    · have t1 : ¬ ((j : Int) < 8) := by omega
      go_wp2
      go_ret
      have e := hQ.done hlt
      subst e
      exact ⟨A', n', c', rfl, hown, hb⟩

/-- a pad's value as the document has it -/
def qv (h : Int) (A : Option Addr) (c : Nat) (t : Bool) : Value := .agg #[.int .i64 h, .slice A 8 c, .bool t]
/-- .. its row, in a block of which S holds -/
structure Rs (w : World) (S : Nat → Prop) (A : Option Addr) (c : Nat) (row : List Int) : Prop where
  len : row.length = 8
  cap : 8 ≤ c
  at_ : ∃ g off, A = some ⟨g, off, none⟩ ∧ g < w.heap.size ∧ S g ∧ ∀ j, (h : j < row.length) → w.cell? ⟨g, off + j, none⟩ = some (iv row[j])
def RetP (S : Nat → Prop) (w : World) (h : Int) (row : List Int) (t : Bool) (r : Ending) (w' : World) : Prop :=
  ∃ A c, r = .returned (qv h A c t) ∧ Rs w' S A c row ∧ Below w.heap.size w w'
theorem Own.rs {w : World} {base c : Nat} {e : TypeId} {A : Option Addr} {xs : List Int} {S : Nat → Prop} (h : Own iv w base e A 8 c xs) (hS : ∀ k, base ≤ k → S k) : Rs w S A c xs := by
  have hr := h.rd
  obtain ⟨g, rfl⟩ := h.zero (by omega)
  refine ⟨hr.len, hr.cap, g, 0, rfl, (h.lt g rfl).2, hS _ (h.lt g rfl).1, fun j hj => ?_⟩
  obtain ⟨b, off, e, _, hc⟩ := hr.at_ j hj
  simp at e
  obtain ⟨rfl, rfl⟩ := e
  exact hc
/-- a row that was made, where older blocks were written since -/
theorem Own.rsOver {w v v' : World} {base c : Nat} {e : TypeId} {A : Option Addr} {xs : List Int} {os : List Obj} {d : Nat} {S : Nat → Prop} (h : Own iv (more w os d) base e A 8 c xs) (hs : v.heap.size = w.heap.size) (hb : w.heap.size ≤ base) (hS : ∀ k, base ≤ k → S k) (he : v' = more v os d) : Rs v' S A c xs := by
  subst he
  obtain ⟨h1, h2, g, off, rfl, h3, h4, h5⟩ := h.rs hS
  have hbb := (h.lt g rfl).1
  exact ⟨h1, h2, g, off, rfl, by rw [more_size hs]; exact h3, h4, fun j hj => (more_new hs os d _ (by show w.heap.size ≤ g; omega)).trans (h5 j hj)⟩
theorem Rs.up {w w' : World} {S : Nat → Prop} {A : Option Addr} {c : Nat} {xs : List Int} (h : Rs w S A c xs) (hb : Below w.heap.size w w') : Rs w' S A c xs := by
  obtain ⟨h1, h2, g, off, rfl, h3, h4, h5⟩ := h
  exact ⟨h1, h2, g, off, rfl, Nat.lt_of_lt_of_le h3 hb.size, h4, fun j hj => (hb.cell (p := ⟨g, off + j, none⟩) h3).trans (h5 j hj)⟩
theorem Rs.other {w w' : World} {S : Nat → Prop} {A : Option Addr} {c : Nat} {xs : List Int} {n : Nat} (h : Rs w S A c xs) (hc : Ch n w w') (hS : ∀ k, S k → k ≠ n) : Rs w' S A c xs := by
  obtain ⟨h1, h2, g, off, rfl, h3, h4, h5⟩ := h
  exact ⟨h1, h2, g, off, rfl, by rw [hc.size]; exact h3, h4, fun j hj => (hc.cell ⟨g, off + j, none⟩ (hS _ h4)).trans (h5 j hj)⟩

set_option maxRecDepth 100000 in
set_option maxHeartbeats 1000000 in
theorem qnew_any (S : Nat → Prop) (w : World) (hS : ∀ k, w.heap.size ≤ k → S k) : Calls Try.prog 9 #[] w (RetP S w 0 (bitsL 8 0) false) := by
  have m1 := more_cell
  have m2 := more_frozen
  have m3 := more_setCell
  have m4 := more_lt
  go_enter Try.func9, Try.ntmps9
  go_wp2_with (go_at_call 21; refine (qbits_any _ _ (by omega) (by omega)).mono ?_; rintro e w' ⟨A2, n2, c2, rfl, ho, hbl⟩; have hn2 : n2 = 8 := (by rw [← ho.len, bitsL_len]); subst hn2; obtain ⟨os, d, rfl⟩ := more_of hbl)
  refine bodyPost_ret (by simp [results, Try.results9, go_sem, *] <;> (repeat' (first | exact rfl | refine And.intro ?_ ?_))) rfl ⟨A2, c2, rfl, ?_⟩
  exact ⟨ho.rsOver (by simp) (by simp) (fun k hk => hS k (by simp at hk; omega)) rfl, more_below ((Below.refl _ _).alloc (Nat.le_refl _) _) (by simp) _ _⟩

set_option maxRecDepth 100000 in
set_option maxHeartbeats 1000000 in
theorem qhold_any (h : Int) (A : Option Addr) (c : Nat) (t : Bool) (row : List Int) (b : Int) (S : Nat → Prop) (w : World) (hS : ∀ k, w.heap.size ≤ k → S k) (hr : Rs w S A c row) (hb : 0 ≤ b) (hb2 : b < 256) :
    Calls Try.prog 13 #[qv h A c t, .int .i64 b] w (RetP S w b (if t then bitsL 8 b else row) t) := by
  have m1 := more_cell
  have m2 := more_frozen
  have m3 := more_setCell
  have m4 := more_lt
  unfold qv
  cases t
  · rw [if_neg (by decide)]
    go_enter Try.func13, Try.ntmps13
    go_wp2
    refine bodyPost_ret (by simp [results, Try.results13, go_sem, *] <;> (repeat' (first | exact rfl | refine And.intro ?_ ?_))) rfl ⟨A, c, rfl, ?_⟩
    have hB : ∀ o1 o2, Below w.heap.size w ((w.alloc o1).alloc o2) := fun o1 o2 => (((Ext.refl w).alloc o1).alloc o2).below
    exact ⟨hr.up (hB _ _), hB _ _⟩
  · rw [if_pos rfl]
    go_enter Try.func13, Try.ntmps13
    go_wp2_with (go_at_call 21; refine (qbits_any _ _ (by omega) (by omega)).mono ?_; rintro e w' ⟨A2, n2, c2, rfl, ho, hbl⟩; have hn2 : n2 = 8 := (by rw [← ho.len, bitsL_len]); subst hn2; obtain ⟨os, d, rfl⟩ := more_of hbl)
    refine bodyPost_ret (by simp [results, Try.results13, go_sem, *] <;> (repeat' (first | exact rfl | refine And.intro ?_ ?_))) rfl ⟨A2, c2, rfl, ?_⟩
    exact ⟨ho.rsOver (by simp) (by simp) (fun k hk => hS k (by simp at hk; omega)) rfl, more_below (((Ext.refl w).alloc _).alloc _).below (by simp; omega) _ _⟩

set_option maxRecDepth 100000 in
set_option maxHeartbeats 1000000 in
theorem qput_any (h : Int) (A : Option Addr) (c : Nat) (t : Bool) (row : List Int) (b : Int) (S : Nat → Prop) (w : World) (hS : ∀ k, w.heap.size ≤ k → S k) (hr : Rs w S A c row) (hb : 0 ≤ b) (hh : 0 ≤ h) (hh2 : h < 256) :
    Calls Try.prog 11 #[qv h A c t, .int .i64 b] w (RetP S w h (if b % 2 = 1 then bitsL 8 h else row) (decide (b % 2 = 1))) := by
  have m1 := more_cell
  have m2 := more_frozen
  have m3 := more_setCell
  have m4 := more_lt
  unfold qv
  by_cases hx : b % 2 = 1
  · rw [if_pos hx, decide_eq_true hx]
    go_enter Try.func11, Try.ntmps11
    go_wp2_with (go_at_call 21; refine (qbits_any _ _ (by omega) (by omega)).mono ?_; rintro e w' ⟨A2, n2, c2, rfl, ho, hbl⟩; have hn2 : n2 = 8 := (by rw [← ho.len, bitsL_len]); subst hn2; obtain ⟨os, d, rfl⟩ := more_of hbl)
    refine bodyPost_ret (by simp [results, Try.results11, go_sem, *] <;> (repeat' (first | exact rfl | refine And.intro ?_ ?_))) rfl ⟨A2, c2, rfl, ?_⟩
    exact ⟨ho.rsOver (by simp) (by simp) (fun k hk => hS k (by simp at hk; omega)) rfl, more_below (((Ext.refl w).alloc _).alloc _).below (by simp; omega) _ _⟩
  · rw [if_neg hx, decide_eq_false hx]
    go_enter Try.func11, Try.ntmps11
    go_wp2
    refine bodyPost_ret (by simp [results, Try.results11, go_sem, *] <;> (repeat' (first | exact rfl | refine And.intro ?_ ?_))) rfl ⟨A, c, rfl, ?_⟩
    have hB : ∀ o1 o2, Below w.heap.size w ((w.alloc o1).alloc o2) := fun o1 o2 => (((Ext.refl w).alloc o1).alloc o2).below
    exact ⟨hr.up (hB _ _), hB _ _⟩

end Go.Proofs.Ytahoebnlihgobaa
