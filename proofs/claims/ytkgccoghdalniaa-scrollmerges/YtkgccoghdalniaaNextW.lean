/- Contracts of seal.Next and of the reference's Next. No law is claimed here. -/
import Derived.Test.YtkgccoghdalniaaFrameW
namespace Go.Proofs.Ytkgccoghdalniaa
open Go.RowKit

theorem quiet_eq {P : Program} {f : FuncId} {args : Array Value} {w : World} {n : Nat} {v : Value}
    (h : Calls P f args (w.drewN n) fun e w' => e = .returned v ∧ w.drewN n = w') : Calls P f args (w.drewN n) fun e w'' => e = .returned v ∧ ∃ m, w'' = w.drewN m :=
  h.mono fun _ _ ⟨he, hm⟩ => ⟨he, n, hm.symm⟩
theorem quiet_still {P : Program} {f : FuncId} {args : Array Value} {w : World} {n : Nat} {v : Value}
    (h : Calls P f args (w.drewN n) fun e w' => e = .returned v ∧ Still (w.drewN n) w') : Calls P f args (w.drewN n) fun e w'' => e = .returned v ∧ ∃ m, w'' = w.drewN m :=
  Calls.quiet_of h

theorem Rd.still {α : Type} {f : α → Value} {w w' : World} {B : Nat} {A : Option Addr} {n c : Nat} {xs : List α} (h : Rd f w B A n c xs) (hs : Still w w') : Rd f w' B A n c xs := by
  obtain ⟨q, rfl⟩ := hs; exact h.drewN q
theorem Still.trans {a b c : World} (h : Still a b) (k : Still b c) : Still a c := by
  obtain ⟨q, rfl⟩ := h
  obtain ⟨r, rfl⟩ := k
  exact ⟨q + r, by simp⟩

/-- what Next finds: the error, the size -/
def nextS (xs : List UInt8) : Nat := takeN (xs.take 4)
def nextC (xs : List UInt8) : List UInt8 := (xs.drop 8).take (nextS xs)
def nextE (xs : List UInt8) : Nat :=
  if xs.length = 0 then 4 else if xs.length < 8 then 2 else if 16777216 < nextS xs ∨ xs.length - 8 < nextS xs then 2
  else if longN (xs.take 4 ++ nextC xs) ≠ takeN ((xs.drop 4).take 4) then 3 else 0

theorem takeN4_lt (a b c d : UInt8) : takeN [a, b, c, d] < 4294967296 := by
  have := a.toNat_lt; have := b.toNat_lt; have := c.toNat_lt; have := d.toNat_lt
  simp only [takeN]; omega
theorem four_of (xs : List UInt8) (h : 4 ≤ xs.length) : ∃ x0 x1 x2 x3, xs.take 4 = [x0, x1, x2, x3] := by
  match xs, h with
  | x0 :: x1 :: x2 :: x3 :: r, _ => exact ⟨x0, x1, x2, x3, rfl⟩

set_option maxRecDepth 100000 in
set_option maxHeartbeats 1000000 in
theorem snext_none (A : Option Addr) (c : Nat) (w : World) :
    Calls Try.prog 21 #[.slice A 0 c] w fun e w' => e = .returned (.tuple #[.slice none 0 0, .int .i64 0, .int .i64 4]) ∧ w = w' := by
  go_enter Try.func21, Try.ntmps21
  go_wp2
  go_ret3
  exact ⟨rfl, rfl⟩
set_option maxRecDepth 100000 in
set_option maxHeartbeats 1000000 in
theorem snext_short (A : Option Addr) (n c : Nat) (w : World) (h0 : 0 < n) (h8 : n < 8) :
    Calls Try.prog 21 #[.slice A n c] w fun e w' => e = .returned (.tuple #[.slice none 0 0, .int .i64 0, .int .i64 2]) ∧ w = w' := by
  have h1 : ((n : Int) == 0) = false := by simp; omega
  have h2 : (n : Int) < 8 := by omega
  go_enter Try.func21, Try.ntmps21
  go_wp2
  go_ret3
  exact ⟨rfl, rfl⟩

set_option maxRecDepth 100000 in
set_option maxHeartbeats 1000000 in
theorem snext_long (b off n c B : Nat) (xs : List UInt8) (w : World) (hr : Rd bv w B (some ⟨b, off, none⟩) n c xs) (h8 : 8 ≤ n) (hn : n ≤ 9223372036854775807) (hbig : 16777216 < nextS xs ∨ n - 8 < nextS xs) :
    Calls Try.prog 21 #[.slice (some ⟨b, off, none⟩) n c] w fun e w' => e = .returned (.tuple #[.slice none 0 0, .int .i64 0, .int .i64 2]) ∧ Still w w' := by
  have hcap := hr.cap
  have hlen := hr.len
  obtain ⟨x0, x1, x2, x3, e4⟩ := four_of xs (by omega)
  have r4 : Rd bv w B (some ⟨b, off, none⟩) 4 c [x0, x1, x2, x3] := e4 ▸ hr.take 4 (by omega)
  have HS : Hid (nextS xs = takeN [x0, x1, x2, x3]) := by show _ = _; unfold nextS; rw [e4]
  rw [HS.out] at hbig
  have ht : takeN [x0, x1, x2, x3] < 4294967296 := takeN4_lt _ _ _ _
  obtain ⟨z, HZ, hz0, hz1⟩ : ∃ z : Int, Hid ((takeN [x0, x1, x2, x3] : Int) = z) ∧ 0 ≤ z ∧ z < 4294967296 := ⟨_, rfl, by omega, by omega⟩
  have hbig' : 16777216 < z ∨ (n : Int) - 8 < z := by have := HZ.out; omega
  clear hbig ht e4 hlen
  have h1 : ((n : Int) == 0) = false := by simp; omega
  have h2 : ¬ (n : Int) < 8 := by omega
  have hc4 : 4 ≤ c := by omega
  rcases (by omega : 16777216 < z ∨ ¬ 16777216 < z) with hz | hz
  · clear hbig'
    go_enter Try.func21, Try.ntmps21
    go_wp2_with fail
    refine (number_any _ 4 c B x0 x1 x2 x3 w r4).mono ?_
    rintro e w1 ⟨rfl, q, rfl⟩
    rw [HZ.out]
    go_wp2
    go_ret3
    exact ⟨rfl, q, rfl⟩
  · have hz' : (n : Int) - 8 < z := by omega
    clear hbig'
    go_enter Try.func21, Try.ntmps21
    go_wp2_with fail
    refine (number_any _ 4 c B x0 x1 x2 x3 w r4).mono ?_
    rintro e w1 ⟨rfl, q, rfl⟩
    rw [HZ.out]
    go_wp2
    go_ret3
    exact ⟨rfl, q, rfl⟩

/-- what Next answers where there is a frame -/
def RetN (w : World) (cs : List UInt8) (e : Ending) (w' : World) : Prop :=
  ∃ A n c, e = .returned (.tuple #[.slice A n c, .int .i64 (8 + (n : Int)), .int .i64 0]) ∧ Own bv w' w.heap.size 5 A n c cs ∧ Below w.heap.size w w'

set_option maxRecDepth 100000 in
set_option maxHeartbeats 1000000 in
theorem snext_sum (b off n c B : Nat) (xs : List UInt8) (w : World) (hr : Rd bv w B (some ⟨b, off, none⟩) n c xs) (h8 : 8 ≤ n) (hn : n ≤ 9223372036854775807) (hs1 : nextS xs ≤ 16777216) (hs2 : nextS xs ≤ n - 8) (hc8 : 8 < c)
    (hne : longN (xs.take 4 ++ nextC xs) ≠ takeN ((xs.drop 4).take 4)) :
    Calls Try.prog 21 #[.slice (some ⟨b, off, none⟩) n c] w fun e w' => e = .returned (.tuple #[.slice none 0 0, .int .i64 0, .int .i64 3]) ∧ Still w w' := by
  have hcap := hr.cap
  have hlen := hr.len
  obtain ⟨x0, x1, x2, x3, e4⟩ := four_of xs (by omega)
  obtain ⟨v0, v1, v2, v3, e8⟩ := four_of (xs.drop 4) (by simp; omega)
  have r4 : Rd bv w B (some ⟨b, off, none⟩) 4 c [x0, x1, x2, x3] := e4 ▸ hr.take 4 (by omega)
  have r8 : Rd bv w B (some ⟨b, off + 4, none⟩) 4 (c - 4) [v0, v1, v2, v3] := e8 ▸ (hr.drop 4 (by omega)).take 4 (by omega)
  have rc : Rd bv w B (some ⟨b, off + 8, none⟩) (nextS xs) (c - 8) (nextC xs) := (hr.drop 8 (by omega)).take _ (by omega)
  have HS : Hid (nextS xs = takeN [x0, x1, x2, x3]) := by show _ = _; unfold nextS; rw [e4]
  rw [HS.out] at hs1 hs2 rc
  rw [e4, e8] at hne
  have ht : takeN [x0, x1, x2, x3] < 4294967296 := takeN4_lt _ _ _ _
  have ht2 : takeN [v0, v1, v2, v3] < 4294967296 := takeN4_lt _ _ _ _
  have ht3 := longN_lt ([x0, x1, x2, x3] ++ nextC xs)
  have hne2 : longN (x0 :: x1 :: x2 :: x3 :: nextC xs) ≠ takeN [v0, v1, v2, v3] := hne
  have hne' : ((longN (x0 :: x1 :: x2 :: x3 :: nextC xs) : Int) != (takeN [v0, v1, v2, v3] : Int)) = true := by rw [bne_iff_ne]; omega
  clear hne2
  clear hne ht2 ht3
  generalize nextC xs = cs at *
  generalize hz : takeN [x0, x1, x2, x3] = z at *
  have HZ := Lib.hid hz
  clear hz HS ht e4 e8 hlen
  have h1 : ((n : Int) == 0) = false := by simp; omega
  have h2 : ¬ (n : Int) < 8 := by omega
  have h3 : ¬ (16777216 : Int) < z := by omega
  have h4 : ¬ (n : Int) - 8 < z := by omega
  have h5 : (8 : Int) + z ≤ c := by omega
  go_enter Try.func21, Try.ntmps21
  go_wp2_with fail
  refine (number_any _ 4 _ B x0 x1 x2 x3 w r4).mono ?_
  rintro e w1 ⟨rfl, hst⟩
  rw [HZ.out]
  have r4' := r4.still hst
  have r8' := r8.still hst
  have rc' := rc.still hst
  clear r4 r8 rc
  go_wp2_with fail
  go_quiet ((first
    | (go_at_call 34; exact quiet_eq (sealOf_any _ _ 4 _ _ _ B B [x0, x1, x2, x3] cs _ (r4'.drewN _) (rc'.drewN _) (by omega) (by omega)))
    | (go_at_call 33; exact quiet_still (number_any _ 4 _ B v0 v1 v2 v3 _ (r8'.drewN _)))))
  go_wp2
  go_ret3
  exact ⟨rfl, Still.more hst _⟩

set_option maxRecDepth 100000 in
set_option maxHeartbeats 1000000 in
theorem snext_sum8 (b off B : Nat) (xs : List UInt8) (w : World) (hr : Rd bv w B (some ⟨b, off, none⟩) 8 8 xs) (hs1 : nextS xs ≤ 16777216) (hs2 : nextS xs ≤ 8 - 8) 
    (hne : longN (xs.take 4 ++ nextC xs) ≠ takeN ((xs.drop 4).take 4)) :
    Calls Try.prog 21 #[.slice (some ⟨b, off, none⟩) 8 8] w fun e w' => e = .returned (.tuple #[.slice none 0 0, .int .i64 0, .int .i64 3]) ∧ Still w w' := by
  have hcap := hr.cap
  have hlen := hr.len
  obtain ⟨x0, x1, x2, x3, e4⟩ := four_of xs (by omega)
  obtain ⟨v0, v1, v2, v3, e8⟩ := four_of (xs.drop 4) (by simp; omega)
  have r4 : Rd bv w B (some ⟨b, off, none⟩) 4 8 [x0, x1, x2, x3] := e4 ▸ hr.take 4 (by omega)
  have r8 : Rd bv w B (some ⟨b, off + 4, none⟩) 4 (8 - 4) [v0, v1, v2, v3] := e8 ▸ (hr.drop 4 (by omega)).take 4 (by omega)
  have hs0 : nextS xs = 0 := by omega
  have hc0 : nextC xs = [] := by unfold nextC; rw [hs0]; rfl
  have rc : Rd bv w B (some ⟨b, off, none⟩) 0 0 (nextC xs) := by rw [hc0]; exact Rd.nil
  have HS : Hid (nextS xs = takeN [x0, x1, x2, x3]) := by show _ = _; unfold nextS; rw [e4]
  rw [HS.out] at hs1 hs2 hs0
  clear hc0
  rw [e4, e8] at hne
  have ht : takeN [x0, x1, x2, x3] < 4294967296 := takeN4_lt _ _ _ _
  have ht2 : takeN [v0, v1, v2, v3] < 4294967296 := takeN4_lt _ _ _ _
  have ht3 := longN_lt ([x0, x1, x2, x3] ++ nextC xs)
  have hne2 : longN (x0 :: x1 :: x2 :: x3 :: nextC xs) ≠ takeN [v0, v1, v2, v3] := hne
  have hne' : ((longN (x0 :: x1 :: x2 :: x3 :: nextC xs) : Int) != (takeN [v0, v1, v2, v3] : Int)) = true := by rw [bne_iff_ne]; omega
  clear hne2
  clear hne ht2 ht3
  generalize nextC xs = cs at *
  have HZ : Hid (takeN [x0, x1, x2, x3] = 0) := hs0
  clear hs0 HS ht e4 e8 hlen hs1 hs2
  go_enter Try.func21, Try.ntmps21
  go_wp2_with fail
  refine (number_any _ 4 _ B x0 x1 x2 x3 w r4).mono ?_
  rintro e w1 ⟨rfl, hst⟩
  rw [HZ.out]
  have r4' := r4.still hst
  have r8' := r8.still hst
  have rc' := rc.still hst
  clear r4 r8 rc
  go_wp2_with fail
  go_quiet ((first
    | (go_at_call 34; exact quiet_eq (sealOf_any _ _ 4 _ _ _ B B [x0, x1, x2, x3] cs _ (r4'.drewN _) (rc'.drewN _) (by omega) (by omega)))
    | (go_at_call 33; exact quiet_still (number_any _ 4 _ B v0 v1 v2 v3 _ (r8'.drewN _)))))
  go_wp2
  go_ret3
  exact ⟨rfl, Still.more hst _⟩

set_option maxRecDepth 100000 in
set_option maxHeartbeats 1000000 in
theorem snext_ok (b off n c B : Nat) (xs : List UInt8) (w : World) (hr : Rd bv w B (some ⟨b, off, none⟩) n c xs) (h8 : 8 ≤ n) (hn : n ≤ 9223372036854775807) (hs1 : nextS xs ≤ 16777216) (hs2 : nextS xs ≤ n - 8) (hc8 : 8 < c)(hB : B ≤ w.heap.size)
    (hne : longN (xs.take 4 ++ nextC xs) = takeN ((xs.drop 4).take 4)) :
    Calls Try.prog 21 #[.slice (some ⟨b, off, none⟩) n c] w (RetN w (nextC xs)) := by
  have hcap := hr.cap
  have hlen := hr.len
  obtain ⟨x0, x1, x2, x3, e4⟩ := four_of xs (by omega)
  obtain ⟨v0, v1, v2, v3, e8⟩ := four_of (xs.drop 4) (by simp; omega)
  have r4 : Rd bv w B (some ⟨b, off, none⟩) 4 c [x0, x1, x2, x3] := e4 ▸ hr.take 4 (by omega)
  have r8 : Rd bv w B (some ⟨b, off + 4, none⟩) 4 (c - 4) [v0, v1, v2, v3] := e8 ▸ (hr.drop 4 (by omega)).take 4 (by omega)
  have rc : Rd bv w B (some ⟨b, off + 8, none⟩) (nextS xs) (c - 8) (nextC xs) := (hr.drop 8 (by omega)).take _ (by omega)
  have HS : Hid (nextS xs = takeN [x0, x1, x2, x3]) := by show _ = _; unfold nextS; rw [e4]
  rw [HS.out] at hs1 hs2 rc
  rw [e4, e8] at hne
  have ht : takeN [x0, x1, x2, x3] < 4294967296 := takeN4_lt _ _ _ _
  have ht2 : takeN [v0, v1, v2, v3] < 4294967296 := takeN4_lt _ _ _ _
  have ht3 := longN_lt ([x0, x1, x2, x3] ++ nextC xs)
  have HC : Hid ((nextC xs).length = takeN [x0, x1, x2, x3]) := Lib.hid rc.len
  have hne2 : longN (x0 :: x1 :: x2 :: x3 :: nextC xs) = takeN [v0, v1, v2, v3] := hne
  have hne' : ((longN (x0 :: x1 :: x2 :: x3 :: nextC xs) : Int) != (takeN [v0, v1, v2, v3] : Int)) = false := by rw [hne2]; simp
  clear hne2
  clear hne ht2 ht3
  generalize nextC xs = cs at *
  generalize hz : takeN [x0, x1, x2, x3] = z at *
  have HZ := Lib.hid hz
  clear hz HS ht e4 e8 hlen
  have h1 : ((n : Int) == 0) = false := by simp; omega
  have h2 : ¬ (n : Int) < 8 := by omega
  have h3 : ¬ (16777216 : Int) < z := by omega
  have h4 : ¬ (n : Int) - 8 < z := by omega
  have h5 : (8 : Int) + z ≤ c := by omega
  go_enter Try.func21, Try.ntmps21
  go_wp2_with fail
  refine (number_any _ 4 _ B x0 x1 x2 x3 w r4).mono ?_
  rintro e w1 ⟨rfl, hst⟩
  rw [HZ.out]
  have r4' := r4.still hst
  have r8' := r8.still hst
  have rc' := rc.still hst
  clear r4 r8 rc
  go_wp2_with fail
  go_quiet ((first
    | (go_at_call 34; exact quiet_eq (sealOf_any _ _ 4 _ _ _ B B [x0, x1, x2, x3] cs _ (r4'.drewN _) (rc'.drewN _) (by omega) (by omega)))
    | (go_at_call 33; exact quiet_still (number_any _ 4 _ B v0 v1 v2 v3 _ (r8'.drewN _)))))
  have hszB : B ≤ w1.heap.size := by have := (hst.below 0).size; omega
  go_wp2_with (go_at_call 27; refine (clone_any _ _ _ B cs _ (rc'.drewN _) hszB (by omega)).mono ?_; rintro e w3 ⟨A3, n3, c3, rfl, ho3, hb3⟩)
  go_ret3
  refine ⟨A3, n3, c3, ?_, ?_, ?_⟩
  · have h1 := ho3.len
    have h2 := HC.out
    have h3 := HZ.out
    have h4 : n3 = z := by omega
    subst h4
    rfl
  · exact ho3.lower (by have := (hst.below 0).size; exact this)
  · exact (hst.below _).trans ((Still.below (Still.more ⟨0, rfl⟩ _) _).trans (hb3.mono (by have := (hst.below 0).size; exact this)))

set_option maxRecDepth 100000 in
set_option maxHeartbeats 1000000 in
theorem snext_ok8 (b off B : Nat) (xs : List UInt8) (w : World) (hr : Rd bv w B (some ⟨b, off, none⟩) 8 8 xs) (hs1 : nextS xs ≤ 16777216) (hs2 : nextS xs ≤ 8 - 8) (hB : B ≤ w.heap.size)
    (hne : longN (xs.take 4 ++ nextC xs) = takeN ((xs.drop 4).take 4)) :
    Calls Try.prog 21 #[.slice (some ⟨b, off, none⟩) 8 8] w (RetN w (nextC xs)) := by
  have hcap := hr.cap
  have hlen := hr.len
  obtain ⟨x0, x1, x2, x3, e4⟩ := four_of xs (by omega)
  obtain ⟨v0, v1, v2, v3, e8⟩ := four_of (xs.drop 4) (by simp; omega)
  have r4 : Rd bv w B (some ⟨b, off, none⟩) 4 8 [x0, x1, x2, x3] := e4 ▸ hr.take 4 (by omega)
  have r8 : Rd bv w B (some ⟨b, off + 4, none⟩) 4 (8 - 4) [v0, v1, v2, v3] := e8 ▸ (hr.drop 4 (by omega)).take 4 (by omega)
  have hs0 : nextS xs = 0 := by omega
  have hc0 : nextC xs = [] := by unfold nextC; rw [hs0]; rfl
  have rc : Rd bv w B (some ⟨b, off, none⟩) 0 0 (nextC xs) := by rw [hc0]; exact Rd.nil
  have HS : Hid (nextS xs = takeN [x0, x1, x2, x3]) := by show _ = _; unfold nextS; rw [e4]
  rw [HS.out] at hs1 hs2 hs0
  clear hc0
  rw [e4, e8] at hne
  have ht : takeN [x0, x1, x2, x3] < 4294967296 := takeN4_lt _ _ _ _
  have ht2 : takeN [v0, v1, v2, v3] < 4294967296 := takeN4_lt _ _ _ _
  have ht3 := longN_lt ([x0, x1, x2, x3] ++ nextC xs)
  have HC : Hid ((nextC xs).length = takeN [x0, x1, x2, x3]) := Lib.hid (by rw [hs0]; exact rc.len)
  have hne2 : longN (x0 :: x1 :: x2 :: x3 :: nextC xs) = takeN [v0, v1, v2, v3] := hne
  have hne' : ((longN (x0 :: x1 :: x2 :: x3 :: nextC xs) : Int) != (takeN [v0, v1, v2, v3] : Int)) = false := by rw [hne2]; simp
  clear hne2
  clear hne ht2 ht3
  generalize nextC xs = cs at *
  have HZ : Hid (takeN [x0, x1, x2, x3] = 0) := hs0
  clear hs0 HS ht e4 e8 hlen hs1 hs2
  go_enter Try.func21, Try.ntmps21
  go_wp2_with fail
  refine (number_any _ 4 _ B x0 x1 x2 x3 w r4).mono ?_
  rintro e w1 ⟨rfl, hst⟩
  rw [HZ.out]
  have r4' := r4.still hst
  have r8' := r8.still hst
  have rc' := rc.still hst
  clear r4 r8 rc
  go_wp2_with fail
  go_quiet ((first
    | (go_at_call 34; exact quiet_eq (sealOf_any _ _ 4 _ _ _ B B [x0, x1, x2, x3] cs _ (r4'.drewN _) (rc'.drewN _) (by omega) (by omega)))
    | (go_at_call 33; exact quiet_still (number_any _ 4 _ B v0 v1 v2 v3 _ (r8'.drewN _)))))
  have hszB : B ≤ w1.heap.size := by have := (hst.below 0).size; omega
  go_wp2_with (go_at_call 27; refine (clone_any _ _ _ B cs _ (rc'.drewN _) hszB (by omega)).mono ?_; rintro e w3 ⟨A3, n3, c3, rfl, ho3, hb3⟩)
  go_ret3
  refine ⟨A3, n3, c3, ?_, ?_, ?_⟩
  · have h1 := ho3.len
    have h2 := HC.out
    have h3 := HZ.out
    have h4 : n3 = 0 := by omega
    subst h4
    rfl
  · exact ho3.lower (by have := (hst.below 0).size; exact this)
  · exact (hst.below _).trans ((Still.below (Still.more ⟨0, rfl⟩ _) _).trans (hb3.mono (by have := (hst.below 0).size; exact this)))

end Go.Proofs.Ytkgccoghdalniaa
