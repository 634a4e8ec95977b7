/- Contract of the reference's Next. No law is claimed here. -/
import Derived.Test.YtkgccoghdalniaaNextM
import Derived.Deep.RegionHeld3
namespace Go.Proofs.Ytkgccoghdalniaa
open Go.RowKit

theorem join2_drew (w : World) (g : Nat) (A1 A2 : Option Addr) (n1 c1 n2 c2 B : Nat) (xs ys : List UInt8) (hg : g = w.heap.size)
    (h1 : Rd bv w B A1 n1 c1 xs) (h2 : Rd bv w B A2 n2 c2 ys) (hB : B ≤ w.heap.size) (ht : n1 + n2 ≤ 1099511627776) :
    Calls Try.prog 6 #[.slice (some ⟨g, 0, none⟩) 2 2] (w.alloc (.cells #[.slice A1 n1 c1, .slice A2 n2 c2] 23)).drew (RetL bv 5 w (xs ++ ys)) := by
  have := join2_any w.drew g A1 A2 n1 c1 n2 c2 B xs ys hg h1.drew h2.drew hB ht
  exact this.mono fun _ _ ⟨A, n, c, he, ho, hb⟩ => ⟨A, n, c, he, ho, (Below.refl _ _).drew.trans hb⟩

set_option maxRecDepth 100000 in
set_option maxHeartbeats 1000000 in
theorem rnext_none (A : Option Addr) (c : Nat) (w : World) :
    Calls Try.prog 37 #[.slice A 0 c] w fun e w' => e = .returned (.tuple #[.int .i64 0, .int .i64 4]) ∧ w = w' := by
  go_enter Try.func37, Try.ntmps37
  go_wp2
  go_ret2
  exact ⟨rfl, rfl⟩
set_option maxRecDepth 100000 in
set_option maxHeartbeats 1000000 in
theorem rnext_short (A : Option Addr) (n c : Nat) (w : World) (h0 : 0 < n) (h8 : n < 8) :
    Calls Try.prog 37 #[.slice A n c] w fun e w' => e = .returned (.tuple #[.int .i64 0, .int .i64 2]) ∧ w = w' := by
  have h1 : ((n : Int) == 0) = false := by simp; omega
  have h2 : (n : Int) < 8 := by omega
  go_enter Try.func37, Try.ntmps37
  go_wp2
  go_ret2
  exact ⟨rfl, rfl⟩

set_option maxRecDepth 100000 in
set_option maxHeartbeats 1000000 in
theorem rnext_long (b off n c B : Nat) (xs : List UInt8) (w : World) (hr : Rd bv w B (some ⟨b, off, none⟩) n c xs) (h8 : 8 ≤ n) (hn : n ≤ 9223372036854775807) (hbig : 16777216 < nextS xs ∨ n - 8 < nextS xs) :
    Calls Try.prog 37 #[.slice (some ⟨b, off, none⟩) n c] w fun e w' => e = .returned (.tuple #[.int .i64 0, .int .i64 2]) ∧ w = w' := by
  have hcap := hr.cap
  have hlen := hr.len
  have r4 := hr.take 4 (by omega)
  have ht : takeN (xs.take 4) < 4294967296 := by have := takeN_lt (xs.take 4); rw [show (xs.take 4).length = 4 from by simp; omega, pow4] at this; exact this
  unfold nextS at hbig
  obtain ⟨z, HZ, hz0, hz1⟩ : ∃ z : Int, Hid ((takeN (xs.take 4) : Int) = z) ∧ 0 ≤ z ∧ z < 4294967296 := ⟨_, rfl, by omega, by omega⟩
  have hbig' : 16777216 < z ∨ (n : Int) - 8 < z := by have := HZ.out; omega
  clear hbig ht hlen
  have h1 : ((n : Int) == 0) = false := by simp; omega
  have h2 : ¬ (n : Int) < 8 := by omega
  have hc4 : 4 ≤ c := by omega
  rcases (by omega : 16777216 < z ∨ ¬ 16777216 < z) with hz | hz
  · clear hbig'
    go_enter Try.func37, Try.ntmps37
    go_wp2_with fail
    refine (rtake_any _ 4 c B _ w r4 (by omega)).mono ?_
    rintro e w1 ⟨rfl, rfl⟩
    rw [HZ.out]
    go_wp2
    go_ret2
    exact ⟨rfl, rfl⟩
  · have hz' : (n : Int) - 8 < z := by omega
    clear hbig'
    go_enter Try.func37, Try.ntmps37
    go_wp2_with fail
    refine (rtake_any _ 4 c B _ w r4 (by omega)).mono ?_
    rintro e w1 ⟨rfl, rfl⟩
    rw [HZ.out]
    go_wp2
    go_ret2
    exact ⟨rfl, rfl⟩

set_option maxRecDepth 100000 in
set_option maxHeartbeats 1000000 in
theorem rnext_sum (b off n c B : Nat) (xs : List UInt8) (w : World) (hr : Rd bv w B (some ⟨b, off, none⟩) n c xs) (hB : B ≤ w.heap.size) (h8 : 8 ≤ n) (hn : n ≤ 65000) (hs1 : nextS xs ≤ 16777216) (hs2 : nextS xs ≤ n - 8) (hc8 : 8 < c)
    (hne : longN (xs.take 4 ++ nextC xs) ≠ takeN ((xs.drop 4).take 4)) :
    Calls Try.prog 37 #[.slice (some ⟨b, off, none⟩) n c] w fun e w' => e = .returned (.tuple #[.int .i64 0, .int .i64 3]) ∧ Below w.heap.size w w' := by
  have hcap := hr.cap
  have hlen := hr.len
  have r4 := hr.take 4 (by omega)
  have r8 : Rd bv w B (some ⟨b, off + 4, none⟩) 4 (c - 4) ((xs.drop 4).take 4) := (hr.drop 4 (by omega)).take 4 (by omega)
  have rc : Rd bv w B (some ⟨b, off + 8, none⟩) (nextS xs) (c - 8) (nextC xs) := (hr.drop 8 (by omega)).take _ (by omega)
  have ht2 : takeN ((xs.drop 4).take 4) < 4294967296 := by have := takeN_lt ((xs.drop 4).take 4); rw [show ((xs.drop 4).take 4).length = 4 from by simp; omega, pow4] at this; exact this
  have ht3 := longN_lt (xs.take 4 ++ nextC xs)
  have hne' : ((takeN ((xs.drop 4).take 4) : Int) != (longN (xs.take 4 ++ nextC xs) : Int)) = true := by rw [bne_iff_ne]; omega
  unfold nextS at hs1 hs2 rc
  generalize nextC xs = cs at *
  generalize (xs.drop 4).take 4 = vs at *
  generalize xs.take 4 = us at *
  generalize hz : takeN us = z at *
  have HZ := Lib.hid hz
  have b13 : IntKind.u64.wrap ((longN (us ++ cs) : Nat) : Int) = ((longN (us ++ cs) : Nat) : Int) := IntWalk.u64_in _ (by omega)
  clear hz hlen hne hr ht2 ht3
  have h1 : ((n : Int) == 0) = false := by simp; omega
  have h2 : ¬ (n : Int) < 8 := by omega
  have h3 : ¬ (16777216 : Int) < z := by omega
  have h4 : ¬ (n : Int) - 8 < z := by omega
  have h5 : (8 : Int) + z ≤ c := by omega
  go_enter Try.func37, Try.ntmps37
  go_wp2_with fail
  refine (rtake_any _ 4 _ B _ w r4 (by omega)).mono ?_
  rintro e w1 ⟨rfl, rfl⟩
  rw [HZ.out]
  go_wp2_with fail
  have b1 : (4 : Int) ≤ (c : Int) := by omega
  have b2 : (8 : Int) ≤ (c : Int) := by omega
  have b4 : (8 : Int) ≤ 8 + (z : Int) := by omega
  have b5 : ¬ c = 4 := by omega
  have b6 : ¬ c = 8 := by omega
  have b7 : (0 : Int) ≤ 8 + (z : Int) := by omega
  have b8 : (8 + (z : Int)).toNat = 8 + z := by omega
  have b9 : 4 ≤ c := by omega
  have b10 : 8 ≤ c := by omega
  have b11 : IntKind.i64.wrap (8 + (z : Int)) = 8 + (z : Int) := IntWalk.i64_in _ (by omega)
  have b12 : IntKind.i64.wrap (z : Int) = (z : Int) := IntWalk.i64_in _ (by omega)
  have HLN : Hid ((us ++ cs).length ≤ 65536) := Lib.hid (by rw [List.length_append, r4.len, rc.len]; omega)
  go_region_held3 (fun _ => True) (exact trivial) (first
    | (go_at_call 38; refine (rtake_any _ 4 _ B vs _ (by first | exact r8 | exact r8.drew | exact r8.alloc hB _ | exact r8.drew.alloc hB _) (by omega)).mono ?_; rintro e w2 ⟨rfl, rfl⟩)
    | (go_at_call 6; refine (join2_drew w _ _ _ 4 _ z _ B us cs rfl r4 rc hB (by omega)).mono ?_; rintro e w3 ⟨A3, n3, c3, rfl, ho3, hb3⟩)
    | (go_at_call 45; refine (rlong_any A3 n3 c3 _ _ _ ho3.rd (Nat.le_refl _) (by rw [← ho3.len]; exact HLN.out)).mono ?_; rintro e w4 ⟨rfl, hb4⟩))
  all_goals
    go_wp2
    go_ret2
    exact ⟨rfl, hb3.trans (hb4.mono hb3.size)⟩

set_option maxRecDepth 100000 in
set_option maxHeartbeats 1000000 in
theorem rnext_sum8 (b off B : Nat) (xs : List UInt8) (w : World) (hr : Rd bv w B (some ⟨b, off, none⟩) 8 8 xs) (hB : B ≤ w.heap.size) (hs1 : nextS xs ≤ 16777216) (hs2 : nextS xs ≤ 8 - 8) 
    (hne : longN (xs.take 4 ++ nextC xs) ≠ takeN ((xs.drop 4).take 4)) :
    Calls Try.prog 37 #[.slice (some ⟨b, off, none⟩) 8 8] w fun e w' => e = .returned (.tuple #[.int .i64 0, .int .i64 3]) ∧ Below w.heap.size w w' := by
  have hcap := hr.cap
  have hlen := hr.len
  have r4 := hr.take 4 (by omega)
  have r8 : Rd bv w B (some ⟨b, off + 4, none⟩) 4 (8 - 4) ((xs.drop 4).take 4) := (hr.drop 4 (by omega)).take 4 (by omega)
  have hs0 : nextS xs = 0 := by omega
  have hc0 : nextC xs = [] := by unfold nextC; rw [hs0]; rfl
  have rc : Rd bv w B (some ⟨b, off, none⟩) 0 0 (nextC xs) := by rw [hc0]; exact Rd.nil
  have ht2 : takeN ((xs.drop 4).take 4) < 4294967296 := by have := takeN_lt ((xs.drop 4).take 4); rw [show ((xs.drop 4).take 4).length = 4 from by simp; omega, pow4] at this; exact this
  have ht3 := longN_lt (xs.take 4 ++ nextC xs)
  have hne' : ((takeN ((xs.drop 4).take 4) : Int) != (longN (xs.take 4 ++ nextC xs) : Int)) = true := by rw [bne_iff_ne]; omega
  unfold nextS at hs0
  generalize nextC xs = cs at *
  generalize (xs.drop 4).take 4 = vs at *
  generalize xs.take 4 = us at *
  have HZ := Lib.hid hs0
  have b13 : IntKind.u64.wrap ((longN (us ++ cs) : Nat) : Int) = ((longN (us ++ cs) : Nat) : Int) := IntWalk.u64_in _ (by omega)
  clear hs0 hs1 hs2 hc0 hlen hne hr ht2 ht3
  go_enter Try.func37, Try.ntmps37
  go_wp2_with fail
  refine (rtake_any _ 4 _ B _ w r4 (by omega)).mono ?_
  rintro e w1 ⟨rfl, rfl⟩
  rw [HZ.out]
  go_wp2_with fail
  have b11 : IntKind.i64.wrap (8 + 0) = 8 := rfl
  have b12 : IntKind.i64.wrap 0 = 0 := rfl
  have b14 : IntKind.i64.wrap 8 = 8 := rfl
  have HLN : Hid ((us ++ cs).length ≤ 65536) := Lib.hid (by rw [List.length_append, r4.len, rc.len]; omega)
  go_region_held3 (fun _ => True) (exact trivial) (first
    | (go_at_call 38; refine (rtake_any _ 4 _ B vs _ (by first | exact r8 | exact r8.drew | exact r8.alloc hB _ | exact r8.drew.alloc hB _) (by omega)).mono ?_; rintro e w2 ⟨rfl, rfl⟩)
    | (go_at_call 6; refine (join2_drew w _ _ _ 4 _ 0 _ B us cs rfl r4 rc hB (by omega)).mono ?_; rintro e w3 ⟨A3, n3, c3, rfl, ho3, hb3⟩)
    | (go_at_call 45; refine (rlong_any A3 n3 c3 _ _ _ ho3.rd (Nat.le_refl _) (by rw [← ho3.len]; exact HLN.out)).mono ?_; rintro e w4 ⟨rfl, hb4⟩))
  all_goals
    go_wp2
    go_ret2
    exact ⟨rfl, hb3.trans (hb4.mono hb3.size)⟩

set_option maxRecDepth 100000 in
set_option maxHeartbeats 1000000 in
theorem rnext_ok (b off n c B : Nat) (xs : List UInt8) (w : World) (hr : Rd bv w B (some ⟨b, off, none⟩) n c xs) (hB : B ≤ w.heap.size) (h8 : 8 ≤ n) (hn : n ≤ 65000) (hs1 : nextS xs ≤ 16777216) (hs2 : nextS xs ≤ n - 8) (hc8 : 8 < c)
    (hne : longN (xs.take 4 ++ nextC xs) = takeN ((xs.drop 4).take 4)) :
    Calls Try.prog 37 #[.slice (some ⟨b, off, none⟩) n c] w fun e w' => e = .returned (.tuple #[.int .i64 (nextS xs : Int), .int .i64 0]) ∧ Below w.heap.size w w' := by
  have hcap := hr.cap
  have hlen := hr.len
  have r4 := hr.take 4 (by omega)
  have r8 : Rd bv w B (some ⟨b, off + 4, none⟩) 4 (c - 4) ((xs.drop 4).take 4) := (hr.drop 4 (by omega)).take 4 (by omega)
  have rc : Rd bv w B (some ⟨b, off + 8, none⟩) (nextS xs) (c - 8) (nextC xs) := (hr.drop 8 (by omega)).take _ (by omega)
  have ht2 : takeN ((xs.drop 4).take 4) < 4294967296 := by have := takeN_lt ((xs.drop 4).take 4); rw [show ((xs.drop 4).take 4).length = 4 from by simp; omega, pow4] at this; exact this
  have ht3 := longN_lt (xs.take 4 ++ nextC xs)
  have hne' : ((takeN ((xs.drop 4).take 4) : Int) != (longN (xs.take 4 ++ nextC xs) : Int)) = false := by rw [hne]; simp
  unfold nextS at hs1 hs2 rc ⊢
  generalize nextC xs = cs at *
  generalize (xs.drop 4).take 4 = vs at *
  generalize xs.take 4 = us at *
  generalize hz : takeN us = z at *
  have HZ := Lib.hid hz
  have b13 : IntKind.u64.wrap ((longN (us ++ cs) : Nat) : Int) = ((longN (us ++ cs) : Nat) : Int) := IntWalk.u64_in _ (by omega)
  clear hz hlen hne hr ht2 ht3
  have h1 : ((n : Int) == 0) = false := by simp; omega
  have h2 : ¬ (n : Int) < 8 := by omega
  have h3 : ¬ (16777216 : Int) < z := by omega
  have h4 : ¬ (n : Int) - 8 < z := by omega
  have h5 : (8 : Int) + z ≤ c := by omega
  go_enter Try.func37, Try.ntmps37
  go_wp2_with fail
  refine (rtake_any _ 4 _ B _ w r4 (by omega)).mono ?_
  rintro e w1 ⟨rfl, rfl⟩
  rw [HZ.out]
  go_wp2_with fail
  have b1 : (4 : Int) ≤ (c : Int) := by omega
  have b2 : (8 : Int) ≤ (c : Int) := by omega
  have b4 : (8 : Int) ≤ 8 + (z : Int) := by omega
  have b5 : ¬ c = 4 := by omega
  have b6 : ¬ c = 8 := by omega
  have b7 : (0 : Int) ≤ 8 + (z : Int) := by omega
  have b8 : (8 + (z : Int)).toNat = 8 + z := by omega
  have b9 : 4 ≤ c := by omega
  have b10 : 8 ≤ c := by omega
  have b11 : IntKind.i64.wrap (8 + (z : Int)) = 8 + (z : Int) := IntWalk.i64_in _ (by omega)
  have b12 : IntKind.i64.wrap (z : Int) = (z : Int) := IntWalk.i64_in _ (by omega)
  have HLN : Hid ((us ++ cs).length ≤ 65536) := Lib.hid (by rw [List.length_append, r4.len, rc.len]; omega)
  go_region_held3 (fun _ => True) (exact trivial) (first
    | (go_at_call 38; refine (rtake_any _ 4 _ B vs _ (by first | exact r8 | exact r8.drew | exact r8.alloc hB _ | exact r8.drew.alloc hB _) (by omega)).mono ?_; rintro e w2 ⟨rfl, rfl⟩)
    | (go_at_call 6; refine (join2_drew w _ _ _ 4 _ z _ B us cs rfl r4 rc hB (by omega)).mono ?_; rintro e w3 ⟨A3, n3, c3, rfl, ho3, hb3⟩)
    | (go_at_call 45; refine (rlong_any A3 n3 c3 _ _ _ ho3.rd (Nat.le_refl _) (by rw [← ho3.len]; exact HLN.out)).mono ?_; rintro e w4 ⟨rfl, hb4⟩))
  all_goals
    go_wp2
    go_ret2
    exact ⟨rfl, hb3.trans (hb4.mono hb3.size)⟩

set_option maxRecDepth 100000 in
set_option maxHeartbeats 1000000 in
theorem rnext_ok8 (b off B : Nat) (xs : List UInt8) (w : World) (hr : Rd bv w B (some ⟨b, off, none⟩) 8 8 xs) (hB : B ≤ w.heap.size) (hs1 : nextS xs ≤ 16777216) (hs2 : nextS xs ≤ 8 - 8) 
    (hne : longN (xs.take 4 ++ nextC xs) = takeN ((xs.drop 4).take 4)) :
    Calls Try.prog 37 #[.slice (some ⟨b, off, none⟩) 8 8] w fun e w' => e = .returned (.tuple #[.int .i64 (nextS xs : Int), .int .i64 0]) ∧ Below w.heap.size w w' := by
  have hcap := hr.cap
  have hlen := hr.len
  have r4 := hr.take 4 (by omega)
  have r8 : Rd bv w B (some ⟨b, off + 4, none⟩) 4 (8 - 4) ((xs.drop 4).take 4) := (hr.drop 4 (by omega)).take 4 (by omega)
  have hs0 : nextS xs = 0 := by omega
  have hc0 : nextC xs = [] := by unfold nextC; rw [hs0]; rfl
  have rc : Rd bv w B (some ⟨b, off, none⟩) 0 0 (nextC xs) := by rw [hc0]; exact Rd.nil
  have ht2 : takeN ((xs.drop 4).take 4) < 4294967296 := by have := takeN_lt ((xs.drop 4).take 4); rw [show ((xs.drop 4).take 4).length = 4 from by simp; omega, pow4] at this; exact this
  have ht3 := longN_lt (xs.take 4 ++ nextC xs)
  have hne' : ((takeN ((xs.drop 4).take 4) : Int) != (longN (xs.take 4 ++ nextC xs) : Int)) = false := by rw [hne]; simp
  rw [hs0]
  unfold nextS at hs0
  generalize nextC xs = cs at *
  generalize (xs.drop 4).take 4 = vs at *
  generalize xs.take 4 = us at *
  have HZ := Lib.hid hs0
  have b13 : IntKind.u64.wrap ((longN (us ++ cs) : Nat) : Int) = ((longN (us ++ cs) : Nat) : Int) := IntWalk.u64_in _ (by omega)
  clear hs0 hs1 hs2 hc0 hlen hne hr ht2 ht3
  go_enter Try.func37, Try.ntmps37
  go_wp2_with fail
  refine (rtake_any _ 4 _ B _ w r4 (by omega)).mono ?_
  rintro e w1 ⟨rfl, rfl⟩
  rw [HZ.out]
  go_wp2_with fail
  have b11 : IntKind.i64.wrap (8 + 0) = 8 := rfl
  have b12 : IntKind.i64.wrap 0 = 0 := rfl
  have b14 : IntKind.i64.wrap 8 = 8 := rfl
  have HLN : Hid ((us ++ cs).length ≤ 65536) := Lib.hid (by rw [List.length_append, r4.len, rc.len]; omega)
  go_region_held3 (fun _ => True) (exact trivial) (first
    | (go_at_call 38; refine (rtake_any _ 4 _ B vs _ (by first | exact r8 | exact r8.drew | exact r8.alloc hB _ | exact r8.drew.alloc hB _) (by omega)).mono ?_; rintro e w2 ⟨rfl, rfl⟩)
    | (go_at_call 6; refine (join2_drew w _ _ _ 4 _ 0 _ B us cs rfl r4 rc hB (by omega)).mono ?_; rintro e w3 ⟨A3, n3, c3, rfl, ho3, hb3⟩)
    | (go_at_call 45; refine (rlong_any A3 n3 c3 _ _ _ ho3.rd (Nat.le_refl _) (by rw [← ho3.len]; exact HLN.out)).mono ?_; rintro e w4 ⟨rfl, hb4⟩))
  all_goals
    go_wp2
    go_ret2
    exact ⟨rfl, hb3.trans (hb4.mono hb3.size)⟩

end Go.Proofs.Ytkgccoghdalniaa
