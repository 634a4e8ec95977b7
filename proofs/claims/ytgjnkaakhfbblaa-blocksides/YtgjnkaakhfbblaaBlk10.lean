/- The walk of BlockParses. -/
import Derived.Test.YtgjnkaakhfbblaaBlk7
import Derived.Test.YtgjnkaakhfbblaaBlk9
namespace Go.Proofs.Ytgjnkaakhfbblaa
open Go.RowKit

theorem parN_inv (xs : List UInt8) : ∀ (f : Nat) (l : List Bm), fitsB l l.length = true → (∀ x ∈ l, x.data.length ≤ 100000) → blkSz l ≤ xs.length → l.length + f ≤ 512 →
    fitsB (parN xs f l) (parN xs f l).length = true ∧ (∀ x ∈ parN xs f l, x.data.length ≤ 100000) ∧ blkSz (parN xs f l) ≤ xs.length ∧ (parN xs f l).length ≤ 512 := by
  intro f
  induction f with
  | zero => intro l h1 h2 h3 h4; exact ⟨h1, h2, h3, by unfold parN; omega⟩
  | succ f ih =>
    intro l h1 h2 h3 h4
    unfold parN
    cases hs : parStep xs l with
    | none => exact ⟨h1, h2, h3, by show l.length ≤ 512; omega⟩
    | some b =>
      have hb : b.data.length ≤ 100000 ∧ blkSz (l ++ [b]) ≤ xs.length := by
        have hz := sizeN_lt l.length (ahead l l.length)
        unfold parStep at hs
        split at hs
        · rename_i hh
          injection hs with hs
          subst hs
          rw [blkSz_app]
          simp only [List.length_take, List.length_drop]
          omega
        · cases hs
      refine ih (l ++ [b]) (parStep_fits hs h1) ?_ hb.2 (by simp; omega)
      intro x hx
      rcases List.mem_append.1 hx with h | h
      · exact h2 x h
      · rw [List.mem_singleton.1 h]; exact hb.1
theorem parseN_inv (xs : List UInt8) : fitsB (parseN xs) (parseN xs).length = true ∧ (∀ x ∈ parseN xs, x.data.length ≤ 100000) ∧ blkSz (parseN xs) ≤ xs.length ∧ (parseN xs).length ≤ 512 :=
  parN_inv xs 512 [] rfl (by simp) (by simp [blkSz]) (by simp)

set_option maxRecDepth 100000 in
set_option maxHeartbeats 1000000 in
theorem blockParses_walk (A : Option Addr) (n c : Nat) (xs : List UInt8) (z : Bool) (w : World) (hr : Rd bv w w.heap.size A n c xs) (hm : c ≤ maxLen) :
    Calls Try.prog 4 #[.slice A n c, .bool z] w fun e w' => e = .returned (.bool true) ∧ Below w.heap.size w w' := by
  have hn' : n ≤ 9223372036854775807 := Nat.le_trans hr.cap hm
  go_enter Try.func4, Try.ntmps4
  go_wp2_with fail
  refine (awake5_any w).mono ?_
  rintro e w1 ⟨rfl, hb1⟩
  have hB1 : BlE w w1 := hb1
  have r1 : RdE bv w1 A n c xs := RdE.below hr hb1
  clear hb1
  go_wp2_with fail
  refine (cut_any A n c _ xs 300 w1 r1 (Nat.le_refl _) hn' (by omega) (by omega)).mono ?_
  rintro e w2 ⟨A2, n2, c2, rfl, o2, hb2⟩
  have hB2 := BlE.below hB1 hb2
  have hn2 : n2 ≤ 300 := by rw [← o2.len, List.length_take]; exact Nat.min_le_left _ _
  have r2 : RdE bv w2 A2 n2 c2 _ := o2.rd
  generalize xs.take (300 : Int).toNat = ys at *
  clear hb2 hB1 r1 o2
  go_upto_if 12 with fail
  go_cut [0] (fun v wx => ∃ (A3 : Option Addr) (n3 c3 : Nat) (zs : List UInt8), v = .slice A3 n3 c3 ∧ RdE bv wx A3 n3 c3 zs ∧ n3 ≤ 1000 ∧ BlE w wx)
  case first =>
    cases z with
    | false =>
      go_wp2
      go_meet
      case rel => exact ⟨A2, n2, c2, ys, rfl, r2, by omega, hB2⟩
    | true =>
      have hD := disk_any ⟨#[120]⟩ 1 none 0 0 (fun _ => False) [] w2 RdX.nil (fun b h => h.elim) (by omega) (by simp) (fun x hx => by simp at hx)
      rw [show ((1 : UInt8).toNat : Int) = 1 from rfl] at hD
      have hlen : blkSz (diskN (strN ⟨#[120]⟩) 1 []) = 58 := by decide +kernel
      have hll : (diskN (strN ⟨#[120]⟩) 1 []).length = 2 := by decide +kernel
      generalize diskN (strN ⟨#[120]⟩) 1 [] = L at *
      go_wp2_with fail
      refine hD.mono ?_
      rintro e w3 ⟨A3, n3, c3, rfl, r3, hb3⟩
      have hB3 := BlE.below hB2 hb3
      have r2a := RdE.below r2 hb3
      have hn3 : n3 ≤ 2 := by rw [← r3.len]; exact Nat.le_of_eq hll
      go_wp2_with fail
      refine (own5_any A3 n3 c3 _ L w3 r3 (fun b h => h) (by omega)).mono ?_
      rintro e w4 ⟨A4, n4, c4, rfl, r4, hb4⟩
      have hB4 := BlE.below hB3 hb4
      have r2b := RdE.below r2a hb4
      have hn4 : n4 ≤ 2 := by rw [← r4.len]; exact Nat.le_of_eq hll
      go_wp2_with fail
      refine (flat_any A4 n4 c4 _ L w4 r4 (fun b h => h) (by omega) (by omega)).mono ?_
      rintro e w5 ⟨A5, n5, c5, rfl, o5, hb5⟩
      have hB5 := BlE.below hB4 hb5
      have r2c := RdE.below r2b hb5
      have r5 : RdE bv w5 A5 n5 c5 _ := o5.rd
      have hn5 : n5 ≤ 58 := by rw [← o5.len, flatN_len]; exact Nat.le_of_eq hlen
      generalize flatN L = fl at *
      clear o5 hb5 hb4 hb3 r4 r3 r2a r2b r2 hD
      go_wp2_with (go_at_call 16
                   refine (join2_any w5 _ A5 A2 n5 c5 n2 c2 _ fl ys (by simp) r5 r2c (Nat.le_refl _) (by omega)).mono ?_
                   rintro e w6 ⟨A6, n6, c6, rfl, o6, hb6⟩)
      have hn6 : n6 ≤ 1000 := by rw [← o6.len, List.length_append, Rd.len r5, Rd.len r2c]; omega
      go_meet
      case rel => exact ⟨A6, n6, c6, _, rfl, o6.rd, hn6, BlE.below hB5 hb6⟩
  case rest =>
    obtain ⟨A3, n3, c3, zs, rfl, r3, hn3, hB3⟩ := hcut
    have hP := parse_any A3 n3 c3 _ zs wc r3 (Nat.le_refl _) (by omega)
    have hQ := fun w h => parse5_any A3 n3 c3 _ zs w h (Nat.le_refl _) (by omega)
    obtain ⟨i1, i2, i3, i4⟩ := parseN_inv zs
    rw [Rd.len r3] at i3
    generalize parseN zs = L at *
    have I2 : Hid (∀ x ∈ L, x.data.length ≤ 100000) := i2
    have I2' : Hid (∀ x ∈ L, x.data.length ≤ 9223372036854775807) := fun x hx => by have := i2 x hx; omega
    have e1 : rgtB L = true := by unfold rgtB; rw [i1, decide_eq_true (by omega)]; rfl
    clear i1 i2 hB2 r2 hn2
    go_wp2_with fail
    refine hP.mono ?_
    rintro e w4 ⟨A4, n4, c4, rfl, r4, hb4⟩
    have hB4 := BlE.below hB3 hb4
    have hn4 : n4 ≤ 512 := by rw [← r4.len]; exact i4
    go_wp2_with fail
    refine (hQ w4 (RdE.below r3 hb4)).mono ?_
    rintro e w5 ⟨A5, n5, c5, rfl, r5, hb5⟩
    have hB5 := BlE.below hB4 hb5
    have hn5 : n5 ≤ 512 := by rw [← r5.len]; exact i4
    have r4a := r4.keep (Kp.below hb5 (fun b h => h)) (fun b h => Nat.lt_of_lt_of_le h hb5.size)
    clear hP hQ hb4 hb5 r4
    go_wp2_with fail
    refine (own5_any A4 n4 c4 _ L w5 r4a (fun b h => h) (by omega)).mono ?_
    rintro e w6 ⟨A6, n6, c6, rfl, r6, hb6⟩
    have hB6 := BlE.below hB5 hb6
    have hn6 : n6 ≤ 512 := by rw [← r6.len]; exact i4
    have r4b := r4a.keep (Kp.below hb6 (fun b h => h)) (fun b h => Nat.lt_of_lt_of_le h hb6.size)
    have r5b := r5.keep (Kp.below hb6 (fun b h => h)) (fun b h => Nat.lt_of_lt_of_le h hb6.size)
    go_wp2_with fail
    refine (same5_yes A6 A5 n6 c6 n5 c5 _ _ L w6 r6 r5b (by omega) I2').mono ?_
    rintro e w7 ⟨rfl, hs7⟩
    have hb7 := hs7.below w6.heap.size
    have hB7 := BlE.below hB6 hb7
    have r4c := r4b.keep (Kp.below hb7 (fun b h => h)) (fun b h => Nat.lt_of_lt_of_le h hb7.size)
    have r5c := r5b.keep (Kp.below hb7 (fun b h => h)) (fun b h => Nat.lt_of_lt_of_le h hb7.size)
    clear hb6 hb7 hs7 r4a r4b r5 r5b r6 hB6 hB5 hB4 hB3 r3
    have hF := flat_any A5 n5 c5 _ L w7 r5c (fun b h => h) (by omega) (by omega)
    go_wp2_with fail
    refine hF.mono ?_
    rintro e w8 ⟨A8, n8, c8, rfl, o8, hb8⟩
    have hB8 := BlE.below hB7 hb8
    have hn8 : n8 = blkSz L := by rw [← o8.len, flatN_len]
    have r4d := r4c.keep (Kp.below hb8 (fun b h => h)) (fun b h => Nat.lt_of_lt_of_le h hb8.size)
    have hR := right_any A4 n4 c4 _ L w8 r4d (fun b h => h) (by omega) I2'
    rw [e1] at hR
    subst hn8
    have t1 : ((blkSz L : Int) == (blkSz L : Int)) = true := by simp
    go_wp2_with fail
    refine hR.mono ?_
    rintro e w9 ⟨rfl, hb9⟩
    have hB9 := BlE.below hB8 hb9
    have r4e := r4d.keep (Kp.below hb9 (fun b h => h)) (fun b h => Nat.lt_of_lt_of_le h hb9.size)
    have hZ := size_any A4 n4 c4 _ L w9 r4e (fun b h => h) (by omega) I2
    go_wp2_with fail
    refine hZ.mono ?_
    rintro e w10 ⟨rfl, hb10⟩
    have hB10 := BlE.below hB9 hb10
    go_wp2
    go_ret
    exact ⟨by first | rfl | simp, hB10⟩

end Go.Proofs.Ytgjnkaakhfbblaa
