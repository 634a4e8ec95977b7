/- The walk of BlockSides. -/
import Derived.Test.YtgjnkaakhfbblaaBlk10
import Derived.Test.YtgjnkaakhfbblaaBlk14
import Derived.Test.YtgjnkaakhfbblaaBlk15
import Derived.Test.YtgjnkaakhfbblaaBlk16
namespace Go.Proofs.Ytgjnkaakhfbblaa
open Go.RowKit

theorem parN_ext (xs : List UInt8) : ∀ (f : Nat) (l : List Bm), (parN xs f l).take l.length = l ∧ l.length ≤ (parN xs f l).length := by
  intro f
  induction f with
  | zero => intro l; unfold parN; exact ⟨List.take_length, Nat.le_refl _⟩
  | succ f ih =>
    intro l
    unfold parN
    cases hs : parStep xs l with
    | none => exact ⟨List.take_length, Nat.le_refl _⟩
    | some b =>
      obtain ⟨h1, h2⟩ := ih (l ++ [b])
      rw [List.length_append] at h1 h2
      have h3 : [b].length = 1 := rfl
      refine ⟨?_, by show l.length ≤ (parN xs f (l ++ [b])).length; omega⟩
      show (parN xs f (l ++ [b])).take l.length = l
      have h4 := congrArg (List.take l.length) h1
      rw [List.take_take, Nat.min_eq_left (by omega), List.take_left' rfl] at h4
      exact h4
theorem parse_front (l : List Bm) (more : List UInt8) (hf : fitsB l l.length = true) (h : l.length ≤ 512) : (parseN (flatN l ++ more)).take l.length = l ∧ l.length ≤ (parseN (flatN l ++ more)).length := by
  have h1 := par_reach l more hf l.length (Nat.le_refl _) h
  rw [List.take_length] at h1
  unfold ParTo at h1
  rw [← h1]
  exact parN_ext _ _ _
theorem sideN_eq (l : List Bm) (k : Nat) : sideN l (blkSz l + k) = flatN l ++ List.replicate k 0 := by
  unfold sideN; rw [Nat.add_sub_cancel_left]

set_option maxRecDepth 100000 in
set_option maxHeartbeats 4000000 in
theorem blockSides_walk (sign : ByteArray) (z1 : Int) (A : Option Addr) (n c : Nat) (fs : List Fm) (z3 z4 : Int) (M : Option Addr) (mn mc : Nat) (ms : List UInt8) (w : World) (hsg : sign.size ≤ maxLen) (a0 : 0 ≤ z1) (a1 : z1 < 256) (hr : RdX shF w (· < w.heap.size) A n c fs) (hm : c ≤ maxLen) (hok : ∀ f ∈ fs, okF f)
    (b0 : 0 ≤ z3) (b1 : z3 < 256) (c0 : -32768 ≤ z4) (c1 : z4 < 32768) (hM : Rd bv w w.heap.size M mn mc ms) (hmm : mc ≤ maxLen) :
    Calls Try.prog 3 #[.string sign, .int .u8 z1, .slice A n c, .int .u8 z3, .int .i16 z4, .slice M mn mc] w fun e w' => e = .returned (.bool true) ∧ Below w.heap.size w w' := by
  have hn' : n ≤ 9223372036854775807 := Nat.le_trans hr.cap hm
  have hmn' : mn ≤ 9223372036854775807 := Nat.le_trans hM.cap hmm
  have hsg' : sign.size ≤ 9223372036854775807 := hsg
  have HOK : Hid (∀ f ∈ fs, okF f) := hok
  obtain ⟨x1, rfl⟩ : ∃ x1 : UInt8, z1 = (x1.toNat : Int) := ⟨UInt8.ofNat z1.toNat, by rw [UInt8.toNat_ofNat']; omega⟩
  clear hok
  go_enter Try.func3, Try.ntmps3
  go_wp2_with fail
  refine (awake5_any w).mono ?_
  rintro e w1 ⟨rfl, hb1⟩
  have hB1 : BlE w w1 := hb1
  have r1 := hr.keep (Kp.below hb1 (fun b h => h)) (fun b h => Nat.lt_of_lt_of_le h hb1.size)
  have m1 : RdE bv w1 M mn mc ms := RdE.below hM hb1
  have hMd := made_any sign x1 A n c _ fs z3 w1 r1 (fun b h => h) hn' HOK hsg' b0 b1
  obtain ⟨i1, i2, i3⟩ := made_facts (strN sign) x1 fs z3.toNat
  generalize madeN (strN sign) x1 fs z3.toNat = L at *
  have I2 : Hid (∀ x ∈ L, x.data.length ≤ 100000) := i2
  have I2' : Hid (∀ x ∈ L, x.data.length ≤ 9223372036854775807) := fun x hx => by have := i2 x hx; omega
  have I1 := Lib.hid i1
  have e1 : rgtB L = true := by unfold rgtB; rw [i1, decide_eq_true (by omega)]; rfl
  have hbs := blkSz_le L i2
  have hbs2 : blkSz L ≤ 1800018 := by omega
  clear hb1 i1 i2 hr hbs
  go_wp2_with fail
  refine hMd.mono ?_
  rintro e w2 ⟨A2, n2, c2, rfl, r2, hb2⟩
  have hB2 := BlE.below hB1 hb2
  have m2 := RdE.below m1 hb2
  have hn2 : n2 ≤ 18 := by rw [← r2.len]; exact i3
  have HLn := Lib.hid r2.len
  clear hMd r1 m1 hb2 hB1
  go_wp2_with fail
  refine (own5_any A2 n2 c2 _ L w2 r2 (fun b h => h) (by omega)).mono ?_
  rintro e w3 ⟨A3, n3, c3, rfl, r3, hb3⟩
  have hB3 := BlE.below hB2 hb3
  have m3 := RdE.below m2 hb3
  have r2a := r2.keep (Kp.below hb3 (fun b h => h)) (fun b h => Nat.lt_of_lt_of_le h hb3.size)
  have hn3 : n3 ≤ 18 := by rw [← r3.len]; exact i3
  clear r2 m2 hb3 hB2
  go_wp2_with fail
  refine (flat_any A3 n3 c3 _ L w3 r3 (fun b h => h) (by omega) (by omega)).mono ?_
  rintro e w4 ⟨A4, n4, c4, rfl, o4, hb4⟩
  have hB4 := BlE.below hB3 hb4
  have m4 := RdE.below m3 hb4
  have x4 : RdE bv w4 A4 n4 c4 (flatN L) := o4.rd
  have r4 := r2a.keep (Kp.below hb4 (fun b h => h)) (fun b h => Nat.lt_of_lt_of_le h hb4.size)
  have hn4 : n4 = blkSz L := by rw [← o4.len, flatN_len]
  subst hn4
  clear r2a m3 hb4 hB3 o4 r3
  have q1 : IntKind.i64.wrap ((blkSz L : Int) + z4) = (blkSz L : Int) + z4 := IntWalk.i64_in _ (by omega)
  have t1 : ((blkSz L : Int) != (blkSz L : Int)) = false := by simp
  by_cases hneg : z4 < 0
  · have hS := side_no A2 n2 c2 _ L ((blkSz L : Int) + z4) w4 r4 (fun b h => h) (by omega) I2 e1 (by omega) (by omega)
    have t2 : decide (z4 ≥ 0) = false := decide_eq_false (by omega)
    go_wp2_with fail
    refine hS.mono ?_
    rintro e w5 ⟨rfl, hb5⟩
    have hB5 := BlE.below hB4 hb5
    have r5 := r4.keep (Kp.below hb5 (fun b h => h)) (fun b h => Nat.lt_of_lt_of_le h hb5.size)
    have hRi := right_any A2 n2 c2 _ L w5 r5 (fun b h => h) (by omega) I2'
    rw [e1] at hRi
    go_wp2_with fail
    refine hRi.mono ?_
    rintro e w6 ⟨rfl, hb6⟩
    have hB6 := BlE.below hB5 hb6
    have r6 := r5.keep (Kp.below hb6 (fun b h => h)) (fun b h => Nat.lt_of_lt_of_le h hb6.size)
    have hZ := size_any A2 n2 c2 _ L w6 r6 (fun b h => h) (by omega) I2
    go_wp2_with fail
    refine hZ.mono ?_
    rintro e w7 ⟨rfl, hb7⟩
    go_wp2
    go_ret
    exact ⟨rfl, BlE.below hB6 hb7⟩
  · obtain ⟨k4, rfl⟩ : ∃ k : Nat, z4 = (k : Int) := ⟨z4.toNat, by omega⟩
    have hS := side_yes A2 n2 c2 _ L (blkSz L + k4) w4 r4 (fun b h => h) (by omega) I2 e1 (by omega) (by omega)
    rw [sideN_eq, Int.natCast_add] at hS
    have t2 : decide ((k4 : Int) ≥ 0) = true := decide_eq_true (by omega)
    have hmk := Try.mkN .i16 k4 (by omega)
    clear hneg
    go_wp2_with fail
    refine hS.mono ?_
    rintro e w5 ⟨A5, n5, c5, rfl, o5, hb5⟩
    have hB5 := BlE.below hB4 hb5
    have m5 := RdE.below m4 hb5
    have x5 := RdE.below x4 hb5
    have p5 : RdE bv w5 A5 n5 c5 _ := o5.rd
    have r5 := r4.keep (Kp.below hb5 (fun b h => h)) (fun b h => Nat.lt_of_lt_of_le h hb5.size)
    have hn5 : n5 ≤ 9223372036854775807 := by rw [← o5.len, List.length_append, flatN_len, List.length_replicate]; omega
    have hRi := right_any A2 n2 c2 _ L w5 r5 (fun b h => h) (by omega) I2'
    rw [e1] at hRi
    clear r4 m4 x4 hb5 hB4 hS o5
    go_wp2_with fail
    refine hRi.mono ?_
    rintro e w6 ⟨rfl, hb6⟩
    have hB6 := BlE.below hB5 hb6
    have m6 := RdE.below m5 hb6
    have x6 := RdE.below x5 hb6
    have p6 := RdE.below p5 hb6
    have r6 := r5.keep (Kp.below hb6 (fun b h => h)) (fun b h => Nat.lt_of_lt_of_le h hb6.size)
    have hZ := size_any A2 n2 c2 _ L w6 r6 (fun b h => h) (by omega) I2
    clear r5 m5 x5 p5 hb6 hB5 hRi
    go_wp2_with fail
    refine hZ.mono ?_
    rintro e w7 ⟨rfl, hb7⟩
    have hB7 := BlE.below hB6 hb7
    have m7 := RdE.below m6 hb7
    have x7 := RdE.below x6 hb7
    have p7 := RdE.below p6 hb7
    have r7 := r6.keep (Kp.below hb7 (fun b h => h)) (fun b h => Nat.lt_of_lt_of_le h hb7.size)
    clear r6 m6 x6 p6 hb7 hB6 hZ
    have q7 : RdE bv (w7.alloc (.cells (zerosC k4) 5)) (some ⟨w7.heap.size, 0, none⟩) k4 k4 (List.replicate k4 0) := RdE.made (f := bv) rfl rfl (by simp)
    have x7a := RdE.alloc x7 (o := (.cells (zerosC k4) 5))
    go_wp2_with (first
      | (go_at_call 16
         refine (join2_any _ _ A4 (some ⟨w7.heap.size, 0, none⟩) (blkSz L) c4 k4 k4 _ (flatN L) (List.replicate k4 0) (by simp) x7a q7 (Nat.le_refl _) (by omega)).mono ?_
         rintro e w8 ⟨A8, n8, c8, rfl, o8, hb8⟩)
      | fail)
    have hb8' : BlE w7 w8 := BlE.below (BlE.alloc (BlE.refl w7)) hb8
    have hB8 := BlE.below hB7 hb8'
    have m8 := RdE.below m7 hb8'
    have x8 := RdE.below x7 hb8'
    have p8 := RdE.below p7 hb8'
    have r8 := r7.keep (Kp.below hb8' (fun b h => h)) (fun b h => Nat.lt_of_lt_of_le h hb8'.size)
    clear r7 m7 x7 p7 hb8 hB7 x7a q7 hmk
    refine (same_yes A5 A8 n5 c5 n8 c8 _ _ _ w8 p8 o8.rd hn5).mono ?_
    rintro e w9 ⟨rfl, hs9⟩
    have hb9 := hs9.below w8.heap.size
    have hB9 := BlE.below hB8 hb9
    have m9 := RdE.below m8 hb9
    have x9 := RdE.below x8 hb9
    have r9 := r8.keep (Kp.below hb9 (fun b h => h)) (fun b h => Nat.lt_of_lt_of_le h hb9.size)
    clear r8 m8 x8 p8 hb9 hB8 hs9 o8 hb8'
    go_wp2_with fail
    refine (cut_any M mn mc _ ms 300 w9 m9 (Nat.le_refl _) hmn' (by omega) (by omega)).mono ?_
    rintro e v1 ⟨C1, d1, g1, rfl, o1, k1⟩
    have hC1 := BlE.below hB9 k1
    have y1 := RdE.below x9 k1
    have f1 : RdE bv v1 C1 d1 g1 _ := o1.rd
    have s1 := r9.keep (Kp.below k1 (fun b h => h)) (fun b h => Nat.lt_of_lt_of_le h k1.size)
    have hd1 : d1 ≤ 300 := by rw [← o1.len, List.length_take]; exact Nat.min_le_left _ _
    generalize ms.take (300 : Int).toNat = ms3 at *
    clear r9 m9 x9 k1 hB9 o1
    go_wp2_with (go_at_call 16
                 refine (join2_any v1 _ A4 C1 (blkSz L) c4 d1 g1 _ (flatN L) ms3 (by simp) y1 f1 (Nat.le_refl _) (by omega)).mono ?_
                 rintro e v2 ⟨C2, d2, g2, rfl, o2, k2⟩)
    have hC2 := BlE.below hC1 k2
    have f2 : RdE bv v2 C2 d2 g2 _ := o2.rd
    have s2 := s1.keep (Kp.below k2 (fun b h => h)) (fun b h => Nat.lt_of_lt_of_le h k2.size)
    have hd2 : d2 ≤ 2000000 := by rw [← o2.len, List.length_append, flatN_len, Rd.len f1]; omega
    obtain ⟨pf1, pf2⟩ := parse_front L ms3 I1.out (by rw [HLn.out]; omega)
    obtain ⟨j1, j2, j3, j4⟩ := parseN_inv (flatN L ++ ms3)
    rw [List.length_append, flatN_len, Rd.len f1] at j3
    have hP := parse_any C2 d2 g2 _ _ v2 f2 (Nat.le_refl _) (by omega)
    have hQ := fun w h => parse5_any C2 d2 g2 _ (flatN L ++ ms3) w h (Nat.le_refl _) (by omega)
    generalize parseN (flatN L ++ ms3) = B at *
    have J2 : Hid (∀ x ∈ B, x.data.length ≤ 9223372036854775807) := fun x hx => by have := j2 x hx; omega
    clear s1 f1 y1 k2 hC1 o2 j1 j2
    refine hP.mono ?_
    rintro e v3 ⟨C3, d3, g3, rfl, b3, k3⟩
    have hC3 := BlE.below hC2 k3
    have f3 := RdE.below f2 k3
    have s3 := s2.keep (Kp.below k3 (fun b h => h)) (fun b h => Nat.lt_of_lt_of_le h k3.size)
    have hd3 : d3 ≤ 512 := by rw [← b3.len]; exact j4
    have hd3' : n2 ≤ d3 := by rw [← b3.len, ← HLn.out]; exact pf2
    have hcap3 := b3.cap
    go_wp2_with fail
    refine (hQ v3 f3).mono ?_
    rintro e v4 ⟨C4, d4, g4, rfl, b4, k4'⟩
    have hC4 := BlE.below hC3 k4'
    have s4 := s3.keep (Kp.below k4' (fun b h => h)) (fun b h => Nat.lt_of_lt_of_le h k4'.size)
    have b3a := b3.keep (Kp.below k4' (fun b h => h)) (fun b h => Nat.lt_of_lt_of_le h k4'.size)
    have hd4 : d4 ≤ 512 := by rw [← b4.len]; exact j4
    clear s2 s3 f2 f3 k3 k4' hC2 hC3 b3 hP hQ
    go_wp2_with fail
    refine (own5_any C3 d3 g3 _ B v4 b3a (fun b h => h) (by omega)).mono ?_
    rintro e v5 ⟨C5, d5, g5, rfl, b5, k5⟩
    have hC5 := BlE.below hC4 k5
    have s5 := s4.keep (Kp.below k5 (fun b h => h)) (fun b h => Nat.lt_of_lt_of_le h k5.size)
    have b3b := b3a.keep (Kp.below k5 (fun b h => h)) (fun b h => Nat.lt_of_lt_of_le h k5.size)
    have b4b := b4.keep (Kp.below k5 (fun b h => h)) (fun b h => Nat.lt_of_lt_of_le h k5.size)
    have hd5 : d5 ≤ 512 := by rw [← b5.len]; exact j4
    clear s4 b3a b4 k5 hC4
    go_wp2_with fail
    refine (same5_yes C5 C4 d5 g5 d4 g4 _ _ B v5 b5 b4b (by omega) J2).mono ?_
    rintro e v6 ⟨rfl, hs6⟩
    have k6 := hs6.below v5.heap.size
    have hC6 := BlE.below hC5 k6
    have s6 := s5.keep (Kp.below k6 (fun b h => h)) (fun b h => Nat.lt_of_lt_of_le h k6.size)
    have b3c := b3b.keep (Kp.below k6 (fun b h => h)) (fun b h => Nat.lt_of_lt_of_le h k6.size)
    have b4c := b4b.keep (Kp.below k6 (fun b h => h)) (fun b h => Nat.lt_of_lt_of_le h k6.size)
    clear s5 b3b b4b k6 hs6 hC5 b5
    go_wp2_with fail
    refine (flat_any C4 d4 g4 _ B v6 b4c (fun b h => h) (by omega) (by omega)).mono ?_
    rintro e v7 ⟨C7, d7, g7, rfl, o7, k7⟩
    have hC7 := BlE.below hC6 k7
    have s7 := s6.keep (Kp.below k7 (fun b h => h)) (fun b h => Nat.lt_of_lt_of_le h k7.size)
    have b3d := (b3c.keep (Kp.below k7 (fun b h => h)) (fun b h => Nat.lt_of_lt_of_le h k7.size)).take n2 hd3'
    have hd7 : d7 = blkSz B := by rw [← o7.len, flatN_len]
    subst hd7
    have t5 : ((blkSz B : Int) == (blkSz B : Int)) = true := by simp
    have hpf : B.take n2 = L := by rw [← HLn.out]; exact pf1
    rw [hpf] at b3d
    have t6 : decide ((d3 : Int) ≥ (n2 : Int)) = true := decide_eq_true (by omega)
    have t7 : (n2 : Int) ≤ (g3 : Int) := by omega
    have t8 : n2 ≤ g3 := by omega
    have hSm := bsame_yes C3 A2 n2 g3 n2 c2 _ _ L v7 b3d s7 (fun b h => h) (fun b h => h) (by omega)
    clear s6 b3c b4c k7 hC6 o7 hpf pf1 pf2
    go_wp2_with fail
    refine hSm.mono ?_
    rintro e v8 ⟨rfl, k8⟩
    have hC8 := BlE.below hC7 k8
    go_wp2
    go_ret
    exact ⟨rfl, hC8⟩

end Go.Proofs.Ytgjnkaakhfbblaa
