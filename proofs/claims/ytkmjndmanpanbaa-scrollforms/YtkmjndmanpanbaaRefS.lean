/- Contracts of package kotatsuref03: Mark, Record, Bytes. No law is claimed here. -/
import Derived.Test.YtkmjndmanpanbaaRdE
import Derived.Test.YtkmjndmanpanbaaPair
namespace Go.Proofs.Ytkmjndmanpanbaa
open Go.RowKit

set_option maxRecDepth 100000 in
set_option maxHeartbeats 2000000 in
theorem xmark_any (g n : Int) (w : World) (hg : 0 ≤ g) (hg2 : g < 4294967296) (hn : 0 ≤ n) (hn2 : n < 4294967296) :
    Calls Try.prog 29 #[.int .u32 g, .int .i64 n] w (RetL bv 5 w (frameN (markC g.toNat n.toNat))) := by
  have e4 : (4 : Int).toNat = 4 := rfl
  have HE4 := Lib.hid e4
  clear e4
  go_enter Try.func29, Try.ntmps29
  go_wp2_with fail
  refine (rlay_any g 4 _ hg (by omega) (by omega) (by omega)).mono ?_
  rintro e w1 ⟨A1, n1, c1, rfl, ho1, hb1⟩
  rw [HE4.out] at ho1
  go_wp2_with fail
  refine (rlay_any n 4 _ hn (by omega) (by omega) (by omega)).mono ?_
  rintro e w2 ⟨A2, n2, c2, rfl, ho2, hb2⟩
  rw [HE4.out] at ho2
  have q0 : RdE bv w2 (some ⟨w.heap.size, 0, none⟩) 1 1 [2] := ((RdE.made (w := w) (e := 5) (fr := (0, 0)) (cs := #[.int .u8 2]) (f := bv) (xs := [2]) rfl rfl rfl).below hb1).below hb2
  have q1 := (RdE.own ho1).below hb2
  have q2 := RdE.own ho2
  have bl2 : BlE w w2 := ((BlE.refl w).alloc.below hb1).below hb2
  go_wp2_with fail
  refine (join_list w2 _ 3 _ [(some ⟨w.heap.size, 0, none⟩, 1, 1), (A1, n1, c1), (A2, n2, c2)] [[2], layN g.toNat 4, layN n.toNat 4] rfl rfl rfl rfl (fun j s ys hs hy => by
    match j, hs, hy with
    | 0, hs, hy => simp at hs hy; subst hs; subst hy; exact q0
    | 1, hs, hy => simp at hs hy; subst hs; subst hy; exact q1
    | 2, hs, hy => simp at hs hy; subst hs; subst hy; exact q2) (by simp [layN_len]) (by omega)).mono ?_
  rintro e w3 ⟨A3, n3, c3, rfl, ho3, hb3⟩
  have hfl : [[2], layN g.toNat 4, layN n.toNat 4].flatten = markC g.toNat n.toNat := by simp [markC]
  rw [hfl] at ho3
  have hn3 : n3 = 9 := by rw [← ho3.len, markC_len]
  subst hn3
  go_wp2_with fail
  refine (rframe_any A3 9 c3 w3.heap.size _ w3 ho3.rd (Nat.le_refl _) (by omega)).mono ?_
  rintro e w4 ⟨A4, n4, c4, rfl, ho4, hb4⟩
  have bl4 := (bl2.below hb3).below hb4
  go_wp2
  go_ret
  exact ⟨A4, n4, c4, rfl, ho4.lower (bl2.below hb3).size, bl4⟩

theorem wrap_u64_in (z : Int) (h0 : 0 ≤ z) (h1 : z < 4294967296) : IntKind.u64.wrap z = z := by
  have := wrap_uns .u64 rfl z.toNat (Nat.lt_trans (show z.toNat < 4294967296 by omega) (by decide))
  rw [Int.toNat_of_nonneg h0] at this
  exact this
theorem wrap_u8_in (z : Int) (h0 : 0 ≤ z) (h1 : z < 256) : IntKind.u8.wrap z = z := by
  rw [wrap_u8_mod]; omega

set_option maxRecDepth 100000 in
set_option maxHeartbeats 8000000 in
theorem xrecord_any (s0 : UInt8) (a g i : Int) (A : Option Addr) (n c : Nat) (d : List UInt8) (w : World) (hr : RdE bv w A n c d) (hl : n ≤ 6000) (ha : 0 ≤ a) (ha2 : a ≤ 100000) (hg : 0 ≤ g) (hg2 : g < 4294967296) (hi0 : 0 ≤ i) (hi2 : i < 4294967296) :
    Calls Try.prog 28 #[.int .u32 g, .int .i64 i, .agg #[.int .i64 (s0.toNat : Int), .int .i64 a, .slice A n c]] w (RetL bv 5 w (frameN (recC g.toNat i.toNat s0 a.toNat d))) := by
  have e4 : (4 : Int).toNat = 4 := rfl
  have HE4 := Lib.hid e4
  clear e4
  have hs := s0.toNat_lt
  have hs' : (s0.toNat : Int) < 256 := by omega
  have h0 : Has (w.alloc (.cells #[.int .i64 (s0.toNat : Int), .int .i64 a, .slice A n c] 59)) w.heap.size 0 (.int .i64 (s0.toNat : Int)) := Has.made rfl rfl
  have h1 : Has (w.alloc (.cells #[.int .i64 (s0.toNat : Int), .int .i64 a, .slice A n c] 59)) w.heap.size 1 (.int .i64 a) := Has.made rfl rfl
  have h2 : Has (w.alloc (.cells #[.int .i64 (s0.toNat : Int), .int .i64 a, .slice A n c] 59)) w.heap.size 2 (.slice A n c) := Has.made rfl rfl
  have hd := RdE.alloc hr (o := (.cells #[.int .i64 (s0.toNat : Int), .int .i64 a, .slice A n c] 59))
  have bl0 := (BlE.refl w).alloc (o := (.cells #[.int .i64 (s0.toNat : Int), .int .i64 a, .slice A n c] 59))
  have hnl := hr.len
  have HNL := Lib.hid hnl
  clear hnl hs hr
  have HFL : Hid ([[1], layN g.toNat 4, layN i.toNat 4, [s0], layN a.toNat 4, d].flatten = recC g.toNat i.toNat s0 a.toNat d) := by show _ = _; simp [recC]
  have k1 := wrap_u64_in g hg hg2
  have k2 := wrap_u64_in i hi0 hi2
  have k3 := wrap_u64_in a ha (by omega)
  have k4 := wrap_u8_in (s0.toNat : Int) (by omega) hs'
  go_enter Try.func28, Try.ntmps28
  go_wp2_with fail
  generalize w.alloc (.cells #[.int .i64 (s0.toNat : Int), .int .i64 a, .slice A n c] 59) = W at *
  go_region_held3 (fun w' => w'.cell? ⟨w.heap.size, 0, none⟩ = some (.int .i64 (s0.toNat : Int)) ∧ w'.cell? ⟨w.heap.size, 1, none⟩ = some (.int .i64 a) ∧ w'.cell? ⟨w.heap.size, 2, none⟩ = some (.slice A n c))
    (refine ⟨Has.cell ?_, Has.cell ?_, Has.cell ?_⟩ <;> repeat (with_reducible first | exact h0 | exact h1 | exact h2 | refine Has.drew ?_ | refine Has.alloc ?_ | refine Has.below ?_ hbE | refine Has.below ?_ hbD | refine Has.below ?_ hbC | refine Has.below ?_ hbB | refine Has.below ?_ hbA))
    (first
    | (go_at_call_of 43 (Value.int .u64 g); refine (rlay_any g 4 _ hg (by omega) (by omega) (by omega)).mono ?_; rintro e wA ⟨AA, nA, cA, rfl, hoA, hbA⟩; rw [HE4.out] at hoA)
    | (go_at_call_of 43 (Value.int .u64 i); refine (rlay_any i 4 _ hi0 (by omega) (by omega) (by omega)).mono ?_; rintro e wB ⟨AB, nB, cB, rfl, hoB, hbB⟩; rw [HE4.out] at hoB)
    | (go_at_call_of 43 (Value.int .u64 a); refine (rlay_any a 4 _ ha (by omega) (by omega) (by omega)).mono ?_; rintro e wC ⟨AC, nC, cC, rfl, hoC, hbC⟩; rw [HE4.out] at hoC)
    | (go_at_call 11; refine (join_list _ _ 6 _ [(some ⟨_, 0, none⟩, 1, 1), (AA, nA, cA), (AB, nB, cB), (some ⟨_, 0, none⟩, 1, 1), (AC, nC, cC), (A, n, c)] [[1], layN g.toNat 4, layN i.toNat 4, [s0], layN a.toNat 4, d] (by simp) rfl rfl rfl (fun j s ys hs hy => by
        match j, hs, hy with
        | 0, hs, hy => simp at hs hy; subst hs; subst hy; repeat (with_reducible first | (refine RdE.byte (x := 1) (z := 1) rfl ?_; (simp; done)) | refine RdE.drew ?_ | refine RdE.alloc ?_ | refine RdE.below ?_ hbC | refine RdE.below ?_ hbB | refine RdE.below ?_ hbA)
        | 1, hs, hy => simp at hs hy; subst hs; subst hy; repeat (with_reducible first | exact RdE.own hoA | refine RdE.drew ?_ | refine RdE.alloc ?_ | refine RdE.below ?_ hbC | refine RdE.below ?_ hbB)
        | 2, hs, hy => simp at hs hy; subst hs; subst hy; repeat (with_reducible first | exact RdE.own hoB | refine RdE.drew ?_ | refine RdE.alloc ?_ | refine RdE.below ?_ hbC)
        | 3, hs, hy => simp at hs hy; subst hs; subst hy; repeat (with_reducible first | (refine RdE.byte (x := s0) (z := (s0.toNat : Int)) rfl ?_; (simp; done)) | refine RdE.drew ?_ | refine RdE.alloc ?_ | refine RdE.below ?_ hbC | refine RdE.below ?_ hbB | refine RdE.below ?_ hbA)
        | 4, hs, hy => simp at hs hy; subst hs; subst hy; repeat (with_reducible first | exact RdE.own hoC | refine RdE.drew ?_ | refine RdE.alloc ?_)
        | 5, hs, hy => simp at hs hy; subst hs; subst hy; repeat (with_reducible first | exact hd | refine RdE.drew ?_ | refine RdE.alloc ?_ | refine RdE.below ?_ hbC | refine RdE.below ?_ hbB | refine RdE.below ?_ hbA)) (by simp [layN_len, HNL.out]; omega) (by omega)).mono ?_; rintro e wD ⟨AD, nD, cD, rfl, hoD, hbD⟩; rw [HFL.out] at hoD; have hnD : nD ≤ 6014 := by have := hoD.len; rw [recC_len, HNL.out] at this; omega)
    | (go_at_call 42; refine (rframe_any AD nD cD wD.heap.size _ wD hoD.rd (Nat.le_refl _) (by omega)).mono ?_; rintro e wE ⟨AE, nE, cE, rfl, hoE, hbE⟩))
  all_goals
    go_wp2
    go_ret
    have blD : BlE w wD := by repeat (with_reducible first | exact bl0 | refine BlE.drew ?_ | refine BlE.alloc ?_ | refine BlE.below ?_ hbD | refine BlE.below ?_ hbC | refine BlE.below ?_ hbB | refine BlE.below ?_ hbA)
    exact ⟨AE, nE, cE, rfl, hoE.lower blD.size, blD.below hbE⟩

end Go.Proofs.Ytkmjndmanpanbaa
