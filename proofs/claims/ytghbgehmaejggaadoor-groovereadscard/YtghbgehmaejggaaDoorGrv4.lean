/- Package groove: Lay. No law is claimed here. -/
import Derived.Test.YtghbgehmaejggaaDoorGrv3
import Derived.Test.YtghbgehmaejggaaDoorBlk16
namespace Go.Proofs.YtghbgehmaejggaaDoor
open Go.RowKit

theorem lay_cons (xs : List UInt8) (k : Nat) (y : UInt8) (ys : List UInt8) (h : k < xs.length) : lay xs k (y :: ys) = lay (xs.set k y) (k + 1) ys := by
  unfold lay
  rw [List.drop_set_of_lt (by omega), List.length_cons, show k + (ys.length + 1) = k + 1 + ys.length from by omega]
  have : (xs.set k y).take (k + 1) = xs.take k ++ [y] := by
    rw [List.take_succ_eq_append_getElem (by simpa using h), List.take_set_of_le (by omega)]
    simp
  rw [this]; simp
theorem lay_two (xs : List UInt8) (k : Nat) (a b : UInt8) (h : k + 1 < xs.length) : lay xs k [a, b] = (xs.set k a).set (k + 1) b := by
  rw [lay_cons xs k a [b] (by omega), lay_cons _ (k + 1) b [] (by simpa using h), lay_nil]
theorem gPart_step' (l : List Bm) (k : Nat) (hk : k < l.length) : Hid (gPart l (k + 1) = ((lay (((gPart l k).set (gAt l k) 128).set (gAt l k + 1) l[k].kind) (gAt l k + 2) l[k].data).set (gAt l k + (2 + l[k].data.length)) (u8N (shortN (gHead l[k]) % 256))).set (gAt l k + (2 + l[k].data.length) + 1) (u8N (shortN (gHead l[k]) / 256))) := by
  have hs := gAt_snoc l k hk
  have hm := gAt_mono l (k + 1) l.length (by omega) (Nat.le_refl _)
  have hl := gPart_len l k (by omega)
  unfold gRoom at hs
  unfold gFull at hl
  show _ = _
  rw [gPart_step l k hk]
  have h1 : lay (gPart l k) (gAt l k) (gHead l[k]) = lay (((gPart l k).set (gAt l k) 128).set (gAt l k + 1) l[k].kind) (gAt l k + 2) l[k].data := by
    unfold gHead
    rw [lay_cons _ _ _ _ (by omega), lay_cons _ _ _ _ (by rw [List.length_set]; omega)]
  rw [h1]
  unfold gSum
  rw [lay_two _ _ _ _ (by rw [lay_len _ _ _ (by simp only [List.length_set]; omega)]; simp only [List.length_set]; omega)]
/-- what is summed: the block's head and data -/
theorem lay_head (P : List UInt8) (a : Nat) (x : Bm) (h : a + (2 + x.data.length) ≤ P.length) : ((lay ((P.set a 128).set (a + 1) x.kind) (a + 2) x.data).drop a).take (2 + x.data.length) = gHead x := by
  have h1 : lay P a (gHead x) = lay ((P.set a 128).set (a + 1) x.kind) (a + 2) x.data := by
    unfold gHead
    rw [lay_cons _ _ _ _ (by omega), lay_cons _ _ _ _ (by rw [List.length_set]; omega)]
  rw [← h1]
  unfold lay
  have hh : (gHead x).length = 2 + x.data.length := by simp [gHead]; omega
  rw [List.drop_append, List.drop_of_length_le (by rw [List.length_take]; omega), List.nil_append, List.length_take, Nat.min_eq_left (by omega), Nat.sub_self, List.drop_zero, List.take_append_of_le_length (by omega), List.take_of_length_le (by omega)]

end Go.Proofs.YtghbgehmaejggaaDoor
