/- Package groove: Lay, as numbers. No law is claimed here. -/
import Derived.Test.YtghbgehmaejggaaDoorGrv2
namespace Go.Proofs.YtghbgehmaejggaaDoor
open Go.RowKit

/-- a block as it is laid, without its sum -/
def gHead (b : Bm) : List UInt8 := 128 :: b.kind :: b.data
def gSum (b : Bm) : List UInt8 := [u8N (shortN (gHead b) % 256), u8N (shortN (gHead b) / 256)]
def gBlk (b : Bm) : List UInt8 := gHead b ++ gSum b ++ List.replicate 120 0
theorem gBlk_len (b : Bm) : (gBlk b).length = gRoom b := by simp [gBlk, gHead, gSum, gRoom]; omega
/-- what lies there behind k blocks -/
def gPart (l : List Bm) (k : Nat) : List UInt8 := List.replicate 3500 0 ++ ((l.take k).map gBlk).flatten ++ List.replicate (gFull l - gAt l k) 0
def grvN (l : List Bm) : List UInt8 := List.replicate 3500 0 ++ (l.map gBlk).flatten
theorem flatten_len (l : List Bm) : ((l.map gBlk).flatten).length = (l.map gRoom).sum := by
  induction l with
  | nil => rfl
  | cons b l ih => simp only [List.map_cons, List.flatten_cons, List.length_append, List.sum_cons, ih, gBlk_len]
theorem gFront_len (l : List Bm) (k : Nat) : (List.replicate 3500 (0 : UInt8) ++ ((l.take k).map gBlk).flatten).length = gAt l k := by
  rw [List.length_append, List.length_replicate, flatten_len]; rfl
theorem gPart_len (l : List Bm) (k : Nat) (hk : k ≤ l.length) : (gPart l k).length = gFull l := by
  unfold gPart
  rw [List.length_append, gFront_len, List.length_replicate]
  have := gAt_mono l k l.length hk (Nat.le_refl _)
  unfold gFull
  omega
theorem gPart_zero (l : List Bm) : gPart l 0 = List.replicate (gFull l) 0 := by
  have h := gAt_mono l 0 l.length (Nat.zero_le _) (Nat.le_refl _)
  have h0 : gAt l 0 = 3500 := by simp [gAt]
  unfold gPart
  simp only [List.take_zero, List.map_nil, List.flatten_nil, List.append_nil]
  rw [List.replicate_append_replicate, h0, show 3500 + (gFull l - 3500) = gFull l from by unfold gFull; omega]
theorem gPart_full (l : List Bm) : gPart l l.length = grvN l := by
  unfold gPart grvN
  rw [List.take_length, show gFull l - gAt l l.length = 0 from by unfold gFull; omega, List.replicate_zero, List.append_nil]
/-- one block more: its head is laid, its data, its sum -/
theorem gPart_step (l : List Bm) (k : Nat) (hk : k < l.length) :
    gPart l (k + 1) = lay (lay (gPart l k) (gAt l k) (gHead l[k])) (gAt l k + (2 + l[k].data.length)) (gSum l[k]) := by
  have hs := gAt_snoc l k hk
  have hm := gAt_mono l (k + 1) l.length (by omega) (Nat.le_refl _)
  have hf := gFront_len l k
  unfold gPart lay
  rw [List.take_succ_eq_append_getElem hk, List.map_append, List.flatten_append, hs]
  simp only [List.map_cons, List.map_nil, List.flatten_cons, List.flatten_nil, List.append_nil]
  rw [← List.append_assoc (List.replicate 3500 (0 : UInt8))]
  generalize hF : List.replicate 3500 (0 : UInt8) ++ ((l.take k).map gBlk).flatten = F at *
  generalize hA : gAt l k = A at *
  generalize l[k] = x at *
  have hfull : gFull l - A = (2 + x.data.length) + (2 + (120 + (gFull l - (A + gRoom x)))) := by
    unfold gFull gRoom at *; omega
  have hh : (gHead x).length = 2 + x.data.length := by simp [gHead]; omega
  have hg : (gSum x).length = 2 := rfl
  rw [hfull]
  generalize gFull l - (A + gRoom x) = R at *
  have e1 : (F ++ List.replicate (2 + x.data.length + (2 + (120 + R))) 0).take A = F := by rw [List.take_append_of_le_length (by omega), List.take_of_length_le (by omega)]
  have e2 : (F ++ List.replicate (2 + x.data.length + (2 + (120 + R))) 0).drop (A + (gHead x).length) = List.replicate (2 + (120 + R)) 0 := by
    rw [List.drop_append, List.drop_of_length_le (by omega), List.nil_append, List.drop_replicate, hh, hf]
    congr 1; omega
  rw [e1, e2]
  have hl2 : (F ++ gHead x).length = A + (2 + x.data.length) := by rw [List.length_append, hf, hh]
  rw [← List.append_assoc F]
  rw [List.take_append_of_le_length (by omega), List.take_of_length_le (by omega)]
  rw [List.drop_append, List.drop_of_length_le (by omega), List.nil_append, List.drop_replicate, hl2, hg]
  rw [show 2 + (120 + R) - (A + (2 + x.data.length) + 2 - (A + (2 + x.data.length))) = 120 + R from by omega, ← List.replicate_append_replicate (n := 120) (m := R)]
  unfold gBlk
  simp only [List.append_assoc]

end Go.Proofs.YtghbgehmaejggaaDoor
