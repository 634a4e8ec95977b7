/- Contracts: the law's own, the document's Flat, block.Parse. No law is claimed here. -/
import Derived.Test.YtghbgehmaejggaaDoorBlk4
namespace Go.Proofs.YtghbgehmaejggaaDoor
open Go.RowKit

theorem Tryd.infoRBt : (Tryd.prog.info? 44).map (fun i => (i.zero, i.size, i.bytes)) = some (some (.agg #[.int .u8 0, .slice none 0 0]), 2, 32) := by kernel_rfl

/-- the bytes of blocks -/
def flatN (l : List Bm) : List UInt8 := (l.map fun x => x.kind :: x.data).flatten
theorem flatN_snoc (l : List Bm) (k : Nat) (h : k < l.length) : flatN (l.take (k + 1)) = flatN (l.take k) ++ [l[k].kind] ++ l[k].data := by
  unfold flatN; rw [List.take_succ_eq_append_getElem h, List.map_append, List.flatten_append]; simp
theorem flatN_len (l : List Bm) : (flatN l).length = blkSz l := by
  unfold flatN blkSz; rw [List.length_flatten, List.map_map]
  congr 1
  exact List.map_congr_left (fun x _ => by simp; omega)
theorem blkSz_take (l : List Bm) (k : Nat) : blkSz (l.take k) ≤ blkSz l := by
  have h : blkSz (l.take k ++ l.drop k) = blkSz (l.take k) + blkSz (l.drop k) := by unfold blkSz; rw [List.map_append, List.sum_append]
  rw [List.take_append_drop] at h; omega

/-- the block that comes next of the bytes xs behind the blocks l -/
def parStep (xs : List UInt8) (l : List Bm) : Option Bm :=
  if l.length < 512 ∧ blkSz l + 1 + sizeN l.length (ahead l l.length) ≤ xs.length ∧ (xs.getD (blkSz l) 0).toNat = kindN l.length then
    some ⟨xs.getD (blkSz l) 0, (xs.drop (blkSz l + 1)).take (sizeN l.length (ahead l l.length))⟩ else none
def parN (xs : List UInt8) : Nat → List Bm → List Bm
  | 0, l => l
  | f + 1, l => match parStep xs l with
    | some b => parN xs f (l ++ [b])
    | none => l
def parseN (xs : List UInt8) : List Bm := parN xs 512 []
/-- from here on it comes to r -/
def ParTo (xs : List UInt8) (l r : List Bm) : Prop := parN xs (512 - l.length) l = r
theorem ParTo.stop {xs : List UInt8} {l r : List Bm} (h : ParTo xs l r) (hs : parStep xs l = none) : l = r := by
  unfold ParTo at h
  cases hf : 512 - l.length with
  | zero => rw [hf] at h; exact h
  | succ f => rw [hf] at h; unfold parN at h; rw [hs] at h; exact h
theorem ParTo.go {xs : List UInt8} {l r : List Bm} {b : Bm} (h : ParTo xs l r) (hs : parStep xs l = some b) : ParTo xs (l ++ [b]) r := by
  unfold ParTo at *
  have hl : l.length < 512 := by
    unfold parStep at hs
    split at hs
    · rename_i hh; exact hh.1
    · cases hs
  rw [show 512 - l.length = (512 - (l ++ [b]).length) + 1 by simp; omega] at h
  unfold parN at h
  rw [hs] at h
  exact h
theorem okB_app (l : List Bm) (b : Bm) (i : Nat) (h : i < l.length) : okB (l ++ [b]) i = okB l i := by
  have := okB_take (l ++ [b]) l.length i h
  rw [List.take_left' rfl] at this
  exact this.symm
theorem ahead_app (l : List Bm) (b : Bm) (h : 0 < l.length) : ahead (l ++ [b]) l.length = ahead l l.length := by
  unfold ahead
  rw [List.getD_eq_getElem?_getD, List.getD_eq_getElem?_getD, List.getElem?_append_left (by omega)]
theorem parStep_fits {xs : List UInt8} {l : List Bm} {b : Bm} (hs : parStep xs l = some b) (h : fitsB l l.length = true) : fitsB (l ++ [b]) (l ++ [b]).length = true := by
  rw [fitsB_iff] at *
  intro i hi
  simp at hi
  rcases Nat.lt_or_ge i l.length with h1 | h1
  · rw [okB_app l b i h1]; exact h i h1
  · have : i = l.length := by omega
    subst this
    unfold parStep at hs
    split at hs
    · rename_i hh
      injection hs with hs
      subst hs
      rw [okB_iff]
      have hg : (l ++ [(⟨xs.getD (blkSz l) 0, (xs.drop (blkSz l + 1)).take (sizeN l.length (ahead l l.length))⟩ : Bm)]).getD l.length blkD = ⟨xs.getD (blkSz l) 0, (xs.drop (blkSz l + 1)).take (sizeN l.length (ahead l l.length))⟩ := by
        rw [List.getD_eq_getElem?_getD, List.getElem?_append_right (Nat.le_refl _)]; simp
      rw [hg]
      refine ⟨hh.2.2, ?_⟩
      rcases Nat.eq_zero_or_pos l.length with h0 | h0
      · have hl0 : l = [] := List.eq_nil_of_length_eq_zero h0
        subst hl0
        simp [sizeN, blkSz] at hh ⊢
        omega
      · rw [ahead_app l _ h0]
        simp
        omega
    · cases hs
theorem blkSz_app (l : List Bm) (b : Bm) : blkSz (l ++ [b]) = blkSz l + (1 + b.data.length) := by unfold blkSz; rw [List.map_append, List.sum_append]; simp

def lenV : Value → Nat
  | .slice _ n _ => n
  | _ => 0
/-- what Parse answers -/
def RetP (w : World) (l : List Bm) (r : Ending) (w' : World) : Prop :=
  ∃ A n c, r = .returned (.tuple #[.slice A n c, .int .i64 (blkSz l : Int)]) ∧ RdX shB w' (· < w'.heap.size) A n c l ∧ Below w.heap.size w w'

end Go.Proofs.YtghbgehmaejggaaDoor
