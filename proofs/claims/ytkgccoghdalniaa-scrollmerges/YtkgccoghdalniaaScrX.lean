/- The contract of the reference's Apply. No law is claimed here. -/
import Derived.Test.YtkgccoghdalniaaScrP2
namespace Go.Proofs.Ytkgccoghdalniaa
open Go.RowKit

theorem lay_nil (xs : List UInt8) (p : Nat) : lay xs p [] = xs := by simp [lay]
theorem lay_get (xs ys : List UInt8) (p : Nat) (h : p + ys.length ≤ xs.length) (i : Nat) : (lay xs p ys)[i]? = if p ≤ i ∧ i < p + ys.length then ys[i - p]? else xs[i]? := by
  unfold lay
  have hm : (xs.take p).length = p := by simp; omega
  rcases Nat.lt_or_ge i p with hi | hi
  · rw [List.getElem?_append_left (by omega), if_neg (by omega), List.getElem?_take, if_pos hi]
  · rw [List.getElem?_append_right (by omega), hm]
    rcases Nat.lt_or_ge i (p + ys.length) with hj | hj
    · rw [List.getElem?_append_left (by omega), if_pos ⟨hi, hj⟩]
    · rw [List.getElem?_append_right (by omega), if_neg (by omega), List.getElem?_drop]
      congr 1; omega
theorem lay_set (xs ys : List UInt8) (p k : Nat) (h : p + ys.length ≤ xs.length) (hk : k < ys.length) : (lay xs p (ys.take k)).set (p + k) ys[k] = lay xs p (ys.take (k + 1)) := by
  have l1 : (ys.take k).length = k := by simp; omega
  have l2 : (ys.take (k + 1)).length = k + 1 := by simp; omega
  have h1 : (lay xs p (ys.take k)).length = xs.length := lay_len _ _ _ (by omega)
  apply List.ext_getElem?
  intro i
  rw [List.getElem?_set, h1, lay_get _ _ _ (by omega), lay_get _ _ _ (by omega), l1, l2]
  split
  · rename_i e
    subst e
    rw [if_pos (by omega), if_pos (by omega), show p + k - p = k from by omega, List.getElem?_take, if_pos (by omega), List.getElem?_eq_getElem hk]
  · by_cases hc : p ≤ i ∧ i < p + k
    · rw [if_pos hc, if_pos (by omega), List.getElem?_take, List.getElem?_take, if_pos (by omega), if_pos (by omega)]
    · rw [if_neg hc, if_neg (by omega)]

end Go.Proofs.Ytkgccoghdalniaa
