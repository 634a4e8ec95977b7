/- Blocks that are laid (walk). No law is claimed here. -/
import Derived.Test.YtghbgehmaejggaaDoorGrv15
namespace Go.Proofs.YtghbgehmaejggaaDoor
open Go.RowKit

theorem disk_data2 (sign : List UInt8) (side : UInt8) (fs : List (List Bm)) (h : ∀ x ∈ fs.flatten, x.data.length ≤ 200) : ∀ x ∈ diskN sign side fs, x.data.length ≤ 200 := by
  intro x hx
  unfold diskN at hx
  simp only [List.cons_append, List.nil_append, List.mem_cons] at hx
  rcases hx with rfl | rfl | hx
  · simp [dheadN_len]
  · simp
  · exact h x hx
theorem mad7_data (fs : List (List UInt8)) (less : Nat) : ∀ x ∈ mad7 fs less, x.data.length ≤ 200 := fun x hx => disk_data2 _ _ _ (fiBs_data _ _) x (List.mem_of_mem_take hx)
theorem mad7_len (fs : List (List UInt8)) (less : Nat) : (mad7 fs less).length ≤ 18 := by
  unfold mad7
  have h := diskN_len [75] 0 (fiBs fs fs.length) (fiBs_file _ _)
  rw [fiBs_len] at h
  rw [List.length_take]; omega
theorem mad7_rgt (fs : List (List UInt8)) (less : Nat) : rgtB (mad7 fs less) = true := by
  refine rgt_of_fits (Nat.le_trans (mad7_len fs less) (by omega)) ?_
  unfold mad7
  rw [fitsB_take _ _ _ (by rw [List.length_take]; omega)]
  exact fitsB_mono (fits_diskN _ _ _ (fiBs_file _ _)) (by rw [List.length_take]; omega)
theorem gAt_le2 (l : List Bm) (k : Nat) (h : ∀ x ∈ l, x.data.length ≤ 200) (hk : k ≤ l.length) : gAt l k ≤ 3500 + k * 324 := by
  induction k with
  | zero => simp [gAt]
  | succ k ih =>
    have hk' : k < l.length := by omega
    rw [gAt_snoc l k hk']
    have h1 := h l[k] (List.getElem_mem hk')
    have h2 := ih (by omega)
    unfold gRoom
    omega
/-- what lies at a block's place -/
theorem grv_drop (l : List Bm) (k : Nat) (hk : k < l.length) : ∃ rest, (grvN l).drop (gAt l k) = gBlk l[k] ++ rest := by
  refine ⟨((l.drop (k + 1)).map gBlk).flatten, ?_⟩
  have e : grvN l = (List.replicate 3500 0 ++ ((l.take k).map gBlk).flatten) ++ (gBlk l[k] ++ ((l.drop (k + 1)).map gBlk).flatten) := by
    unfold grvN
    conv => lhs; rw [← List.take_append_drop k l, List.drop_eq_getElem_cons hk, List.map_append, List.flatten_append, List.map_cons, List.flatten_cons]
    simp only [List.append_assoc]
  rw [e, List.drop_left' (gFront_len l k)]
theorem grv_at (l : List Bm) (k : Nat) (hk : k < l.length) : (grvN l)[gAt l k]? = some 128 ∧ (grvN l)[gAt l k + 1]? = some l[k].kind ∧ ((grvN l).drop (gAt l k + 2)).take l[k].data.length = l[k].data := by
  obtain ⟨rest, h⟩ := grv_drop l k hk
  rw [gBlk_cons] at h
  refine ⟨?_, ?_, ?_⟩
  · have := congrArg (·[0]?) h; simpa using this
  · have := congrArg (·[1]?) h; simpa using this
  · rw [← List.drop_drop, h]
    simp only [List.drop_succ_cons, List.drop_zero]
    exact List.take_left

end Go.Proofs.YtghbgehmaejggaaDoor
