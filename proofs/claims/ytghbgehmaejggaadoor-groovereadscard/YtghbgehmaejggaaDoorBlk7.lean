/- The document's example of layer 5; the walk of BlockMany. -/
import Derived.Test.YtghbgehmaejggaaDoorBlk6
namespace Go.Proofs.YtghbgehmaejggaaDoor
open Go.RowKit

theorem awakeL : blkSz (diskN (strN ⟨#[42]⟩) 0 []) = 58 ∧ rgtB (diskN (strN ⟨#[42]⟩) 0 []) = true ∧ rgtB ((diskN (strN ⟨#[42]⟩) 0 []).drop 1) = false ∧ (diskN (strN ⟨#[42]⟩) 0 []).length = 2 ∧ (∀ x ∈ diskN (strN ⟨#[42]⟩) 0 [], x.data.length ≤ 100000) := by
  refine ⟨by decide +kernel, by decide +kernel, by decide +kernel, by decide +kernel, ?_⟩
  intro x hx
  unfold diskN at hx
  simp at hx
  rcases hx with rfl | rfl
  · simp [dheadN_len]
  · simp

/-- the empty file of BlockMany -/
def F0 : List Bm := fileN 0 0 [] 0 0 []
theorem F0_file : isFile F0 := isFile_fileN _ _ _ _ _ _ (by simp)
theorem F0_data : ∀ x ∈ F0, x.data.length ≤ 100000 := by
  intro x hx
  unfold F0 fileN at hx
  simp at hx
  rcases hx with rfl | rfl
  · simp [headN_len]
  · simp
theorem rep_file (m : Nat) : ∀ f ∈ List.replicate m F0, isFile f := fun f hf => by rw [List.eq_of_mem_replicate hf]; exact F0_file
theorem rep_data (m : Nat) : ∀ x ∈ (List.replicate m F0).flatten, x.data.length ≤ 100000 := fun x hx => by
  obtain ⟨f, hf, hx⟩ := List.mem_flatten.1 hx
  rw [List.eq_of_mem_replicate hf] at hx
  exact F0_data x hx
theorem disk_data (sign : List UInt8) (side : UInt8) (fs : List (List Bm)) (h : ∀ x ∈ fs.flatten, x.data.length ≤ 100000) : ∀ x ∈ diskN sign side fs, x.data.length ≤ 100000 := by
  intro x hx
  unfold diskN at hx
  rcases List.mem_append.1 hx with h1 | h1
  · simp at h1
    rcases h1 with rfl | rfl
    · simp [dheadN_len]
    · simp
  · exact h x h1
theorem blkSz_le (l : List Bm) (h : ∀ x ∈ l, x.data.length ≤ 100000) : blkSz l ≤ l.length * 100001 := by
  unfold blkSz
  induction l with
  | nil => simp
  | cons x l ih =>
    have h1 := h x (by simp)
    have h2 := ih (fun y hy => h y (by simp [hy]))
    simp only [List.map_cons, List.sum_cons, List.length_cons, Nat.succ_mul]
    omega
theorem Tryd.infoBts : (Tryd.prog.info? 30).map (fun i => (i.zero, i.size, i.bytes)) = some (some (.slice none 0 0), 1, 24) := by kernel_rfl

end Go.Proofs.YtghbgehmaejggaaDoor
