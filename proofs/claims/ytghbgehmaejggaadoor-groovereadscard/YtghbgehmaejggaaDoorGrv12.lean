/- As much as goes on a side (walk). No law is claimed here. -/
import Derived.Test.YtghbgehmaejggaaDoorGrv11
import Derived.Test.YtghbgehmaejggaaDoorGrv6
import Derived.Test.YtghbgehmaejggaaDoorBlk15
namespace Go.Proofs.YtghbgehmaejggaaDoor
open Go.RowKit

/-- a side with one file of k noughts -/
def oneF (k : Nat) : List Bm := fileN 0 0 (strN ⟨#[]⟩) 0 0 (List.replicate k 0)
def oneL (k : Nat) : List Bm := diskN (strN ⟨#[]⟩) 0 [oneF k]
theorem oneL_full (k : Nat) : gFull (oneL k) = 4067 + k := by
  have h1 := dheadN_len (strN ⟨#[]⟩) 0
  have h2 := headN_len 0 0 (strN ⟨#[]⟩) 0 0 k
  unfold gFull gAt oneL oneF diskN fileN
  rw [List.take_length]
  simp only [List.flatten_cons, List.flatten_nil, List.append_nil, List.cons_append, List.nil_append, List.map_cons, List.map_nil, List.sum_cons, List.sum_nil, gRoom, h1, h2, List.length_cons, List.length_nil, List.length_replicate]
  omega
theorem oneF_is (k : Nat) (h : k < 65536) : ∀ f ∈ [oneF k], isFile f := fun f hf => by
  rw [List.mem_singleton.1 hf]; exact isFile_fileN _ _ _ _ _ _ (by simpa using h)
theorem oneL_len (k : Nat) (h : k < 65536) : (oneL k).length = 4 := diskN_len _ _ _ (oneF_is k h)
theorem oneL_rgt (k : Nat) (h : k < 65536) : rgtB (oneL k) = true := rgt_of_fits (by rw [oneL_len k h]; omega) (fits_diskN _ _ _ (oneF_is k h))
theorem oneF_data (k : Nat) (h : k < 65536) : ∀ x ∈ oneF k, x.data.length ≤ 100000 := fun x hx => by
  unfold oneF fileN at hx
  simp at hx
  rcases hx with rfl | rfl
  · simp [headN_len]
  · simp; omega
theorem oneL_data (k : Nat) (h : k < 65536) : ∀ x ∈ oneL k, x.data.length ≤ 100000 := disk_data _ _ _ (fun x hx => by simp at hx; exact oneF_data k h x hx)

set_option maxRecDepth 100000 in
set_option maxHeartbeats 1000000 in
/-- block.Disk of one file, as the law calls it -/
theorem diskOne (k : Nat) (h : k < 65536) (A : Option Addr) (n c g : Nat) (w : World) (hr : RdX shB w (· < w.heap.size) A n c (oneF k)) (hg : g = w.heap.size) :
    Calls Tryd.prog 14 #[.string { data := #[] }, .int .u8 0, .slice (some ⟨g, 0, none⟩) 1 1] (w.alloc (.cells #[.slice A n c] 30)) (RetB w (oneL k)) := by
  have hm : RdX shBL (w.alloc (.cells #[.slice A n c] 30)) (· < (w.alloc (.cells #[.slice A n c] 30)).heap.size) (some ⟨g, 0, none⟩) 1 1 [oneF k] :=
    RdX.madeX shBL w 30 (0, 0) #[.slice A n c] [(A, n, c)] [oneF k] g 1 _ rfl hg rfl rfl (by subst hg; simp) (fun j r x hr' hx => by
      match j, hr', hx with
      | 0, hr', hx => simp at hr' hx; subst hr'; subst hx; exact hr.keep (Kp.below ((Below.refl _ _).alloc (Nat.le_refl _) _) (fun b h => h)) (fun b h => by simp; omega))
  have F := disk_any ⟨#[]⟩ 0 (some ⟨g, 0, none⟩) 1 1 _ [oneF k] _ hm (fun b h => h) (by omega) (by simp [oneF, fileN]) (fun x hx => by simp at hx; exact oneF_data k h x hx)
  refine F.mono ?_
  rintro e w' ⟨A', n', c', rfl, r', hb⟩
  exact ⟨A', n', c', rfl, r', ((Below.refl _ _).alloc (Nat.le_refl _) _).trans (hb.mono (by simp))⟩

end Go.Proofs.YtghbgehmaejggaaDoor
