/- Mathematics of blocks: the blocks of a side with files fit; what is read of blocks' bytes. No law is claimed here. -/
import Derived.Test.YtdefkajjpilicaaBlk5
namespace Go.Proofs.Ytdefkajjpilicaa
open Go.RowKit

theorem lay15_len (a b : UInt8) (name : List UInt8) : (lay [a, b, 0, 0, 0, 0, 0, 0, 0, 0, 0, 0, 0, 0, 0] 2 (name.take 8)).length = 15 := lay_len _ _ _ (by simp; omega)
theorem headN_len (number id : UInt8) (name : List UInt8) (a : Nat) (kind : UInt8) (sz : Nat) : (headN number id name a kind sz).length = 15 := by
  unfold headN; simp only [List.length_set, lay15_len]
theorem dheadN_len (sign : List UInt8) (side : UInt8) : (dheadN sign side).length = 55 := by
  unfold dheadN; rw [List.length_set, lay_len _ _ _ (by simp; omega), List.length_replicate]
theorem headN_fsz (number id : UInt8) (name : List UInt8) (a : Nat) (kind : UInt8) (sz : Nat) (h : sz < 65536) : fsz (headN number id name a kind sz) = sz := by
  unfold fsz headN
  have hl := lay15_len number id name
  generalize lay [number, id, 0, 0, 0, 0, 0, 0, 0, 0, 0, 0, 0, 0, 0] 2 (name.take 8) = X at *
  simp only [List.getD_eq_getElem?_getD, List.getElem?_set, List.length_set, hl]
  simp
  rw [u8N_toNat _ (by omega), u8N_toNat _ (by omega)]
  omega

/-- a head, and the bytes that it tells of -/
def isFile (f : List Bm) : Prop := ∃ h d, f = [⟨3, h⟩, ⟨4, d⟩] ∧ h.length = 15 ∧ d.length = fsz h
theorem isFile_fileN (number id : UInt8) (name : List UInt8) (a : Nat) (kind : UInt8) (xs : List UInt8) (h : xs.length < 65536) : isFile (fileN number id name a kind xs) :=
  ⟨_, _, rfl, headN_len _ _ _ _ _ _, (headN_fsz _ _ _ _ _ _ h).symm⟩

theorem flatten_pairs_len (fs : List (List Bm)) (h : ∀ f ∈ fs, isFile f) : fs.flatten.length = 2 * fs.length := by
  induction fs with
  | nil => rfl
  | cons f fs ih =>
    obtain ⟨hh, d, rfl, _⟩ := h f (by simp)
    simp only [List.flatten_cons, List.length_append, ih (fun f hf => h f (by simp [hf])), List.length_cons, List.length_nil]; omega
theorem flatten_pairs_get (fs : List (List Bm)) (h : ∀ f ∈ fs, isFile f) (j : Nat) (hj : j < fs.length) :
    ∃ hd d, fs.flatten[2 * j]? = some ⟨3, hd⟩ ∧ fs.flatten[2 * j + 1]? = some ⟨4, d⟩ ∧ hd.length = 15 ∧ d.length = fsz hd := by
  induction fs generalizing j with
  | nil => simp at hj
  | cons f fs ih =>
    obtain ⟨hh, d, rfl, h1, h2⟩ := h f (by simp)
    cases j with
    | zero => exact ⟨hh, d, rfl, rfl, h1, h2⟩
    | succ j =>
      obtain ⟨hd, d', e1, e2, e3, e4⟩ := ih (fun f hf => h f (by simp [hf])) j (by simp at hj; omega)
      refine ⟨hd, d', ?_, ?_, e3, e4⟩
      · rw [List.flatten_cons, show 2 * (j + 1) = 2 * j + 1 + 1 by omega]; exact e1
      · rw [List.flatten_cons, show 2 * (j + 1) + 1 = 2 * j + 1 + 1 + 1 by omega]; exact e2

theorem diskN_len (sign : List UInt8) (side : UInt8) (fs : List (List Bm)) (h : ∀ f ∈ fs, isFile f) : (diskN sign side fs).length = 2 + 2 * fs.length := by
  unfold diskN; rw [List.length_append, flatten_pairs_len fs h]; rfl
theorem getD_some {α : Type} {l : List α} {i : Nat} {x d : α} (h : l[i]? = some x) : l.getD i d = x := by rw [List.getD_eq_getElem?_getD, h]; rfl
theorem fits_diskN (sign : List UInt8) (side : UInt8) (fs : List (List Bm)) (h : ∀ f ∈ fs, isFile f) : fitsB (diskN sign side fs) (diskN sign side fs).length = true := by
  rw [fitsB_iff]
  intro i hi
  rw [diskN_len sign side fs h] at hi
  rw [okB_iff]
  match i with
  | 0 =>
    refine ⟨by simp [diskN, kindN], ?_⟩
    simp [diskN, sizeN, dheadN_len]
  | 1 =>
    refine ⟨by simp [diskN, kindN], ?_⟩
    simp [diskN, sizeN]
  | i + 2 =>
    obtain ⟨hd, d, e1, e2, e3, e4⟩ := flatten_pairs_get fs h (i / 2) (by omega)
    have hg : ∀ k, (diskN sign side fs)[k + 2]? = fs.flatten[k]? := fun k => by unfold diskN; rfl
    rcases Nat.mod_two_eq_zero_or_one i with hm | hm
    · have hi2 : 2 * (i / 2) = i := by omega
      rw [hi2] at e1
      rw [getD_some ((hg i).trans e1)]
      refine ⟨?_, ?_⟩
      · unfold kindN; rw [if_neg (by omega), if_neg (by omega), if_pos (by omega)]; rfl
      · unfold sizeN; rw [if_neg (by omega), if_neg (by omega), if_pos (by omega)]; exact e3
    · have hi2 : 2 * (i / 2) + 1 = i := by omega
      have hi3 : 2 * (i / 2) = i - 1 := by omega
      rw [hi2] at e2
      rw [hi3] at e1
      rw [getD_some ((hg i).trans e2)]
      refine ⟨?_, ?_⟩
      · unfold kindN; rw [if_neg (by omega), if_neg (by omega), if_neg (by omega)]; rfl
      · unfold sizeN; rw [if_neg (by omega), if_neg (by omega), if_neg (by omega)]
        have ha : ahead (diskN sign side fs) (i + 2) = hd := by
          unfold ahead
          rw [show i + 2 - 1 = (i - 1) + 2 by omega, getD_some ((hg (i - 1)).trans e1)]
        rw [ha]; exact e4

theorem flatN_app (l m : List Bm) : flatN (l ++ m) = flatN l ++ flatN m := by unfold flatN; rw [List.map_append, List.flatten_append]
theorem fitsB_mono {l : List Bm} {j k : Nat} (h : fitsB l k = true) (hj : j ≤ k) : fitsB l j = true := by rw [fitsB_iff] at *; exact fun i hi => h i (by omega)
/-- a block of bytes that hold it comes next -/
theorem parStep_next (l : List Bm) (more : List UInt8) (k : Nat) (hk : k < l.length) (h512 : k < 512) (hf : fitsB l l.length = true) : parStep (flatN l ++ more) (l.take k) = some l[k] := by
  have hok := okB_iff.1 (fitsB_iff.1 hf k hk)
  rw [getD_get _ _ _ hk] at hok
  have hlen : (l.take k).length = k := by rw [List.length_take]; omega
  have hsz : sizeN k (ahead (l.take k) k) = sizeN k (ahead l k) := by
    rcases Nat.eq_zero_or_pos k with h0 | h0
    · subst h0; rfl
    · unfold ahead; rw [getD_take _ _ _ _ (by omega)]
  have hsplit : flatN l ++ more = flatN (l.take k) ++ (l[k].kind :: (l[k].data ++ (flatN (l.drop (k + 1)) ++ more))) := by
    have : l = l.take k ++ (l[k] :: l.drop (k + 1)) := by rw [← List.drop_eq_getElem_cons hk, List.take_append_drop]
    conv => lhs; rw [this]
    rw [flatN_app]
    show flatN (l.take k) ++ flatN ([l[k]] ++ l.drop (k + 1)) ++ more = _
    rw [flatN_app]
    simp [flatN]
  have hb : (flatN (l.take k)).length = blkSz (l.take k) := flatN_len _
  unfold parStep
  rw [hlen, hsz, hsplit]
  have hg : (flatN (l.take k) ++ (l[k].kind :: (l[k].data ++ (flatN (l.drop (k + 1)) ++ more)))).getD (blkSz (l.take k)) 0 = l[k].kind := by
    rw [← hb, List.getD_eq_getElem?_getD, List.getElem?_append_right (Nat.le_refl _)]; simp
  have hd : ((flatN (l.take k) ++ (l[k].kind :: (l[k].data ++ (flatN (l.drop (k + 1)) ++ more)))).drop (blkSz (l.take k) + 1)).take (sizeN k (ahead l k)) = l[k].data := by
    rw [← hok.2, ← hb, show (flatN (l.take k)).length + 1 = (flatN (l.take k) ++ [l[k].kind]).length by simp, show flatN (l.take k) ++ (l[k].kind :: (l[k].data ++ (flatN (l.drop (k + 1)) ++ more))) = (flatN (l.take k) ++ [l[k].kind]) ++ (l[k].data ++ (flatN (l.drop (k + 1)) ++ more)) by simp, List.drop_left, List.take_left]
  rw [hg, hd, if_pos]
  exact ⟨h512, by rw [List.length_append, hb, List.length_cons, List.length_append, ← hok.2]; omega, hok.1⟩
theorem par_reach (l : List Bm) (more : List UInt8) (hf : fitsB l l.length = true) : ∀ k, k ≤ l.length → k ≤ 512 → ParTo (flatN l ++ more) (l.take k) (parseN (flatN l ++ more)) := by
  intro k
  induction k with
  | zero => intro _ _; exact rfl
  | succ k ih =>
    intro h1 h2
    have := (ih (by omega) (by omega)).go (parStep_next l more k (by omega) (by omega) hf)
    rw [← List.take_succ_eq_append_getElem (by omega)] at this
    exact this
/-- of blocks' bytes alone they are read again, as many as there may be -/
theorem parse_flat (l : List Bm) (hf : fitsB l l.length = true) : parseN (flatN l) = l.take 512 := by
  rcases Nat.lt_or_ge l.length 512 with h | h
  · have := par_reach l [] hf l.length (Nat.le_refl _) (by omega)
    rw [List.append_nil, List.take_length] at this
    rw [← this.stop ?_, List.take_of_length_le (by omega)]
    unfold parStep
    rw [if_neg]
    intro hh
    have := hh.2.1
    rw [flatN_len] at this; omega
  · have := par_reach l [] hf 512 h (Nat.le_refl _)
    rw [List.append_nil] at this
    unfold ParTo at this
    rw [List.length_take, Nat.min_eq_left h] at this
    exact this.symm

end Go.Proofs.Ytdefkajjpilicaa
