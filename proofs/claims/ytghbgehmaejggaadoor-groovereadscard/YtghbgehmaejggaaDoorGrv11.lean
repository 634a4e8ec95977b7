/- What is laid is read again (plain lists). No law is claimed here. -/
import Derived.Test.YtghbgehmaejggaaDoorGrv10
namespace Go.Proofs.YtghbgehmaejggaaDoor
open Go.RowKit

theorem trim_zeros (m : Nat) (xs : List UInt8) : trimN (List.replicate m 0 ++ xs) = trimN xs := by
  induction m with
  | zero => simp
  | succ m ih => rw [List.replicate_succ, List.cons_append, trimN_zero, ih]
theorem pair_sum (S : Nat) (h : S < 65536) : pairN (u8N (S % 256)) (u8N (S / 256)) = S := by
  unfold pairN; rw [u8N_toNat _ (by omega), u8N_toNat _ (by omega)]; omega
theorem gBlk_cons (x : Bm) (rest : List UInt8) : gBlk x ++ rest = 128 :: x.kind :: (x.data ++ (gSum x ++ (List.replicate 120 0 ++ rest))) := by
  unfold gBlk gHead; simp only [List.cons_append, List.append_assoc]
theorem read_step (x : Bm) (rest : List UInt8) (l : List Bm) (f m : Nat) (hk : x.kind.toNat = kindN l.length) (hs : x.data.length = sizW l) :
    gRd (f + 1) (List.replicate m 0 ++ (gBlk x ++ rest)) l = gRd f (List.replicate 120 0 ++ rest) (l ++ [x]) := by
  have ht : trimN (List.replicate m 0 ++ (gBlk x ++ rest)) = gBlk x ++ rest := by rw [trim_zeros, gBlk_cons, trimN_other _ _ (by decide)]
  have hne : ¬ (gBlk x ++ rest = []) := by rw [gBlk_cons]; simp
  have hgl : (gHead x).length = sizW l + 2 := by simp [gHead, hs]
  have hsp : gBlk x ++ rest = gHead x ++ (gSum x ++ (List.replicate 120 0 ++ rest)) := by unfold gBlk; simp only [List.append_assoc]
  have hbad : ¬ badHead (gBlk x ++ rest) (kindN l.length) (sizW l) := by
    unfold badHead
    rintro (h | h | h)
    · rw [hsp, List.length_append, hgl] at h; simp [gSum] at h; omega
    · rw [gBlk_cons] at h; simp at h
    · rw [gBlk_cons] at h; simp [hk] at h
  have g2 : (gBlk x ++ rest).getD (sizW l + 2) 0 = u8N (shortN (gHead x) % 256) := by
    rw [hsp, List.getD_eq_getElem?_getD, List.getElem?_append_right (by rw [hgl]; omega), hgl, show sizW l + 2 - (sizW l + 2) = 0 from by omega]; rfl
  have g3 : (gBlk x ++ rest).getD (sizW l + 3) 0 = u8N (shortN (gHead x) / 256) := by
    rw [hsp, List.getD_eq_getElem?_getD, List.getElem?_append_right (by rw [hgl]; omega), hgl, show sizW l + 3 - (sizW l + 2) = 1 from by omega]; rfl
  have hgood : goodSum (gBlk x ++ rest) (sizW l) := by
    unfold goodSum
    rw [g2, g3, pair_sum _ (shortN_lt _), hsp, List.take_left' hgl]
  have hdrop : (gBlk x ++ rest).drop (sizW l + 4) = List.replicate 120 0 ++ rest := by
    rw [hsp, ← List.append_assoc, List.drop_left' (by rw [List.length_append, hgl]; rfl)]
  have hdata : ((gBlk x ++ rest).drop 2).take (sizW l) = x.data := by
    rw [gBlk_cons]; simp only [List.drop_succ_cons, List.drop_zero]; rw [List.take_left' hs]
  rw [gRd, ht, if_neg hne, if_neg hbad, if_neg (fun h => h hgood), hdrop, hdata, ← hk, u8N_of]
theorem sizW_take (l : List Bm) (k : Nat) (hk : k < l.length) (hf : fitsB l l.length = true) : l[k].kind.toNat = kindN (l.take k).length ∧ l[k].data.length = sizW (l.take k) := by
  have h := fitsB_iff.1 hf k hk
  rw [okB_iff, getD_get _ _ _ hk] at h
  have hl : (l.take k).length = k := by simp; omega
  refine ⟨by rw [hl]; exact h.1, ?_⟩
  unfold sizW
  rw [hl, h.2]
  rcases Nat.eq_zero_or_pos k with h0 | h0
  · subst h0; simp [sizeN]
  · unfold ahead; rw [getD_take _ _ _ _ (by omega)]
theorem read_from (l : List Bm) (hf : fitsB l l.length = true) (h512 : l.length ≤ 512) : ∀ j k m, j + k = l.length → gRd (512 - k) (List.replicate m 0 ++ ((l.drop k).map gBlk).flatten) (l.take k) = (l, 0) := by
  intro j
  induction j with
  | zero =>
    intro k m hj
    have hk : k = l.length := by omega
    subst hk
    rw [List.drop_length, List.take_length]
    simp only [List.map_nil, List.flatten_nil, List.append_nil]
    have ht : trimN (List.replicate m (0 : UInt8)) = [] := by have h := trim_zeros m []; rw [List.append_nil] at h; rw [h]; rfl
    cases hf2 : 512 - l.length with
    | zero => rw [gRd]
    | succ f => rw [gRd, if_pos ht]
  | succ j ih =>
    intro k m hj
    have hk : k < l.length := by omega
    obtain ⟨h1, h2⟩ := sizW_take l k hk hf
    rw [List.drop_eq_getElem_cons hk, List.map_cons, List.flatten_cons, show 512 - k = (512 - (k + 1)) + 1 from by omega, read_step _ _ _ _ _ h1 h2, ← List.take_succ_eq_append_getElem hk]
    exact ih (k + 1) 120 (by omega)
/-- what is laid is read again -/
theorem read_grv (l : List Bm) (hR : rgtB l = true) : gRd 512 (grvN l) [] = (l, 0) := by
  unfold rgtB at hR
  simp only [Bool.and_eq_true, decide_eq_true_eq] at hR
  have h := read_from l hR.2 hR.1 l.length 0 3500 (by omega)
  rw [List.drop_zero, List.take_zero] at h
  exact h

set_option maxRecDepth 100000 in
set_option maxHeartbeats 1000000 in
theorem lay_no (A : Option Addr) (n c : Nat) (S : Nat → Prop) (l : List Bm) (w : World) (hr : RdX shB w S A n c l) (hS : ∀ b, S b → b < w.heap.size) (hn : n ≤ 1000) (hd : Hid (∀ x ∈ l, x.data.length ≤ 100000)) (hR : rgtB l = true) (hF : 65536 < gFull l) :
    Calls Tryd.prog 13 #[.slice A n c] w fun e w' => e = .returned (.tuple #[.slice none 0 0, .bool false]) ∧ Below w.heap.size w w' := by
  have hRi := right_any A n c S l w hr hS (by omega) (fun x hx => by have := hd.out x hx; omega)
  rw [hR] at hRi
  have FF := fun (v : World) (hb : Below w.heap.size w v) => full_any A n c S l v (hr.keep (Kp.below hb hS) (fun _ h => h)) (fun b h => Nat.lt_of_lt_of_le (hS b h) hb.size) (by omega) hd
  generalize gFull l = F at *
  have t1 : (65536 : Int) < (F : Int) := by omega
  go_enter Tryd.func13, Tryd.ntmps13
  go_wp2_with (first | (go_at_call 25; refine hRi.mono ?_; rintro e w1 ⟨rfl, hb1⟩) | (go_at_call 26; refine (FF _ hb1).mono ?_; rintro e w2 ⟨rfl, hb2⟩))
  go_ret2
  exact ⟨rfl, hb1.trans (hb2.mono hb1.size)⟩

end Go.Proofs.YtghbgehmaejggaaDoor
