/- Letters of buttons, as the document has them; what holds of them all. No law is claimed here. -/
import Derived.Test.YtahoebnlihgobaaPad10
namespace Go.Proofs.Ytahoebnlihgobaa
open Go.RowKit

/-- the document's letters so far -/
def rtx (b : Int) : Nat → ByteArray
  | 0 => { data := #[] }
  | k + 1 => if (bitsL 8 b).getD k 0 = 1 then rtx b k ++ LS.extract k (k + 1) else rtx b k
theorem rtx_all : ∀ b : Fin 256, (if (rtx (b.val : Int) 8).toList = [] then ({ data := #[45] } : ByteArray) else rtx (b.val : Int) 8) = txt (b.val : Int) ∧ prs (txt (b.val : Int)) 8 = (b.val : Int) := by decide +kernel

theorem rtx_size (b : Int) (k : Nat) : (rtx b k).size ≤ k := by
  induction k with
  | zero => exact Nat.le_refl _
  | succ k ih =>
    rw [rtx]
    split
    · rw [ByteArray.size_append, ByteArray.size_extract]; omega
    · omega

set_option maxRecDepth 100000 in
set_option maxHeartbeats 2000000 in
theorem qtext_any (b : Int) (w : World) (hb : 0 ≤ b) (hb2 : b < 256) :
    Calls Try.prog 18 #[.int .i64 b] w fun e w' => e = .returned (.string (txt b)) ∧ Below w.heap.size w w' := by
  obtain ⟨h1, h2⟩ : (if (rtx b 8).toList = [] then ({ data := #[45] } : ByteArray) else rtx b 8) = txt b ∧ prs (txt b) 8 = b := by
    obtain ⟨k, rfl⟩ : ∃ k : Nat, b = (k : Int) := ⟨b.toNat, by omega⟩
    exact rtx_all ⟨k, by omega⟩
  have HT : Hid ((if (rtx b 8).toList = [] then ({ data := #[45] } : ByteArray) else rtx b 8) = txt b) := h1
  clear h1 h2
  generalize txt b = T at *
  go_enter Try.func18, Try.ntmps18
  go_wp2_with (go_at_call 21; refine (qbits_any _ _ hb hb2).mono ?_; rintro e w1 ⟨A, n, c, rfl, ho, x1⟩; have hn8 : n = 8 := (by rw [← ho.len, bitsL_len]); subst hn8)
  have R := ho.rd
  go_loopw [3, 9] (fun v i wr => ∃ (k : Nat), k ≤ 8 ∧ i = .int .i64 k ∧ v = .string (rtx b k) ∧ wr = w1) (fun _ i _ => 8 - (intOf i).toNat)
  case atStart => exact ⟨0, Nat.zero_le _, rfl, rfl, rfl⟩
  case round =>
    obtain ⟨k, hk, rfl, rfl, rfl⟩ := hrel
    by_cases h : k < 8
    · have t1 : (k : Int) < 8 := by omega
      obtain ⟨g, off, rfl, hlt, hc⟩ := R.at_ k (by rw [bitsL_len]; exact h)
      have hg : (bitsL 8 b)[k]'(by rw [bitsL_len]; exact h) = (bitsL 8 b).getD k 0 := by rw [List.getD_eq_getElem?_getD, List.getElem?_eq_getElem]; rfl
      rw [hg] at hc
      unfold iv at hc
      have hl : Hid (rtx b (k + 1) = if (bitsL 8 b).getD k 0 = 1 then rtx b k ++ LS.extract k (k + 1) else rtx b k) := rfl
      generalize (bitsL 8 b).getD k 0 = z at *
      by_cases hz : z = 1
      · subst hz
        have t3 : (k : Int) + 1 ≤ 8 := by omega
        have t4 : k + 1 ≤ 8 := by omega
        have t5 : k ≤ k + 1 := by omega
        have t6 : ¬ (9223372036854775807 < (rtx b k).size + 1) := by have := rtx_size b k; omega
        go_wp2
        go_roundw
        case rel => exact ⟨k + 1, by omega, by go_num, by rw [hl.out, if_pos rfl]; rfl, trivial⟩
        case measure => simp [intOf]; omega
      · go_wp2
        go_roundw
        case rel => exact ⟨k + 1, by omega, by go_num, by rw [hl.out, if_neg hz], trivial⟩
        case measure => simp [intOf]; omega
    · have t1 : ¬ ((k : Int) < 8) := by omega
      have hk8 : k = 8 := by omega
      subst hk8
      by_cases hz : (rtx b 8).toList = []
      · have := HT.out
        rw [if_pos hz] at this
        subst this
        have hz2 : (rtx b 8).toList.isEmpty = true := by rw [hz]; rfl
        go_wp2
        go_ret
        exact ⟨rfl, x1⟩
      · have := HT.out
        rw [if_neg hz] at this
        subst this
        have hz2 : (rtx b 8).toList.isEmpty = false := by cases hq : (rtx b 8).toList with | nil => exact absurd hq hz | cons a l => rfl
        go_wp2
        go_ret
        exact ⟨rfl, x1⟩

/-- what is read of a text -/
def pOk (s : ByteArray) : Bool := (txt (prs s 8)).toList == s.toList
def pB (s : ByteArray) : Int := if pOk s then prs s 8 else 0
theorem pB_u8 (s : ByteArray) : 0 ≤ pB s ∧ pB s < 256 := by
  unfold pB
  split
  · exact prs_u8 s 8
  · exact ⟨Int.le_refl _, by omega⟩
theorem toList_inj (a b : ByteArray) (h : a.toList = b.toList) : a = b := by
  rw [ByteArray.toList_eq, ByteArray.toList_eq] at h
  exact ByteArray.ext (Array.toList_inj.1 h)
theorem parse_txt (i : Int) (h : 0 ≤ i ∧ i < 256) : pOk (txt i) = true ∧ pB (txt i) = i := by
  have h2 : prs (txt i) 8 = i := by
    obtain ⟨k, rfl⟩ : ∃ k : Nat, i = (k : Int) := ⟨i.toNat, by omega⟩
    exact (rtx_all ⟨k, by omega⟩).2
  have h1 : pOk (txt i) = true := by unfold pOk; rw [h2, beq_self_eq_true]
  exact ⟨h1, by unfold pB; rw [if_pos h1, h2]⟩
theorem parse_any (s : ByteArray) (w : World) :
    Calls Try.prog 17 #[.string s] w fun e w' => e = .returned (.tuple #[.int .u8 (pB s), .bool (pOk s)]) ∧ Below w.heap.size w w' := pparse_any s (pOk s) w rfl

end Go.Proofs.Ytahoebnlihgobaa
