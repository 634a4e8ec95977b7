/- seal.Next, its five ways joined; what it finds in a frame, and in a frame that is cut. No law is claimed here. -/
import Derived.Test.YtkgccoghdalniaaNextW
namespace Go.Proofs.Ytkgccoghdalniaa
open Go.RowKit

theorem Rd.some_of {α : Type} {f : α → Value} {w : World} {B : Nat} {A : Option Addr} {n c : Nat} {xs : List α} (h : Rd f w B A n c xs) (hn : 0 < n) : ∃ b off, A = some ⟨b, off, none⟩ := by
  obtain ⟨b, off, e, _⟩ := h.at_ 0 (by rw [h.len]; exact hn)
  exact ⟨b, off, e⟩

theorem nextE_cases (xs : List UInt8) : (xs.length = 0 ∧ nextE xs = 4) ∨ (0 < xs.length ∧ xs.length < 8 ∧ nextE xs = 2) ∨ (8 ≤ xs.length ∧ (16777216 < nextS xs ∨ xs.length - 8 < nextS xs) ∧ nextE xs = 2) ∨
    (8 ≤ xs.length ∧ nextS xs ≤ 16777216 ∧ nextS xs ≤ xs.length - 8 ∧ longN (xs.take 4 ++ nextC xs) ≠ takeN ((xs.drop 4).take 4) ∧ nextE xs = 3) ∨
    (8 ≤ xs.length ∧ nextS xs ≤ 16777216 ∧ nextS xs ≤ xs.length - 8 ∧ longN (xs.take 4 ++ nextC xs) = takeN ((xs.drop 4).take 4) ∧ nextE xs = 0) := by
  unfold nextE
  by_cases h0 : xs.length = 0
  · left; simp [h0]
  right
  by_cases h8 : xs.length < 8
  · left; simp [h0, h8]; omega
  right
  by_cases hb : 16777216 < nextS xs ∨ xs.length - 8 < nextS xs
  · left; simp only [h0, h8, hb, if_true, if_false]; exact ⟨by omega, trivial, trivial⟩
  right
  by_cases hs : longN (xs.take 4 ++ nextC xs) = takeN ((xs.drop 4).take 4)
  · right
    simp only [h0, h8, hb, if_false, hs, ne_eq, not_true_eq_false]
    exact ⟨by omega, by omega, by omega, trivial, trivial⟩
  · left
    simp only [h0, h8, hb, if_false, hs, ne_eq, not_false_eq_true, if_true]
    exact ⟨by omega, by omega, by omega, trivial, trivial⟩

theorem snext_err (A : Option Addr) (n c B : Nat) (xs : List UInt8) (w : World) (hr : Rd bv w B A n c xs) (hn : n ≤ 9223372036854775807) (h : nextE xs ≠ 0) :
    Calls Try.prog 21 #[.slice A n c] w fun e w' => e = .returned (.tuple #[.slice none 0 0, .int .i64 0, .int .i64 (nextE xs : Int)]) ∧ Still w w' := by
  have hl := hr.len
  rcases nextE_cases xs with ⟨h1, e⟩ | ⟨h1, h2, e⟩ | ⟨h1, h2, e⟩ | ⟨h1, h2, h3, h4, e⟩ | ⟨h1, h2, h3, h4, e⟩
  · rw [e]
    obtain rfl : n = 0 := by omega
    exact (snext_none A c w).mono fun _ _ ⟨a, b⟩ => ⟨a, 0, by rw [← b]; rfl⟩
  · rw [e]
    exact (snext_short A n c w (by omega) (by omega)).mono fun _ _ ⟨a, b⟩ => ⟨a, 0, by rw [← b]; rfl⟩
  · rw [e]
    obtain ⟨b, off, rfl⟩ := hr.some_of (by omega)
    exact snext_long b off n c B xs w hr (by omega) hn (by rw [← hl]; exact h2)
  · rw [e]
    obtain ⟨b, off, rfl⟩ := hr.some_of (by omega)
    rcases Nat.lt_or_ge 8 c with h8 | h8
    · exact snext_sum b off n c B xs w hr (by omega) hn h2 (by rw [← hl]; exact h3) h8 h4
    · have hc := hr.cap
      obtain rfl : c = 8 := by omega
      obtain rfl : n = 8 := by omega
      exact snext_sum8 b off B xs w hr h2 (by rw [hl] at h3; exact h3) h4
  · exact absurd e h

theorem snext_good (A : Option Addr) (n c B : Nat) (xs : List UInt8) (w : World) (hr : Rd bv w B A n c xs) (hB : B ≤ w.heap.size) (hn : n ≤ 9223372036854775807) (h : nextE xs = 0) :
    Calls Try.prog 21 #[.slice A n c] w (RetN w (nextC xs)) := by
  have hl := hr.len
  rcases nextE_cases xs with ⟨h1, e⟩ | ⟨h1, h2, e⟩ | ⟨h1, h2, e⟩ | ⟨h1, h2, h3, h4, e⟩ | ⟨h1, h2, h3, h4, e⟩
  · omega
  · omega
  · omega
  · omega
  · obtain ⟨b, off, rfl⟩ := hr.some_of (by omega)
    rcases Nat.lt_or_ge 8 c with h8 | h8
    · exact snext_ok b off n c B xs w hr (by omega) hn h2 (by rw [← hl]; exact h3) h8 hB h4
    · have hc := hr.cap
      obtain rfl : c = 8 := by omega
      obtain rfl : n = 8 := by omega
      exact snext_ok8 b off B xs w hr h2 (by rw [hl] at h3; exact h3) hB h4

/-- in a frame, whatever stands behind it, there is the frame -/
theorem frame_parts (xs ys : List UInt8) : (frameN xs ++ ys).take 4 = layN xs.length 4 ∧ ((frameN xs ++ ys).drop 4).take 4 = layN (longN (layN xs.length 4 ++ xs)) 4 ∧ (frameN xs ++ ys).drop 8 = xs ++ ys := by
  unfold frameN
  have h1 := layN_len 4 xs.length
  have h2 := layN_len 4 (longN (layN xs.length 4 ++ xs))
  generalize layN (longN (layN xs.length 4 ++ xs)) 4 = s at *
  generalize layN xs.length 4 = a at *
  refine ⟨?_, ?_, ?_⟩
  · rw [List.append_assoc, List.take_append_of_le_length (by omega), List.take_of_length_le (by omega)]
  · rw [List.append_assoc, List.drop_append_of_le_length (by omega), List.drop_of_length_le (by omega), List.nil_append, List.append_assoc, List.take_append_of_le_length (by omega), List.take_of_length_le (by omega)]
  · rw [List.append_assoc, List.append_assoc, ← List.append_assoc a s, List.drop_append_of_le_length (by simp; omega), List.drop_of_length_le (by simp; omega), List.nil_append]
theorem pow4 : (256 : Nat) ^ 4 = 4294967296 := by decide
theorem next_frame (xs ys : List UInt8) (h : xs.length ≤ 16777216) : nextE (frameN xs ++ ys) = 0 ∧ nextC (frameN xs ++ ys) = xs := by
  obtain ⟨p1, p2, p3⟩ := frame_parts xs ys
  have hl := frameN_len xs
  have hS : nextS (frameN xs ++ ys) = xs.length := by unfold nextS; rw [p1]; exact take_lay 4 _ (by rw [pow4]; omega)
  have hC : nextC (frameN xs ++ ys) = xs := by unfold nextC; rw [p3, hS, List.take_left']; rfl
  refine ⟨?_, hC⟩
  have hlen : (frameN xs ++ ys).length = xs.length + 8 + ys.length := by simp [hl]
  unfold nextE
  rw [hS, hC, p1, p2, hlen, take_lay 4 _ (by rw [pow4]; exact longN_lt _), if_neg (by omega), if_neg (by omega), if_neg (by omega), if_neg (by simp)]
theorem frame_cut (xs : List UInt8) (k : Nat) (h : xs.length ≤ 16777216) (hk : k < xs.length + 8) : nextE ((frameN xs).take k) = if k = 0 then 4 else 2 := by
  have hl := frameN_len xs
  have hlen : ((frameN xs).take k).length = k := by simp; omega
  unfold nextE
  rw [hlen]
  by_cases h0 : k = 0
  · simp [h0]
  rw [if_neg h0, if_neg h0]
  by_cases h8 : k < 8
  · rw [if_pos h8]
  rw [if_neg h8, if_pos]
  right
  obtain ⟨p1, _, _⟩ := frame_parts xs []
  rw [List.append_nil] at p1
  have : nextS ((frameN xs).take k) = xs.length := by
    unfold nextS
    rw [List.take_take, Nat.min_eq_left (by omega), p1]
    exact take_lay 4 _ (by rw [pow4]; omega)
  omega

end Go.Proofs.Ytkgccoghdalniaa
