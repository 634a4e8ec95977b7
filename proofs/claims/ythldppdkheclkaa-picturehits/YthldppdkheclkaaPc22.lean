/- The picture unit: when the first sprite is hit. No law is claimed here. -/
import Derived.Test.YthldppdkheclkaaPc21
set_option linter.unusedSimpArgs false
set_option linter.unusedVariables false
namespace Go.Proofs.Ythldppdkheclkaa
open Go.RowKit Go.Great

variable {w0 v0 v v' : World} {m : Nat} {A : Nat → Value} {c : PC} {Y X lk k : Int}

/-- the sprite is picked -/
structure P1 (A : Nat → Value) (X : Int) : Prop where
  f : selF A 0 = true
  x : selX A 0 = X
  l : selL A 0 = 255
  u : selU A 0 = 255
/-- the first dot at which it can be hit -/
def fdX (X k : Int) : Int := if X < 8 ∧ ¬ bits .and .u8 k 6 = 6 then 8 else X
/-- behind so many dots -/
structure HI (Y X lk k : Int) (A : Nat → Value) (c : PC) : Prop where
  hb : HB A Y X lk
  msk : c.msk = k
  con : c.con = 0
  fr : c.fr = 0
  lin : LIn (scrC c)
  hit : c.hit = false
  line : 0 ≤ c.line ∧ c.line ≤ Y + 1
  dot : 0 ≤ c.dot ∧ c.dot ≤ 340
  fin : c.line = Y + 1 → c.dot ≤ 1 + fdX X k
  no : c.line < Y ∨ (c.line = Y ∧ c.dot ≤ 257) ∨ shw c 24 = false → c.cnt = 0
  yes : ¬ (c.line < Y ∨ (c.line = Y ∧ c.dot ≤ 257)) → shw c 24 = true → c.cnt = 1 ∧ P1 A X
theorem fdX_b (X k : Int) (hX : 0 ≤ X ∧ X < 256) : 0 ≤ fdX X k ∧ fdX X k < 256 ∧ X ≤ fdX X k := by unfold fdX; split <;> omega
theorem hitV_none {x : Int} (h : c.cnt = 0) : hitV A c x = false := by
  have e : sprI A c x = none := by
    unfold sprI; rw [h]; split <;> rfl
  unfold hitV spF; rw [e]; rfl
theorem sprI_one {x : Int} (h : c.cnt = 1) : sprI A c x = if shwV c.msk 16 4 x = true ∧ hitS A x 0 = true then some 0 else none := by
  unfold sprI fstS; rw [h]
  by_cases e : shwV c.msk 16 4 x = true
  · rw [if_pos e]
    by_cases e2 : hitS A x 0 = true
    · rw [if_pos ⟨e, e2⟩]; show List.find? (hitS A x) [0] = _; rw [List.find?_cons, e2]
    · rw [if_neg (fun k => e2 k.2)]; show List.find? (hitS A x) [0] = _
      rw [List.find?_cons, show hitS A x 0 = false by simpa using e2]; rfl
  · rw [if_neg e, if_neg (fun k => e k.1)]
theorem P1.hits (h : P1 A X) (x : Int) : hitS A x 0 = (decide (0 ≤ x - X) && decide (x - X < 8)) := by
  unfold hitS; rw [h.x, h.l, h.u]
  by_cases e : 0 ≤ x - X ∧ x - X < 8
  · rw [numV_full _ e]; simp
  · have : (decide (0 ≤ x - X) && decide (x - X < 8)) = false := by
      rcases (by omega : ¬ 0 ≤ x - X ∨ ¬ x - X < 8) with k | k
      · rw [decide_eq_false k]; rfl
      · rw [decide_eq_false k]; simp
    rw [this]; rfl
/-- is it hit at x? -/
theorem hitV_one (hb : HB A Y X lk) (hc : c.con = 0) (hL : LIn (scrC c)) (h : c.cnt = 1) (p : P1 A X) (x : Int) (hx : 0 ≤ x) :
    hitV A c x = (decide (shwV c.msk 16 4 x = true ∧ 0 ≤ x - X ∧ x - X < 8) && (shwV c.msk 8 2 x) && decide (x ≠ 255)) := by
  unfold hitV spF
  rw [sprI_one h, p.hits, hb.til hc hL x hx]
  by_cases e : shwV c.msk 16 4 x = true ∧ (decide (0 ≤ x - X) && decide (x - X < 8)) = true
  · rw [if_pos e]
    have e1 : shwV c.msk 16 4 x = true ∧ 0 ≤ x - X ∧ x - X < 8 := ⟨e.1, by have := e.2; simp only [Bool.and_eq_true, decide_eq_true_eq] at this; exact this⟩
    rw [decide_eq_true e1]
    show (selF A 0 && _ && _) = _
    rw [p.f]
    cases shwV c.msk 8 2 x <;> simp
  · rw [if_neg e]
    have e1 : ¬ (shwV c.msk 16 4 x = true ∧ 0 ≤ x - X ∧ x - X < 8) := fun k => e ⟨k.1, by simp only [Bool.and_eq_true, decide_eq_true_eq]; exact k.2⟩
    rw [decide_eq_false e1]; rfl

theorem bits_k (k : Int) (hk : 0 ≤ k ∧ k < 256) :
    (bits .and .u8 k 24 = 0 ↔ bits .and .u8 k 8 = 0 ∧ bits .and .u8 k 16 = 0) ∧ (bits .and .u8 k 24 = 24 ↔ ¬ bits .and .u8 k 8 = 0 ∧ ¬ bits .and .u8 k 16 = 0) ∧
    (bits .and .u8 k 6 = 6 ↔ ¬ bits .and .u8 k 4 = 0 ∧ ¬ bits .and .u8 k 2 = 0) := by
  have H : ∀ n : Fin 256, (bits .and .u8 (n.val : Int) 24 = 0 ↔ bits .and .u8 (n.val : Int) 8 = 0 ∧ bits .and .u8 (n.val : Int) 16 = 0) ∧ (bits .and .u8 (n.val : Int) 24 = 24 ↔ ¬ bits .and .u8 (n.val : Int) 8 = 0 ∧ ¬ bits .and .u8 (n.val : Int) 16 = 0) ∧
    (bits .and .u8 (n.val : Int) 6 = 6 ↔ ¬ bits .and .u8 (n.val : Int) 4 = 0 ∧ ¬ bits .and .u8 (n.val : Int) 2 = 0) := by decide +kernel
  obtain ⟨n, rfl⟩ := natP k hk.1
  exact H ⟨n, by omega⟩
theorem shwV_is (k a b x : Int) : shwV k a b x = true ↔ ¬ bits .and .u8 k a = 0 ∧ (8 ≤ x ∨ ¬ bits .and .u8 k b = 0) := by
  unfold shwV; simp
/-- ahead of the first dot it isn't hit -/
theorem HI.hit_no (h : HI Y X lk k A c) (hk : 0 ≤ k ∧ k < 256) (hX : 0 ≤ X ∧ X < 256) (x : Int) (hx : 0 ≤ x ∧ x < 256) (e : c.dot = x + 1) (e2 : c.line = Y + 1 → x < fdX X k) : hitV A c x = false := by
  by_cases e3 : c.line < Y ∨ (c.line = Y ∧ c.dot ≤ 257) ∨ shw c 24 = false
  · exact hitV_none (h.no e3)
  · have hl : c.line = Y + 1 := by have := h.line; omega
    have hs : shw c 24 = true := by
      rcases Bool.eq_false_or_eq_true (shw c 24) with k | k
      · exact k
      · exact absurd (.inr (.inr k)) e3
    obtain ⟨n1, p⟩ := h.yes (by omega) hs
    have hlt := e2 hl
    rw [hitV_one h.hb h.con h.lin n1 p x hx.1, h.msk]
    unfold fdX at hlt
    by_cases t : X < 8 ∧ ¬ bits .and .u8 k 6 = 6
    · rw [if_pos t] at hlt
      have b := (bits_k k hk).2.2
      by_cases b4 : bits .and .u8 k 4 = 0
      · rw [decide_eq_false (fun q => by have := (shwV_is k 16 4 x).1 q.1; omega)]; rfl
      · have b2 : bits .and .u8 k 2 = 0 := by
          by_cases b2 : bits .and .u8 k 2 = 0
          · exact b2
          · exact absurd (b.2 ⟨b4, b2⟩) t.2
        have : shwV k 8 2 x = false := by
          rcases Bool.eq_false_or_eq_true (shwV k 8 2 x) with q | q
          · have := (shwV_is k 8 2 x).1 q; omega
          · exact q
        rw [this]; simp
    · rw [if_neg t] at hlt
      rw [decide_eq_false (fun q => by omega)]; rfl

end Go.Proofs.Ythldppdkheclkaa
