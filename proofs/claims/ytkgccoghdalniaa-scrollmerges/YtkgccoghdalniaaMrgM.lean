/- Writes that are merged, as lists. Plain lemmas, no law is claimed here. -/
import Derived.Test.YtkgccoghdalniaaDuo
namespace Go.Proofs.Ytkgccoghdalniaa
open Go.RowKit

/-- does y continue x, and are both short enough? -/
def joinB (x y : Wm) : Bool := decide (x.side = y.side) && decide (x.pl + x.data.length = y.pl) && decide (x.data.length + y.data.length ≤ 4096)
theorem joinB_true {x y : Wm} : joinB x y = true ↔ x.side = y.side ∧ x.pl + x.data.length = y.pl ∧ x.data.length + y.data.length ≤ 4096 := by
  unfold joinB; simp [Bool.and_eq_true, and_assoc]
def joinW (x y : Wm) : Wm := ⟨x.side, x.pl, x.data ++ y.data⟩
def mstep (out : List Wm) (y : Wm) : List Wm :=
  match out[out.length - 1]? with
  | some x => if joinB x y = true then out.set (out.length - 1) (joinW x y) else out ++ [y]
  | none => out ++ [y]
def mgN (ws : List Wm) : List Wm := ws.foldl mstep []
theorem mgN_snoc (ws : List Wm) (k : Nat) (h : k < ws.length) : mgN (ws.take (k + 1)) = mstep (mgN (ws.take k)) ws[k] := by
  unfold mgN
  rw [List.take_succ_eq_append_getElem h, List.foldl_append]; rfl
theorem mstep_nil (y : Wm) : mstep [] y = [y] := rfl
theorem mstep_yes {out : List Wm} {x y : Wm} {n : Nat} (hn : out.length = n + 1) (hx : out[n]? = some x) (h : joinB x y = true) : mstep out y = out.set n (joinW x y) := by
  unfold mstep
  rw [hn, Nat.add_sub_cancel, hx]
  simp only
  rw [if_pos h]
theorem mstep_no {out : List Wm} {x y : Wm} {n : Nat} (hn : out.length = n + 1) (hx : out[n]? = some x) (h : joinB x y = false) : mstep out y = out ++ [y] := by
  unfold mstep
  rw [hn, Nat.add_sub_cancel, hx]
  simp only
  rw [if_neg (by rw [h]; decide)]
theorem mstep_snoc (o : List Wm) (x y : Wm) : mstep (o ++ [x]) y = if joinB x y = true then o ++ [joinW x y] else o ++ [x] ++ [y] := by
  have h1 : (o ++ [x]).length = o.length + 1 := by simp
  have h2 : (o ++ [x])[o.length]? = some x := by simp
  split
  · rename_i h
    rw [mstep_yes h1 h2 h, List.set_append_right _ _ (Nat.le_refl _), Nat.sub_self]; rfl
  · rename_i h
    rw [mstep_no h1 h2 (by simpa using h)]

theorem lay_join (s dx dy : List UInt8) (p : Nat) (h : p + dx.length + dy.length ≤ s.length) : lay (lay s p dx) (p + dx.length) dy = lay s p (dx ++ dy) := by
  apply List.ext_getElem?
  intro i
  have hl : (lay s p dx).length = s.length := lay_len _ _ _ (by omega)
  rw [lay_get _ _ _ (by rw [hl]; omega), lay_get _ _ _ (by omega), lay_get _ _ _ (by rw [List.length_append]; omega), List.length_append]
  by_cases h1 : p + dx.length ≤ i ∧ i < p + dx.length + dy.length
  · rw [if_pos h1, if_pos (by omega), List.getElem?_append_right (by omega)]
    congr 1; omega
  · rw [if_neg h1]
    by_cases h2 : p ≤ i ∧ i < p + dx.length
    · rw [if_pos h2, if_pos (by omega), List.getElem?_append_left (by omega)]
    · rw [if_neg h2, if_neg (by omega)]
theorem getD_set_self {α : Type} (l : List α) (i : Nat) (x d : α) (h : i < l.length) : (l.set i x).getD i d = x := by
  rw [List.getD_eq_getElem?_getD, List.getElem?_set_self h]; rfl
theorem putN_join (S : List (List UInt8)) (x y : Wm) (hj : joinB x y = true) (hs : x.side.toNat < S.length) (h0 : 0 ≤ x.pl) (hf : x.pl + x.data.length + y.data.length ≤ ((S.getD x.side.toNat []).length : Int)) :
    putN (putN S x) y = putN S (joinW x y) := by
  obtain ⟨h1, h2, _⟩ := joinB_true.1 hj
  unfold putN joinW
  simp only
  rw [← h1, getD_set_self _ _ _ _ hs, List.set_set]
  congr 1
  have e : y.pl.toNat = x.pl.toNat + x.data.length := by omega
  rw [e, lay_join _ _ _ _ (by omega)]

/-- what a list of writes and what was merged of it have to do with each other -/
structure Mi (xss : List (List UInt8)) (out ws : List Wm) : Prop where
  all : allA xss out = true
  app : applyN xss out = applyN xss ws
  len : out.length ≤ ws.length
  ne : ws ≠ [] → out ≠ []
  sz : ∀ x ∈ out, x.data.length ≤ 60 * ws.length
  pos : ∀ x ∈ out, 0 ≤ x.pl
  apart : ∀ (i : Nat) (x y : Wm), out[i]? = some x → out[i + 1]? = some y → ¬ (x.side = y.side ∧ x.pl + x.data.length = y.pl)
theorem Mi.nil (xss : List (List UInt8)) : Mi xss [] [] := ⟨rfl, rfl, Nat.le_refl _, fun h => h, fun x h => by simp at h, fun x h => by simp at h, fun i x y h => by simp at h⟩
theorem applyN_app (xss : List (List UInt8)) (a b : List Wm) : applyN xss (a ++ b) = b.foldl putN (applyN xss a) := by unfold applyN; rw [List.foldl_append]
theorem allA_app (xss : List (List UInt8)) (a b : List Wm) : allA xss (a ++ b) = (allA xss a && allA xss b) := by unfold allA; rw [List.all_append]
theorem allA_one (xss : List (List UInt8)) (x : Wm) : allA xss [x] = okA xss x := by unfold allA; simp
theorem okA_join {xss : List (List UInt8)} {x y : Wm} (hx : okA xss x = true) (hy : okA xss y = true) (hj : joinB x y = true) : okA xss (joinW x y) = true := by
  obtain ⟨h1, h2, h3⟩ := joinB_true.1 hj
  unfold okA fitB at hx hy ⊢
  simp only [Bool.and_eq_true, decide_eq_true_eq] at hx hy ⊢
  have ax := rightB_true.1 hx.1
  have ay := rightB_true.1 hy.1
  rw [rightB_true]
  rw [← h1] at hy
  unfold joinW
  simp only [List.length_append]
  exact ⟨⟨ax.1, ax.2.1, by omega, by omega, by have := ay.2.2.2.2; omega⟩, hx.2.1, by have := hy.2.2; omega⟩
theorem Mi.step {xss : List (List UInt8)} {out ws : List Wm} (h : Mi xss out ws) (y : Wm) (hy : okA xss y = true) (h0 : 0 ≤ y.pl) (hd : y.data.length ≤ 60) (hw : ws.length ≤ 8) : Mi xss (mstep out y) (ws ++ [y]) := by
  have hal : allA xss (out ++ [y]) = true := by rw [allA_app, h.all, allA_one, hy]; rfl
  have hplain : (∀ (i : Nat) (u v : Wm), (out ++ [y])[i]? = some u → (out ++ [y])[i + 1]? = some v → ¬ (u.side = v.side ∧ u.pl + u.data.length = v.pl)) → Mi xss (out ++ [y]) (ws ++ [y]) := fun ha =>
    ⟨hal, by rw [applyN_app, applyN_app, h.app], by have := h.len; simp; omega, fun _ e => by simp at e,
     fun x hx => by
       rw [List.length_append, List.length_singleton]
       rcases List.mem_append.1 hx with hx | hx
       · have := h.sz x hx; omega
       · simp at hx; subst hx; omega,
     fun x hx => by
       rcases List.mem_append.1 hx with hx | hx
       · exact h.pos x hx
       · simp at hx; subst hx; exact h0, ha⟩
  rcases List.eq_nil_or_concat out with rfl | ⟨o, x, rfl⟩
  · exact hplain (fun i u v h1 h2 => by simp at h2)
  · rw [List.concat_eq_append] at *
    have hx1 : okA xss x = true := by have := h.all; rw [allA_app, allA_one, Bool.and_eq_true] at this; exact this.2
    have ho : allA xss o = true := by have := h.all; rw [allA_app, Bool.and_eq_true] at this; exact this.1
    have hx0 : 0 ≤ x.pl := h.pos x (by simp)
    have hxs : x.data.length ≤ 60 * ws.length := h.sz x (by simp)
    rw [mstep_snoc]
    split
    · rename_i hj
      obtain ⟨j1, j2, j3⟩ := joinB_true.1 hj
      refine ⟨by rw [allA_app, ho, allA_one, okA_join hx1 hy hj]; rfl, ?_, by have := h.len; simp at this ⊢; omega, fun _ e => by simp at e, ?_, ?_, ?_⟩
      · rw [applyN_app xss ws, ← h.app, applyN_app, applyN_app]
        show putN (applyN xss o) (joinW x y) = putN (putN (applyN xss o) x) y
        have hl := applyN_lens (xss := xss) (ws := o) ho (fun z hz => h.pos z (by simp [hz]))
        have hll : (applyN xss o).length = xss.length := by have := congrArg List.length hl; simpa using this
        have a1 := okA_true hx1
        have a2 := okA_true hy
        rw [← j1] at a2
        refine (putN_join _ x y hj (by rw [hll]; exact a1.1) hx0 ?_).symm
        rw [lens_getD xss _ hl]
        have := a2.2.1
        omega
      · intro z hz
        rw [List.length_append, List.length_singleton]
        rcases List.mem_append.1 hz with hz | hz
        · have := h.sz z (by simp [hz]); omega
        · simp at hz; subst hz; unfold joinW; simp only [List.length_append]; omega
      · intro z hz
        rcases List.mem_append.1 hz with hz | hz
        · exact h.pos z (by simp [hz])
        · simp at hz; subst hz; exact hx0
      · intro i u v h1 h2
        rcases Nat.lt_or_ge (i + 1) o.length with hi | hi
        · refine h.apart i u v ?_ ?_
          · rw [List.getElem?_append_left (by omega)] at h1 ⊢; exact h1
          · rw [List.getElem?_append_left hi] at h2 ⊢; exact h2
        · have hi2 : i + 1 = o.length := by
            have : i + 1 < (o ++ [joinW x y]).length := (List.getElem?_eq_some_iff.1 h2).1
            simp at this; omega
          rw [List.getElem?_append_right hi, show i + 1 - o.length = 0 from by omega] at h2
          simp at h2
          subst h2
          have h3 : (o ++ [x])[i + 1]? = some x := by rw [hi2]; simp
          rw [List.getElem?_append_left (by omega)] at h1
          exact h.apart i u x (by rw [List.getElem?_append_left (by omega)]; exact h1) h3
    · rename_i hj
      refine hplain (fun i u v h1 h2 => ?_)
      rcases Nat.lt_or_ge (i + 1) (o ++ [x]).length with hi | hi
      · rw [List.getElem?_append_left (by omega)] at h1
        rw [List.getElem?_append_left hi] at h2
        exact h.apart i u v h1 h2
      · have hi2 : i + 1 = (o ++ [x]).length := by
          have : i + 1 < (o ++ [x] ++ [y]).length := (List.getElem?_eq_some_iff.1 h2).1
          simp at this ⊢; simp at hi; omega
        rw [List.getElem?_append_right hi, show i + 1 - (o ++ [x]).length = 0 from by omega] at h2
        simp at h2
        subst h2
        have hio : i = o.length := by simp at hi2; exact hi2
        subst hio
        rw [List.getElem?_append_left (by simp)] at h1
        simp at h1
        subst h1
        intro e
        exact hj (joinB_true.2 ⟨e.1, e.2, by omega⟩)
theorem Mi.all_of {xss : List (List UInt8)} {ws : List Wm} (h : ∀ y ∈ ws, okA xss y = true ∧ 0 ≤ y.pl ∧ y.data.length ≤ 60) (hw : ws.length ≤ 8) : Mi xss (mgN ws) ws := by
  have : ∀ k, k ≤ ws.length → Mi xss (mgN (ws.take k)) (ws.take k) := by
    intro k
    induction k with
    | zero => intro _; simp; exact Mi.nil xss
    | succ k ih =>
      intro hk
      have hkx : k < ws.length := by omega
      have hy := h ws[k] (List.getElem_mem hkx)
      have := (ih (by omega)).step ws[k] hy.1 hy.2.1 hy.2.2 (by simp; omega)
      rw [mgN_snoc ws k hkx, List.take_succ_eq_append_getElem hkx]
      exact this
  have := this ws.length (Nat.le_refl _)
  rwa [List.take_length] at this

end Go.Proofs.Ytkgccoghdalniaa
