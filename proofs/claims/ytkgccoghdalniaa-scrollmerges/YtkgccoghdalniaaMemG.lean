/- Rows of rows of bytes that the call owns and writes into; rows of structs whose fields are written; blocks told apart by the type of their cells. Plain lemmas, no law is claimed here. -/
import Derived.Test.YtkgccoghdalniaaPair
import Derived.Laws.CopyOwn
namespace Go.Proofs.Ytkgccoghdalniaa
open Go.RowKit

theorem Own.kept {α : Type} {f : α → Value} {w w' : World} {base : Nat} {e : TypeId} {A : Option Addr} {n c : Nat} {xs : List α} (h : Own f w base e A n c xs) {row : Option Nat} (hg : w.grownBy w' row)
    (hne : ∀ k, A.map (·.block) = some k → some k ≠ row) : Own f w' base e A n c xs := by
  refine ⟨h.own.kept hg ?_, h.len⟩
  rw [ownBlock_slice]
  cases hA : A.map (·.block) with
  | none => exact .inl rfl
  | some k => exact .inr (hne k hA)
theorem Own.ltA {α : Type} {f : α → Value} {w : World} {base : Nat} {e : TypeId} {A : Option Addr} {n c : Nat} {xs : List α} (h : Own f w base e A n c xs) : ∀ k, A.map (·.block) = some k → base ≤ k ∧ k < w.heap.size := by
  have := h.lt; rw [ownBlock_slice] at this; exact this
/-- the type of an owned row's block -/
def Ty (w : World) (k : Nat) (e : TypeId) : Prop := ∃ cur fr, w.heap[k]? = some (.cells cur e fr)
theorem Ty.ne {w : World} {k k' : Nat} {e e' : TypeId} (h : Ty w k e) (h' : Ty w k' e') (he : e ≠ e') : k ≠ k' := by
  rintro rfl
  obtain ⟨a, b, h⟩ := h
  obtain ⟨c, d, h'⟩ := h'
  rw [h] at h'
  injection h' with h'
  injection h' with h1 h2
  exact he h2
theorem Own.ty {α : Type} {f : α → Value} {w : World} {base : Nat} {e : TypeId} {A : Option Addr} {n c : Nat} {xs : List α} (h : Own f w base e A n c xs) {k : Nat} (hk : A.map (·.block) = some k) : Ty w k e := by
  rcases h.own.2 with ⟨hv, _⟩ | ⟨g, cap, cur, hv, hb, hg, _⟩
  · injection hv with h1 h2 h3; subst h1; simp at hk
  · injection hv with h1 h2 h3; subst h1; simp at hk; subst hk; exact ⟨cur, _, hg⟩
theorem OwnX.ty {ρ α : Type} {T : Shape ρ α} {w : World} {base : Nat} {e : TypeId} {S : Nat → Prop} {A : Option Addr} {n c : Nat} {rs : List ρ} {xs : List α} (h : OwnX T w base e S A n c rs xs) {k : Nat} (hk : A.map (·.block) = some k) : Ty w k e := by
  rcases h.own.2 with ⟨hv, _⟩ | ⟨g, cap, cur, hv, hb, hg, _⟩
  · injection hv with h1 h2 h3; subst h1; simp at hk
  · injection hv with h1 h2 h3; subst h1; simp at hk; subst hk; exact ⟨cur, _, hg⟩

/-- slices as plain elements -/
def shV : Shape (Option Addr × Nat × Nat) (Option Addr × Nat × Nat) where
  k := 1
  raw s := [sv s]
  Ok _ _ r x := r = x
  pos := by omega
  len _ := rfl
  one r u h := by simp at h; subst h; rfl
  keep h _ _ := h
theorem shV_flat (rs : List (Option Addr × Nat × Nat)) : rs.flatMap shV.raw = rs.map sv := by
  induction rs with
  | nil => rfl
  | cons r rs ih => rw [List.flatMap_cons, ih]; rfl
theorem Own.toX {w : World} {base : Nat} {e : TypeId} {A : Option Addr} {n c : Nat} {ss : List (Option Addr × Nat × Nat)} (h : Own sv w base e A n c ss) (S : Nat → Prop) : OwnX shV w base e S A n c ss ss :=
  ⟨by rw [shV_flat]; exact h.own, h.len, h.len, fun j r x h1 h2 => by rw [h1] at h2; injection h2⟩
theorem OwnX.toO {w : World} {base : Nat} {e : TypeId} {A : Option Addr} {n c : Nat} {rs ss : List (Option Addr × Nat × Nat)} {S : Nat → Prop} (h : OwnX shV w base e S A n c rs ss) : Own sv w base e A n c ss := by
  have : rs = ss := by
    apply List.ext_getElem (by rw [h.lenr, h.len])
    intro i h1 h2
    exact h.ok i _ _ (List.getElem?_eq_getElem h1) (List.getElem?_eq_getElem h2)
  subst this
  exact ⟨by rw [← shV_flat]; exact h.own, h.len⟩

/-- a row of rows of bytes, all of the call's own -/
structure Grid (w : World) (base : Nat) (A : Option Addr) (n c : Nat) (ss : List (Option Addr × Nat × Nat)) (xss : List (List UInt8)) : Prop where
  row : Own sv w base 23 A n c ss
  len : xss.length = n
  each : ∀ (i : Nat) (s : Option Addr × Nat × Nat) (xs : List UInt8), ss[i]? = some s → xss[i]? = some xs → Own bv w base 5 s.1 s.2.1 s.2.2 xs
  sep : ∀ (i j : Nat) (s t : Option Addr × Nat × Nat), i ≠ j → ss[i]? = some s → ss[j]? = some t → ∀ k, s.1.map (·.block) = some k → Off t.1 k

theorem Grid.empty (w : World) (base : Nat) : Grid w base none 0 0 [] [] := ⟨Own.empty _ _ _ _, rfl, fun i s xs h => by simp at h, fun i j s t _ h => by simp at h⟩
section
variable {w w' : World} {base : Nat} {A : Option Addr} {n c : Nat} {ss : List (Option Addr × Nat × Nat)} {xss : List (List UInt8)}
theorem Grid.slen (h : Grid w base A n c ss xss) : ss.length = n := h.row.len
theorem Grid.at_ (h : Grid w base A n c ss xss) (i : Nat) (hi : i < n) : ∃ s, ss[i]? = some s ∧ Own bv w base 5 s.1 s.2.1 s.2.2 (xss[i]'(by rw [h.len]; exact hi)) :=
  ⟨ss[i]'(by rw [h.slen]; exact hi), List.getElem?_eq_getElem _, h.each i _ _ (List.getElem?_eq_getElem _) (List.getElem?_eq_getElem _)⟩
theorem Grid.kept (h : Grid w base A n c ss xss) {row : Option Nat} (hg : w.grownBy w' row) (hty : ∀ k, row = some k → k < w.heap.size → ∃ e, Ty w k e ∧ e ≠ 23 ∧ e ≠ 5) : Grid w' base A n c ss xss := by
  refine ⟨h.row.kept hg fun k hk e => ?_, h.len, fun i s xs h1 h2 => (h.each i s xs h1 h2).kept hg fun k hk e => ?_, h.sep⟩
  · obtain ⟨e', t, h1, _⟩ := hty k e.symm (h.row.ltA k hk).2
    exact Ty.ne (h.row.ty hk) t (fun e => h1 e.symm) rfl
  · have ho := h.each i s xs h1 h2
    obtain ⟨e', t, _, h3⟩ := hty k e.symm (ho.ltA k hk).2
    exact Ty.ne (ho.ty hk) t (fun e => h3 e.symm) rfl
theorem Grid.below (h : Grid w base A n c ss xss) (hb : Below w.heap.size w w') : Grid w' base A n c ss xss :=
  ⟨h.row.below hb, h.len, fun i s xs h1 h2 => (h.each i s xs h1 h2).below hb, h.sep⟩
theorem Grid.lower {base' : Nat} (h : Grid w base A n c ss xss) (hb : base' ≤ base) : Grid w base' A n c ss xss :=
  ⟨h.row.lower hb, h.len, fun i s xs h1 h2 => (h.each i s xs h1 h2).lower hb, h.sep⟩
theorem Grid.rds (h : Grid w base A n c ss xss) : Rds w w.heap.size ss xss := ⟨by rw [h.slen, h.len], fun i s xs h1 h2 => (h.each i s xs h1 h2).rd⟩
theorem Grid.rdX (h : Grid w base A n c ss xss) : RdX shS w (fun b => base ≤ b ∧ b < w.heap.size) A n c xss := by
  refine ⟨h.len, h.row.rd.cap, fun j hj => ?_⟩
  have hjn : j < n := by rw [← h.len]; exact hj
  have hjs : j < ss.length := by rw [h.slen]; exact hjn
  obtain ⟨b, off, hS, hb, hc⟩ := h.row.rdp.at_ j hjs
  refine ⟨b, off, hS, hb, ss[j], fun i u hu => ?_, (h.each j _ _ (List.getElem?_eq_getElem hjs) (List.getElem?_eq_getElem hj)).rdp⟩
  match i, hu with
  | 0, hu => simp [shS] at hu; subst hu; show w.cell? ⟨b, off + j * 1 + 0, none⟩ = _; rw [Nat.mul_one, Nat.add_zero]; exact hc
  | i + 1, hu => simp [shS] at hu
/-- a new row at the end -/
theorem Grid.pushed (h : Grid w base A n c ss xss) {g cap : Nat} {s : Option Addr × Nat × Nat} {xs : List UInt8} (hrow : Own sv w' base 23 (some ⟨g, 0, none⟩) (n + 1) cap (ss ++ [s]))
    (hg : w.grownBy w' (A.map (·.block))) (hs : Own bv w base 5 s.1 s.2.1 s.2.2 xs) (hoff : ∀ k, s.1.map (·.block) = some k → ∀ (i : Nat) t, ss[i]? = some t → Off t.1 k) : Grid w' base (some ⟨g, 0, none⟩) (n + 1) cap (ss ++ [s]) (xss ++ [xs]) := by
  have hne : ∀ {A' : Option Addr} {n' c' : Nat} {ys : List UInt8}, Own bv w base 5 A' n' c' ys → Own bv w' base 5 A' n' c' ys := fun {A' n' c' ys} ho => ho.kept hg fun k hk e => Ty.ne (ho.ty hk) (h.row.ty e.symm) (by decide) rfl
  refine ⟨hrow, by simp [h.len], fun i t ys h1 h2 => ?_, fun i j t u hij h1 h2 k hk => ?_⟩
  · rcases Nat.lt_or_ge i n with hi | hi
    · rw [List.getElem?_append_left (by rw [h.slen]; exact hi)] at h1
      rw [List.getElem?_append_left (by rw [h.len]; exact hi)] at h2
      exact hne (h.each i t ys h1 h2)
    · rw [List.getElem?_append_right (by rw [h.slen]; exact hi), h.slen] at h1
      rw [List.getElem?_append_right (by rw [h.len]; exact hi), h.len] at h2
      match hin : i - n, h1, h2 with
      | 0, h1, h2 => simp at h1 h2; subst h1; subst h2; exact hne hs
      | m + 1, h1, _ => simp at h1
  · have cs : ∀ (i : Nat) t, (ss ++ [s])[i]? = some t → ss[i]? = some t ∨ (i = n ∧ t = s) := by
      intro i t h1
      rcases Nat.lt_or_ge i n with hi | hi
      · left; rwa [List.getElem?_append_left (by rw [h.slen]; exact hi)] at h1
      · right
        rw [List.getElem?_append_right (by rw [h.slen]; exact hi), h.slen] at h1
        match hin : i - n, h1 with
        | 0, h1 => simp at h1; exact ⟨by omega, h1.symm⟩
        | m + 1, h1 => simp at h1
    rcases cs i t h1 with a | ⟨a, rfl⟩
    · rcases cs j u h2 with b | ⟨b, rfl⟩
      · exact h.sep i j t u hij a b k hk
      · intro e
        exact hoff k e.symm i t a hk.symm
    · rcases cs j u h2 with b | ⟨b, rfl⟩
      · exact hoff k hk j u b
      · omega
/-- a row of the grid becomes another one -/
theorem Grid.setRow (h : Grid w base A n c ss xss) (i : Nat) {s s' : Option Addr × Nat × Nat} {xs : List UInt8} (_hi : ss[i]? = some s) (hrow : Own sv w' base 23 A n c (ss.set i s'))
    (hg : w.grownBy w' (A.map (·.block))) (hs : Own bv w base 5 s'.1 s'.2.1 s'.2.2 xs) (hoff : ∀ k, s'.1.map (·.block) = some k → ∀ (j : Nat) t, ss[j]? = some t → Off t.1 k) : Grid w' base A n c (ss.set i s') (xss.set i xs) := by
  have hne : ∀ {A' : Option Addr} {n' c' : Nat} {ys : List UInt8}, Own bv w base 5 A' n' c' ys → Own bv w' base 5 A' n' c' ys := fun {A' n' c' ys} ho => ho.kept hg fun k hk e => Ty.ne (ho.ty hk) (h.row.ty e.symm) (by decide) rfl
  have cs : ∀ (j : Nat) t, (ss.set i s')[j]? = some t → (j ≠ i ∧ ss[j]? = some t) ∨ (j = i ∧ t = s') := by
    intro j t h1
    rw [List.getElem?_set] at h1
    split at h1
    · split at h1
      · right; exact ⟨by omega, by injection h1 with h1; exact h1.symm⟩
      · cases h1
    · left; exact ⟨by omega, h1⟩
  refine ⟨hrow, by simp [h.len], fun j t ys h1 h2 => ?_, fun j j' t u hij h1 h2 k hk => ?_⟩
  · rcases cs j t h1 with ⟨a, b⟩ | ⟨rfl, rfl⟩
    · rw [List.getElem?_set_ne (by omega)] at h2
      exact hne (h.each j t ys b h2)
    · rw [List.getElem?_set] at h2
      simp at h2
      rw [← h2.2]
      exact hne hs
  · rcases cs j t h1 with ⟨a, a'⟩ | ⟨a, rfl⟩
    · rcases cs j' u h2 with ⟨b, b'⟩ | ⟨b, rfl⟩
      · exact h.sep j j' t u hij a' b' k hk
      · intro e
        exact hoff k e.symm j t a' hk.symm
    · rcases cs j' u h2 with ⟨b, b'⟩ | ⟨b, rfl⟩
      · exact hoff k hk j' u b'
      · omega
/-- the bytes of a row are changed in place -/
theorem Grid.changed (h : Grid w base A n c ss xss) (i : Nat) {s : Option Addr × Nat × Nat} {xs : List UInt8} (hi : ss[i]? = some s) (hs : Own bv w' base 5 s.1 s.2.1 s.2.2 xs) (hg : w.grownBy w' (s.1.map (·.block)))
    (hin : i < n) : Grid w' base A n c ss (xss.set i xs) := by
  have ho := h.each i s _ hi (List.getElem?_eq_getElem (by rw [h.len]; exact hin))
  refine ⟨h.row.kept hg fun k hk e => Ty.ne (h.row.ty hk) (ho.ty e.symm) (by decide) rfl, by simp [h.len], fun j t ys h1 h2 => ?_, h.sep⟩
  rcases Nat.decEq j i with hji | hji
  · rw [List.getElem?_set_ne (by omega)] at h2
    exact (h.each j t ys h1 h2).kept hg fun k hk e => h.sep j i t s hji h1 hi k hk e
  · subst hji
    rw [List.getElem?_set_self (by rw [h.len]; exact hin)] at h2
    rw [hi] at h1
    injection h1 with h1; injection h2 with h2
    subst h1; subst h2
    exact hs
end

/-- bytes laid over a row of bytes from a place on -/
def lay (xs : List UInt8) (at_ : Nat) (ys : List UInt8) : List UInt8 := xs.take at_ ++ (ys ++ xs.drop (at_ + ys.length))
theorem lay_len (xs : List UInt8) (at_ : Nat) (ys : List UInt8) (h : at_ + ys.length ≤ xs.length) : (lay xs at_ ys).length = xs.length := by simp [lay]; omega
theorem lay_splice (xs : List UInt8) (at_ : Nat) (ys : List UInt8) : (lay xs at_ ys).map bv = splice (xs.map bv) at_ (ys.map bv) := by simp [lay, splice]
theorem Own.laid {w : World} {base g n c : Nat} {e : TypeId} {xs : List UInt8} (h : Own bv w base e (some ⟨g, 0, none⟩) n c xs) (at_ : Nat) (ys : List UInt8) (hf : at_ + ys.length ≤ n) :
    ∃ cur, w.heap[g]? = some (.cells cur e (0, 0)) ∧ n ≤ cur.size ∧ Own bv (w.setRow g (cur.toList.take at_ ++ (ys.map bv ++ cur.toList.drop (at_ + (ys.map bv).length))).toArray) base e (some ⟨g, 0, none⟩) n c (lay xs at_ ys) ∧
      w.grownBy (w.setRow g (cur.toList.take at_ ++ (ys.map bv ++ cur.toList.drop (at_ + (ys.map bv).length))).toArray) (some g) := by
  have hl := h.len
  rcases h.own.2 with ⟨hv, _⟩ | ⟨g', cap, cur, hv, hb, hg, hnc, hcm, hs, ht⟩
  · injection hv with h1; cases h1
  · injection hv with h1 h2 h3
    injection h1 with h1; injection h1 with h1
    subst h1; subst h3
    rw [Nat.mul_one] at hs ht
    refine ⟨cur, hg, by omega, ⟨⟨by simp [lay_len xs at_ ys (by omega), hl], .inr ⟨g, c, _, rfl, hb, setRow_heap w g cur _ e (0, 0) hg, hnc, hcm, ?_, ?_⟩⟩, by rw [lay_len xs at_ ys (by omega)]; exact hl⟩, ?_⟩
    · simp; omega
    · obtain ⟨R, hR⟩ : ∃ R, cur.toList = xs.map bv ++ R := ⟨cur.toList.drop n, by rw [← ht, List.take_append_drop]⟩
      rw [lay_splice, Nat.mul_one, hR, List.take_append_of_le_length (l₁ := xs.map bv) (l₂ := R) (i := at_) (by simp; omega), List.drop_append_of_le_length (by simp; omega), ← List.append_assoc, ← List.append_assoc]
      rw [List.take_left' (by simp; omega)]
      unfold splice
      rw [List.append_assoc]
    · exact ⟨rfl, rfl, rfl, by simp [World.setRow], fun k _ hk => setRow_other w g k _ (fun e => hk (by rw [e]))⟩

/-- a field of a struct of the row is written -/
theorem OwnX.field {ρ α : Type} {T : Shape ρ α} {w : World} {base : Nat} {e : TypeId} {S : Nat → Prop} {g n c : Nat} {rs : List ρ} {xs : List α} (h : OwnX T w base e S (some ⟨g, 0, none⟩) n c rs xs) (j i : Nat) (r : ρ) (x : α) (u : Value) (p : Nat)
    (hj : j < n) (hi : i < T.k) (hp : p = j * T.k + i) (hraw : T.raw r = (T.raw (rs[j]'(by rw [h.lenr]; exact hj))).set i u) (hok : T.Ok w S r x) (hS : ∀ b, S b → b ≠ g) :
    OwnX T (w.setCell ⟨g, p, none⟩ u) base e S (some ⟨g, 0, none⟩) n c (rs.set j r) (xs.set j x) ∧ w.grownBy (w.setCell ⟨g, p, none⟩ u) (some g) := by
  subst hp
  have hst := h.own.stored (j * T.k + i) u
  refine ⟨⟨?_, by simp [h.lenr], by simp [h.len], fun j' r' x' h1 h2 => ?_⟩, hst.2⟩
  · have e1 : (rs.set j r).flatMap T.raw = (rs.flatMap T.raw).set (j * T.k + i) u := by
      apply List.ext_getElem?
      intro q
      have hpos := T.pos
      have hlen : ∀ l : List ρ, (l.flatMap T.raw).length = l.length * T.k := by
        intro l
        induction l with
        | nil => simp
        | cons a l ih => rw [List.flatMap_cons, List.length_append, ih, T.len, List.length_cons, Nat.succ_mul]; omega
      rcases Nat.lt_or_ge q (n * T.k) with hq | hq
      · have hqj : q / T.k < n := Nat.div_lt_of_lt_mul (by rw [Nat.mul_comm]; exact hq)
        have hqi : q % T.k < T.k := Nat.mod_lt _ hpos
        have hqe : q = q / T.k * T.k + q % T.k := by rw [Nat.mul_comm]; exact (Nat.div_add_mod q T.k).symm
        generalize q / T.k = qj at *
        generalize q % T.k = qi at *
        subst hqe
        rw [flatMap_get T.raw T.k T.len (rs.set j r) qj qi (by simp; rw [h.lenr]; exact hqj) hqi, List.getElem?_set]
        by_cases hjq : qj = j
        · subst hjq
          rw [List.getElem_set_self, hraw, List.getElem?_set]
          by_cases hii : qi = i
          · subst hii
            rw [if_pos rfl, if_pos rfl, if_pos (by rw [T.len]; exact hqi), if_pos (by rw [hlen, h.lenr]; exact hq)]
          · rw [if_neg (fun e => hii e.symm), if_neg (by omega), flatMap_get T.raw T.k T.len rs qj qi (by rw [h.lenr]; exact hqj) hqi]
        · rw [List.getElem_set_ne (fun e => hjq e.symm), if_neg ?_, flatMap_get T.raw T.k T.len rs qj qi (by rw [h.lenr]; exact hqj) hqi]
          intro e
          apply hjq
          have h1 : (j * T.k + i) / T.k = j := by rw [Nat.mul_comm, Nat.mul_add_div hpos, Nat.div_eq_of_lt hi, Nat.add_zero]
          have h2 : (qj * T.k + qi) / T.k = qj := by rw [Nat.mul_comm, Nat.mul_add_div hpos, Nat.div_eq_of_lt hqi, Nat.add_zero]
          rw [e, h2] at h1
          exact h1
      · rw [List.getElem?_eq_none (by rw [hlen]; simp; rw [h.lenr]; exact hq), List.getElem?_eq_none (by rw [List.length_set, hlen, h.lenr]; exact hq)]
    rw [e1]
    exact hst.1
  · have hk : Kp S w (w.setCell ⟨g, j * T.k + i, none⟩ u) := Kp.setCell hS u
    by_cases hjj : j' = j
    · subst hjj
      rw [List.getElem?_set_self (by rw [h.lenr]; exact hj)] at h1
      rw [List.getElem?_set_self (by rw [h.len]; exact hj)] at h2
      injection h1 with h1; injection h2 with h2
      subst h1; subst h2
      exact T.keep hok hk (fun _ h => h)
    · rw [List.getElem?_set_ne (fun e => hjj e.symm)] at h1 h2
      exact T.keep (h.ok j' r' x' h1 h2) hk (fun _ h => h)

/-- copy of bytes into a row of the call's own -/
theorem wpList_copy_lay {P : Program} {w : World} {ops : Array Oper} {rest : List Oper} {o : Oper} {a : Act} {Q : Exit → Act → World → Prop} (hgd : o.guard = none) (d s : Operand) (dT sT : TypeId)
    (ho : o.op = .call { callee := .builtin .copy, args := #[d, s], argTypes := #[dT, sT] }) (elem : TypeId) (hu : P.underlying dT = some (.slice elem)) (hsz : (P.info? elem).map (·.size) = some 1)
    (g off dLen dCap : Nat) (A2 : Option Addr) (sLen sCap : Nat) (hd : a.eval d = .slice (some ⟨g, off, none⟩) dLen dCap) (hs : a.eval s = .slice A2 sLen sCap)
    (base : Nat) (e : TypeId) (n c : Nat) (xs : List UInt8) (hown : Own bv w base e (some ⟨g, 0, none⟩) n c xs) (B : Nat) (ys : List UInt8) (hr : Rd bv w B A2 sLen sCap ys) (h1 : 1 ≤ sLen) (hn : sLen ≤ dLen) (hfit : off + sLen ≤ n)
    (h : ∀ w', Own bv w' base e (some ⟨g, 0, none⟩) n c (lay xs off ys) → w.grownBy w' (some g) → wpList P ops Q rest (a.put o.dst (goInt sLen)) w') : wpList P ops Q (o :: rest) a w := by
  have hl := hr.len
  obtain ⟨b, o2, rfl, _, _⟩ := hr.at_ 0 (by omega)
  obtain ⟨cur, hg, hcs, hown', hgr⟩ := hown.laid off ys (by omega)
  have hcells : ∀ j u, (ys.map bv)[j]? = some u → w.cell? ((⟨b, o2, none⟩ : Addr).add j) = some u := by
    intro j u hu
    rw [List.getElem?_map] at hu
    rcases Nat.lt_or_ge j ys.length with hj | hj
    · obtain ⟨b', off', h, _, hc⟩ := hr.at_ j hj
      injection h with h; injection h with h1 h2; subst h1; subst h2
      rw [List.getElem?_eq_getElem hj] at hu
      simp at hu
      subst hu
      have hadd : (⟨b, o2, Option.none⟩ : Addr).add j = ⟨b, o2 + j, Option.none⟩ := by unfold Addr.add; split <;> simp_all
      rw [hadd]; exact hc
    · rw [List.getElem?_eq_none hj] at hu; cases hu
  refine wpList_copy_own hgd d s dT sT ho elem hu hsz g off dLen dCap ⟨b, o2, none⟩ sLen sCap hd hs cur e hg (ys.map bv) (by simp; rw [hl]; exact (Nat.min_eq_left hn).symm) hcells (by simp; omega) (by intro v hv; simp at hv; obtain ⟨x, _, rfl⟩ := hv; rfl) ?_
  have := h _ hown' hgr
  rw [show (ys.map bv).length = sLen from by simp [hl]] at this ⊢
  exact this

end Go.Proofs.Ytkgccoghdalniaa
