/- Append of many elements of a shape to a row of the call's own. No law is claimed here. -/
import Derived.Test.YtdefkajjpilicaaK3
namespace Go.Proofs.Ytdefkajjpilicaa
open Go.RowKit

theorem list_pick {α : Type} (P : Nat → α → Prop) (n : Nat) (h : ∀ i, i < n → ∃ x, P i x) : ∃ xs : List α, xs.length = n ∧ ∀ i, (hi : i < xs.length) → P i xs[i] := by
  induction n with
  | zero => exact ⟨[], rfl, fun i hi => absurd hi (by simp)⟩
  | succ n ih =>
    obtain ⟨xs, hl, hx⟩ := ih (fun i hi => h i (by omega))
    obtain ⟨x, hp⟩ := h n (by omega)
    refine ⟨xs ++ [x], by simp [hl], fun i hi => ?_⟩
    rcases Nat.lt_or_ge i n with h1 | h1
    · rw [List.getElem_append_left (by omega)]; exact hx i (by omega)
    · have : i = n := by simp at hi; omega
      subst this
      rw [List.getElem_append_right (by omega)]
      simpa [hl] using hp

section
variable {P : Program} (w : World)
theorem run_append_zero (base : Nat) (t ty e : TypeId) (i : TypeInfo) (ht : P.underlying t = some (.slice e)) (hi : P.info? e = some i) (size : Nat)
    (A : Option Addr) (n c : Nat) (xs : List Value) (hown : w.ownsRow base e size (.slice A n c) n xs) (A2 : Option Addr) (c2 : Nat) :
    (Builtin.append_ #[t, t] ty #[.slice A n c, .slice A2 0 c2]).run P w = .ok (.slice A n c) w := by
  rcases hown.2 with ⟨hv, hn⟩ | ⟨g, cap, cur, hv, hb, hg, hnc, hcm, hs, ht'⟩
  · injection hv with h1 h2 h3
    subst h1; subst h2; subst h3
    cases A2 <;> simp [Builtin.append_, run_underlying ht, sizeOf, typeInfo, hi, Builtin.lenOf, Builtin.firstCells, loadCells, loadCellsFrom]
  · injection hv with h1 h2 h3
    subst h1; subst h3
    cases A2 <;> simp [Builtin.append_, run_underlying ht, sizeOf, typeInfo, hi, Builtin.lenOf, Builtin.firstCells, hnc, storeCells, loadCells, loadCellsFrom]

/-- many elements of a shape behind a row of the call's own: where the row lies then -/
theorem run_appX {ρ α : Type} (T : Shape ρ α) (base : Nat) (t ty e : TypeId) (i : TypeInfo) (z : Value) (bytes : Nat)
    (ht : P.underlying t = some (.slice e)) (hi : P.info? e = some i) (hz : i.zero = some z) (hsize : i.size = T.k) (hby : i.bytes = bytes) (hzs : z.cells.size = T.k)
    (A : Option Addr) (n c : Nat) (rs : List ρ) (xs : List α) (hO : OE T w base e A n c rs xs) (A2 : Option Addr) (m c2 : Nat) (ys : List α) (hX : XE T w A A2 m c2 ys)
    (h63 : n + m ≤ maxLen) (hbytes : (n + m) * bytes ≤ 140737488355328) (hbase : base ≤ w.heap.size) :
    ∃ A' c' w' rs', (Builtin.append_ #[t, t] ty #[.slice A n c, .slice A2 m c2]).run P w = .ok (.slice A' (n + m) c') w' ∧ OE T w' base e A' (n + m) c' (rs ++ rs') (xs ++ ys) ∧ w.grownBy w' (A.map (·.block)) ∧
      (A' = A ∨ ∃ g, A' = some ⟨g, 0, none⟩ ∧ (A.map (·.block) = some g ∨ g = w.heap.size)) := by
  rcases Nat.eq_zero_or_pos m with h0 | h0
  · subst h0
    have hy : ys = [] := List.eq_nil_of_length_eq_zero hX.len
    subst hy
    exact ⟨A, c, w, [], run_append_zero w base t ty e i ht hi T.k A n c _ hO.own A2 c2, by simpa using hO, World.grownBy.refl w _, .inl rfl⟩
  · have hl := hX.len
    obtain ⟨b, off, rfl, hSb, _⟩ := hX.at_ 0 (by omega)
    obtain ⟨rs', hrl, hr⟩ := list_pick (fun j (r : ρ) => (∀ i u, (T.raw r)[i]? = some u → w.cell? ⟨b, off + j * T.k + i, none⟩ = some u) ∧ ∀ y, ys[j]? = some y → T.Ok w (SE w A none) r y) m (fun j hj => by
      obtain ⟨b', off', e', _, r, hc, ho⟩ := hX.at_ j (by omega)
      injection e' with e'; injection e' with e1 e2; subst e1; subst e2
      exact ⟨r, hc, fun y hy => by rw [List.getElem?_eq_getElem (by omega)] at hy; injection hy with hy; subst hy; exact ho⟩)
    have hfl : ∀ l : List ρ, (l.flatMap T.raw).length = l.length * T.k := by
      intro l
      induction l with
      | nil => simp
      | cons r l ih => rw [List.flatMap_cons, List.length_append, T.len, ih, List.length_cons, Nat.succ_mul]; omega
    have hadd : ∀ j, (⟨b, off, Option.none⟩ : Addr).add j = ⟨b, off + j, Option.none⟩ := fun j => by unfold Addr.add; split <;> simp_all
    have hnews : ∀ j u, (rs'.flatMap T.raw)[j]? = some u → w.cell? ((⟨b, off, none⟩ : Addr).add j) = some u := by
      intro j u hu
      have hj : j < m * T.k := by
        rcases Nat.lt_or_ge j (m * T.k) with h | h
        · exact h
        · rw [List.getElem?_eq_none (by rw [hfl, hrl]; exact h)] at hu; cases hu
      have hpos := T.pos
      have hq : j / T.k < rs'.length := by rw [hrl]; exact (Nat.div_lt_iff_lt_mul hpos).2 hj
      have hm := Nat.mod_lt j hpos
      have hdm := Nat.div_add_mod j T.k
      rw [← hdm, Nat.mul_comm, flatMap_get T.raw T.k T.len rs' _ _ hq hm] at hu
      have := (hr (j / T.k) hq).1 _ _ hu
      rw [hadd, ← hdm, Nat.mul_comm T.k, ← Nat.add_assoc]
      exact this
    have hone : ∀ u ∈ rs'.flatMap T.raw, u.oneCell' = true := fun u hu => by
      obtain ⟨r, _, hu⟩ := List.mem_flatMap.1 hu
      exact T.one r u hu
    obtain ⟨g, cap, w', hrun, hown, hg, hat, _⟩ := run_append_lies (P := P) w t ty base e i z T.k bytes ht hi hz hsize hby hzs T.pos (.slice A n c) n _ hO.own ⟨b, off, none⟩ m c2 (rs'.flatMap T.raw) (by rw [hfl, hrl]) hnews hone h0 h63 hbytes hbase _ rfl
    rw [ownBlock_slice] at hg hat
    refine ⟨some ⟨g, 0, none⟩, cap, w', rs', hrun, ?_, hg, .inr ⟨g, rfl, hat⟩⟩
    have hkp : Kp (SE w A none) w w' := Kp.grown hg (fun _ h => ⟨h.1, h.2.1⟩)
    refine ⟨by rw [List.flatMap_append]; exact hown, by rw [List.length_append, hO.lenr, hrl], by rw [List.length_append, hO.len, hl], fun j r x h1 h2 => ?_⟩
    rcases Nat.lt_or_ge j n with hj | hj
    · rw [List.getElem?_append_left (by rw [hO.lenr]; exact hj)] at h1
      rw [List.getElem?_append_left (by rw [hO.len]; exact hj)] at h2
      exact T.keep (hO.ok j r x h1 h2) hkp (SE.grow hat hg.size)
    · rw [List.getElem?_append_right (by rw [hO.lenr]; exact hj), hO.lenr] at h1
      rw [List.getElem?_append_right (by rw [hO.len]; exact hj), hO.len] at h2
      have hjr : j - n < rs'.length := by
        rcases Nat.lt_or_ge (j - n) rs'.length with h | h
        · exact h
        · rw [List.getElem?_eq_none h] at h1; cases h1
      rw [List.getElem?_eq_getElem hjr] at h1
      injection h1 with h1
      subst h1
      exact T.keep ((hr (j - n) hjr).2 x h2) hkp (SE.grow hat hg.size)
/-- .. at a step of a region whose order is open -/
theorem step_appX {ρ α : Type} (T : Shape ρ α) {ops : Array Oper} {o : Oper} {a : Act} {K : Act → World → Prop} {Q : Exit → Act → World → Prop} {E : Prop} (hgd : o.guard = none) (s x : Operand) (t : TypeId)
    (ho : o.op = .call { callee := .builtin .append, args := #[s, x], argTypes := #[t, t] }) (w0 : World) (e : TypeId) (i : TypeInfo) (z : Value) (bytes : Nat)
    (ht : P.underlying t = some (.slice e)) (hi : P.info? e = some i) (hz : i.zero = some z) (hsize : i.size = T.k) (hby : i.bytes = bytes) (hzs : z.cells.size = T.k)
    (A : Option Addr) (n c : Nat) (rs : List ρ) (xs : List α) (A2 : Option Addr) (m c2 : Nat) (ys : List α) (hs : a.eval s = .slice A n c) (hx : a.eval x = .slice A2 m c2)
    (h63 : n + m ≤ maxLen) (hbytes : (n + m) * bytes ≤ 140737488355328) (hO : OE T w w0.heap.size e A n c rs xs) (hX : XE T w A A2 m c2 ys) (hB : BlE w0 w)
    (h : ∀ A' c' w' rs', OE T w' w0.heap.size e A' (n + m) c' (rs ++ rs') (xs ++ ys) → w.grownBy w' (A.map (·.block)) → (A' = A ∨ ∃ g, A' = some ⟨g, 0, none⟩ ∧ (A.map (·.block) = some g ∨ g = w.heap.size)) → K (a.put o.dst (.slice A' (n + m) c')) w') :
    if Region.wanted o (yielded ops a.tmps) = true then Oper.wp P o a w K Q else E := by
  have hw : Region.wanted o (yielded ops a.tmps) = true := by simp [Region.wanted, hgd]
  rw [if_pos hw]
  obtain ⟨A', c', w', rs', hrun, h2, h3, h4⟩ := run_appX (P := P) w T w0.heap.size t o.type e i z bytes ht hi hz hsize hby hzs A n c rs xs hO A2 m c2 ys hX h63 hbytes (Below.size hB)
  unfold Oper.wp execOp
  simp only [ho, resolve, invoke, builtin, Sem.run_bind, Sem.run_pure, Result.andThen_ok, List.map_toArray, List.map_cons, List.map_nil, hs, hx, hrun]
  exact h A' c' w' rs' h2 h3 h4
/-- .. and in a plain region -/
theorem wpList_appX {ρ α : Type} (T : Shape ρ α) {ops : Array Oper} {rest : List Oper} {o : Oper} {a : Act} {Q : Exit → Act → World → Prop} (hgd : o.guard = none) (s x : Operand) (t : TypeId)
    (ho : o.op = .call { callee := .builtin .append, args := #[s, x], argTypes := #[t, t] }) (w0 : World) (e : TypeId) (i : TypeInfo) (z : Value) (bytes : Nat)
    (ht : P.underlying t = some (.slice e)) (hi : P.info? e = some i) (hz : i.zero = some z) (hsize : i.size = T.k) (hby : i.bytes = bytes) (hzs : z.cells.size = T.k)
    (A : Option Addr) (n c : Nat) (rs : List ρ) (xs : List α) (A2 : Option Addr) (m c2 : Nat) (ys : List α) (hs : a.eval s = .slice A n c) (hx : a.eval x = .slice A2 m c2)
    (h63 : n + m ≤ maxLen) (hbytes : (n + m) * bytes ≤ 140737488355328) (hO : OE T w w0.heap.size e A n c rs xs) (hX : XE T w A A2 m c2 ys) (hB : BlE w0 w)
    (h : ∀ A' c' w' rs', OE T w' w0.heap.size e A' (n + m) c' (rs ++ rs') (xs ++ ys) → w.grownBy w' (A.map (·.block)) → (A' = A ∨ ∃ g, A' = some ⟨g, 0, none⟩ ∧ (A.map (·.block) = some g ∨ g = w.heap.size)) → wpList P ops Q rest (a.put o.dst (.slice A' (n + m) c')) w') :
    wpList P ops Q (o :: rest) a w := by
  refine wpList_plain hgd fun K hK => ?_
  obtain ⟨A', c', w', rs', hrun, h2, h3, h4⟩ := run_appX (P := P) w T w0.heap.size t o.type e i z bytes ht hi hz hsize hby hzs A n c rs xs hO A2 m c2 ys hX h63 hbytes (Below.size hB)
  unfold Oper.wp execOp
  simp only [ho, resolve, invoke, builtin, Sem.run_bind, Sem.run_pure, Result.andThen_ok, List.map_toArray, List.map_cons, List.map_nil, hs, hx, hrun]
  exact hK _ _ (h A' c' w' rs' h2 h3 h4)
end

end Go.Proofs.Ytdefkajjpilicaa
