/- A region whose order is open, whose first operations are quiet in a class of worlds, and whose last ones come last, in one order: one walk serves every order. No law is claimed here. -/
import Derived.Test.YthldppdkheclkaaMoreQ
import Derived.StillTail
namespace Go.Proofs.Ythldppdkheclkaa
open Go.RowKit

section
variable {P : Program} {md : Region.Mode} {C : World → Prop}

/-- an operation that does nothing, with the same edges -/
def blankO (o : Oper) : Oper := { o with op := .move (.const (.bool false)), guard := none }
/-- the list with its tail blanked -/
def cutO (n : Nat) (l : List Oper) : List Oper := l.take n ++ (l.drop n).map blankO
theorem cutO_at (n : Nat) (l : List Oper) (j : Nat) : (cutO n l)[j]? = if j < n then l[j]? else (l[j]?).map blankO := by
  unfold cutO
  by_cases h : j < n
  · rw [if_pos h]
    rcases Nat.lt_or_ge j l.length with hl | hl
    · rw [List.getElem?_append_left (by simp; omega), List.getElem?_take_of_lt h]
    · rw [List.getElem?_eq_none (by simp; omega), List.getElem?_eq_none hl]
  · rw [if_neg h]
    rcases Nat.lt_or_ge n l.length with hl | hl
    · rw [List.getElem?_append_right (by simp; omega), List.getElem?_map, List.getElem?_drop]
      congr 2
      simp; omega
    · rw [List.getElem?_eq_none (by simp; omega), List.getElem?_eq_none (by omega)]
      rfl
theorem cutO_len (n : Nat) (l : List Oper) : (cutO n l).length = l.length := by
  unfold cutO; simp; omega
/-- the edges are the same -/
theorem cutO_after (n : Nat) (l : List Oper) (j : Nat) : ((cutO n l)[j]?).map (·.after) = (l[j]?).map (·.after) := by
  rw [cutO_at]
  split
  · rfl
  · rw [Option.map_map]; rfl
theorem cutO_dst (n : Nat) (l : List Oper) (j : Nat) : ((cutO n l)[j]?).bind (·.dst) = (l[j]?).bind (·.dst) := by
  rw [cutO_at]
  split
  · rfl
  · cases l[j]? <;> rfl
theorem cutO_ready (n : Nat) (l : List Oper) (listed : Array Bool) : Region.ready md (cutO n l).toArray listed = Region.ready md l.toArray listed := by
  unfold Region.ready
  simp only [List.size_toArray, cutO_len, List.getElem?_toArray]
  apply List.filter_congr
  intro j _
  have h := cutO_after n l j
  have : ∀ (x y : Option Oper), x.map (·.after) = y.map (·.after) → (x.map (·.after.all fun e => !Region.binds md e || listed.getD e.on false)).getD false = (y.map (·.after.all fun e => !Region.binds md e || listed.getD e.on false)).getD false := by
    intro x y e
    cases x <;> cases y <;> simp_all
  rw [this _ _ h]
theorem cutO_yielded (n : Nat) (l : List Oper) (tmps : Array Value) : yielded (cutO n l).toArray tmps = yielded l.toArray tmps := by
  funext j
  unfold yielded
  rw [List.getElem?_toArray, List.getElem?_toArray, cutO_dst]
theorem wpQuiet_cut (n : Nat) (l : List Oper) {Q : Act → Prop} : ∀ (r : List Oper) (a : Act), wpQuiet P l.toArray C Q r a → wpQuiet P (cutO n l).toArray C Q r a := by
  intro r
  induction r with
  | nil => intro a h; exact h
  | cons o r ih =>
    intro a h
    unfold wpQuiet at h ⊢
    rw [cutO_yielded]
    split
    · rename_i hw
      rw [if_pos hw] at h
      exact Oper.quiet_mono ih h
    · rename_i hw
      rw [if_neg hw] at h
      exact ih _ h
theorem qOp_cut {n : Nat} {l : List Oper} {i : Nat} (hi : i < n) {K : Act → Prop} {a : Act} (h : qOp P (cutO n l).toArray C i K a) : qOp P l.toArray C i K a := by
  unfold qOp at h ⊢
  rw [List.getElem?_toArray, cutO_at, if_pos hi] at h
  rw [List.getElem?_toArray]
  simp only [cutO_yielded] at h
  exact h
/-- the blanks do nothing -/
theorem wpQuiet_blanks (ops : Array Oper) {Q : Act → Prop} : ∀ (r : List Oper) (a : Act), (∀ o ∈ r, o.dst = none) → Q a → wpQuiet P ops C Q (r.map blankO) a := by
  intro r
  induction r with
  | nil => intro a _ h; exact h
  | cons o r ih =>
    intro a hd h
    have h0 : (blankO o).dst = none := hd o (by simp)
    have h1 : a.put (blankO o).dst (.bool false) = a := by rw [h0]; rfl
    rw [List.map_cons]
    unfold wpQuiet
    rw [if_pos (by rfl)]
    exact ⟨.bool false, fun w _ => ⟨rfl, rfl⟩, by rw [h1]; exact ih a (fun o ho => hd o (by simp [ho])) h⟩
theorem wpQuiet_mono' {ops : Array Oper} {Q Q' : Act → Prop} (hQ : ∀ a, Q a → Q' a) : ∀ (r : List Oper) (a : Act), wpQuiet P ops C Q r a → wpQuiet P ops C Q' r a := by
  intro r
  induction r with
  | nil => intro a h; exact hQ a h
  | cons o r ih =>
    intro a h
    unfold wpQuiet at h ⊢
    split
    · rename_i hw
      rw [if_pos hw] at h
      exact Oper.quiet_mono ih h
    · rename_i hw
      rw [if_neg hw] at h
      exact ih _ h
theorem wpQuiet_append (ops : Array Oper) {Q : Act → Prop} : ∀ (r s : List Oper) (a : Act), wpQuiet P ops C (wpQuiet P ops C Q s) r a → wpQuiet P ops C Q (r ++ s) a := by
  intro r
  induction r with
  | nil => intro s a h; exact h
  | cons o r ih =>
    intro s a h
    rw [List.cons_append]
    unfold wpQuiet at h ⊢
    split
    · rename_i hw
      rw [if_pos hw] at h
      exact Oper.quiet_mono (ih s) h
    · rename_i hw
      rw [if_neg hw] at h
      exact ih s _ h

/-- how many of the first n are not listed yet -/
def leftN : Nat → Array Bool → Nat
  | 0, _ => 0
  | n + 1, listed => leftN n listed + if listed.getD n true = false then 1 else 0
theorem leftN_other (listed : Array Bool) (i : Nat) : ∀ n, n ≤ i → leftN n (listed.setIfInBounds i true) = leftN n listed := by
  intro n
  induction n with
  | zero => intro _; rfl
  | succ n ih =>
    intro h
    unfold leftN
    rw [ih (by omega), getD_set_ne true (by omega)]
theorem leftN_set (listed : Array Bool) (i : Nat) (hu : listed.getD i true = false) : ∀ n, i < n → leftN n (listed.setIfInBounds i true) + 1 = leftN n listed := by
  intro n
  induction n with
  | zero => intro h; omega
  | succ n ih =>
    intro h
    unfold leftN
    by_cases e : i = n
    · subst e
      have hl : (listed.setIfInBounds i true).getD i true = true := by
        rcases Nat.lt_or_ge i listed.size with h' | h'
        · simp [h']
        · simp [h']
      rw [leftN_other _ _ _ (Nat.le_refl _), hu, hl]
      simp
    · rw [getD_set_ne true e]
      have := ih (by omega)
      omega
theorem leftN_zero (listed : Array Bool) : ∀ n, leftN n listed = 0 → ∀ i, i < n → listed.getD i true = true := by
  intro n
  induction n with
  | zero => intro _ i h; omega
  | succ n ih =>
    intro h i hi
    unfold leftN at h
    by_cases e : i = n
    · subst e
      cases hb : listed.getD i true with
      | true => rfl
      | false => rw [hb] at h; simp at h
    · exact ih (by omega) i (by omega)
theorem leftN_pos (listed : Array Bool) : ∀ n, leftN n listed ≠ 0 → ∃ i, i < n ∧ listed.getD i true = false ∧ ∀ j, j < i → listed.getD j true = true := by
  intro n
  induction n with
  | zero => intro h; exact absurd rfl h
  | succ n ih =>
    intro h
    by_cases h0 : leftN n listed = 0
    · refine ⟨n, by omega, ?_, leftN_zero listed n h0⟩
      unfold leftN at h
      cases hb : listed.getD n true with
      | false => rfl
      | true => rw [hb, h0] at h; simp at h
    · obtain ⟨i, h1, h2, h3⟩ := ih h0
      exact ⟨i, by omega, h2, h3⟩

/-- an operation waits for earlier ones alone -/
def ordB (md : Region.Mode) (ops : Array Oper) : Bool :=
  (List.range ops.size).all fun j => match ops[j]? with | some o => o.after.all fun e => !Region.binds md e || decide (e.on < j) | none => true
/-- the last ones come last, in one order, and yield nothing -/
def tailB (md : Region.Mode) (ops : Array Oper) (n : Nat) : Bool :=
  decide (n < ops.size) && Region.sinkB md ops n && Region.chainB md ops n && ordB md ops &&
  Region.seqB md ops (ops.size - n) n ((List.range ops.size).map fun i => decide (i < n)).toArray &&
  (ops.toList.drop n).all fun o => o.dst.isNone

theorem ready_first {ops : Array Oper} {listed : Array Bool} {i : Nat} (ho : ordB md ops = true) (hi : i < ops.size) (hsz : listed.size = ops.size) (hu : listed.getD i true = false) (hl : ∀ j, j < i → listed.getD j true = true) : i ∈ Region.ready md ops listed := by
  refine mem_ready.2 ⟨hu, ops[i], by simp [hi], fun e he hb => ?_⟩
  have h1 := List.all_eq_true.1 ho i (List.mem_range.2 hi)
  simp only [hi, Array.getElem?_eq_getElem] at h1
  have h2 := (Array.all_eq_true_iff_forall_mem.1 h1) e he
  simp only [hb, Bool.not_true, Bool.false_or, decide_eq_true_eq] at h2
  have h3 := hl e.on h2
  have h4 : e.on < listed.size := by omega
  simp [h4] at h3 ⊢
  exact h3

/-- the tail alone: blanks first, then what they stand for -/
theorem blanks_done {n : Nat} {l : List Oper} {Q : Act → Prop} (hd : ∀ j o, n ≤ j → l[j]? = some o → o.dst = none) : ∀ (g k : Nat) (listed : Array Bool) (a : Act), n ≤ k → k + g ≤ l.length →
    Region.seqB md l.toArray g k listed = true → wpAnyQ P md (cutO n l).toArray C Q g listed a → Q a := by
  intro g
  induction g with
  | zero => intro k listed a _ _ _ h; exact h.2
  | succ g ih =>
    intro k listed a hk hkl hB h
    simp only [Region.seqB, Bool.and_eq_true, decide_eq_true_eq] at hB
    have h1 := h.2 k (by rw [cutO_ready, hB.1]; simp)
    have hkl' : k < l.length := by omega
    unfold qOp at h1
    rw [List.getElem?_toArray, cutO_at, if_neg (by omega), List.getElem?_eq_getElem hkl'] at h1
    simp only [Option.map_some] at h1
    rw [if_pos (by rfl)] at h1
    obtain ⟨v, _, h2⟩ := h1
    have h0 : (blankO l[k]).dst = none := hd k l[k] hk (by simp [hkl'])
    rw [h0] at h2
    exact ih (k + 1) _ _ (by omega) (by omega) hB.2 h2

theorem listed_eq {n m : Nat} {listed : Array Bool} (hs : listed.size = m) (h1 : ∀ i, i < n → listed.getD i true = true) (h2 : ∀ t, n ≤ t → t < m → listed.getD t true = false) : listed = ((List.range m).map fun i => decide (i < n)).toArray := by
  apply Array.ext
  · simp [hs]
  · intro i hi hi2
    have hi' : i < m := by omega
    by_cases h : i < n
    · have := h1 i h
      simp [hi] at this
      simp [this, h]
    · have := h2 i (by omega) hi'
      simp [hi] at this
      simp [this, h]

theorem wpAny_of_cut {n : Nat} {l : List Oper} {Q : Exit → Act → World → Prop} (hT : tailB md l.toArray n = true) :
    ∀ (h : Nat) (listed : Array Bool) (a : Act) (w : World), C w → HeadInv md l.toArray n listed → leftN n listed = h →
    wpAnyQ P md (cutO n l).toArray C (fun a' => ∀ w', C w' → wpList P l.toArray Q (l.drop n) a' w') (h + (l.length - n)) listed a →
    wpAny P md l.toArray Q (h + (l.length - n)) listed a w := by
  simp only [tailB, Bool.and_eq_true, decide_eq_true_eq] at hT
  obtain ⟨⟨⟨⟨⟨hn, hs⟩, hc⟩, ho⟩, hq⟩, hd⟩ := hT
  have hn' : n < l.length := by simpa using hn
  intro h
  induction h with
  | zero =>
    intro listed a w hw inv hl H
    have e := listed_eq (m := l.length) (by simpa using inv.size) (leftN_zero listed n hl) (fun t h1 h2 => inv.tail t h1 (by simpa using h2))
    have hq' : Region.seqB md l.toArray (l.length - n) n listed = true := by rw [e]; simpa using hq
    rw [Nat.zero_add] at H ⊢
    have hdd : ∀ j o, n ≤ j → l[j]? = some o → o.dst = none := fun j o hj hjo => by
      have := List.all_eq_true.1 hd o (by
        show o ∈ l.drop n
        apply List.mem_of_getElem? (i := j - n)
        rw [List.getElem?_drop, show n + (j - n) = j by omega]
        exact hjo)
      simpa using this
    have hQ := blanks_done hdd (l.length - n) n listed a (Nat.le_refl _) (by omega) hq' H w hw
    have hdl : (l.drop n).length = l.length - n := by simp
    have := wpAny_of_seq (md := md) (Q' := Q) (l.drop n) n listed a w (fun j => by simp [List.getElem?_drop]) (by rw [hdl]; exact hq') hQ
    rwa [hdl] at this
  | succ h ih =>
    intro listed a w hw inv hl H
    obtain ⟨i0, hi0, hu0, hl0⟩ := leftN_pos listed n (by omega)
    have hr0 := ready_first ho (by simp; omega) inv.size hu0 hl0
    rw [show h + 1 + (l.length - n) = (h + (l.length - n)) + 1 by omega] at H ⊢
    refine ⟨fun e => absurd hr0 (by rw [e]; simp), fun i hi => ?_⟩
    have hin : i < n := by
      rcases Nat.lt_or_ge i n with h1 | h1
      · exact h1
      · exact absurd hi (tail_waits hs hc hn inv _ i0 rfl hi0 hu0 i h1)
    have h1 := H.2 i (by rw [cutO_ready]; exact hi)
    have hun := (mem_ready.1 hi).1
    refine wpOp_of_qOp hw (fun a' w' hw' hK => ih _ a' w' hw' (inv.set hi hin) ?_ hK) (qOp_cut hin h1)
    have := leftN_set listed i hun n hin
    omega

/-- ONE WALK SERVES EVERY ORDER: the first n operations quiet in the class, what comes last run as it stands, from any world of the class -/
theorem wp_region_tail {id : Nat} {Q : Exit → Act → World → Prop} {a : Act} {w : World} {l : List Oper} (n : Nat) (hm : P.follows .mixedOrders = true) (hB : Region.lexB .any (cutO n l).toArray = true) (hT : tailB .any l.toArray n = true)
    (hC : C { w with drawn := w.drawn + 1 })
    (h : wpQuiet P l.toArray C (fun a' => ∀ w', C w' → wpList P l.toArray Q (l.drop n) a' w') (l.take n) a) : (Code.region id l.toArray true).wp P Q a w := by
  have hT' := hT
  simp only [tailB, Bool.and_eq_true, decide_eq_true_eq] at hT'
  obtain ⟨⟨⟨⟨⟨hn, hs⟩, hc⟩, ho⟩, hq⟩, hd⟩ := hT'
  have hn' : n < l.length := by simpa using hn
  simp only [Region.lexB, Bool.and_eq_true] at hB
  refine wp_region_any hm ?_
  have inv0 : HeadInv .any l.toArray n (Array.replicate l.toArray.size false) :=
    ⟨by simp, fun j oj _ hl => (by rw [getD_replicate_false] at hl; cases hl), fun t _ ht => getD_in (by simpa using ht) (getD_replicate_false _ _)⟩
  have hleft : leftN n (Array.replicate l.length false) = n := by
    have : ∀ m, m ≤ l.length → leftN m (Array.replicate l.length false) = m := by
      intro m
      induction m with
      | zero => intro _; rfl
      | succ m ih =>
        intro hm
        unfold leftN
        rw [ih (by omega), show (Array.replicate l.length false).getD m true = false from getD_in (by simpa using (by omega : m < l.length)) (getD_replicate_false _ _)]
        rfl
    exact this n (by omega)
  have H : wpAnyQ P .any (cutO n l).toArray C (fun a' => ∀ w', C w' → wpList P l.toArray Q (l.drop n) a' w') (cutO n l).length (Array.replicate (cutO n l).toArray.size false) a := by
    refine wpAnyQ_lex hB.1 (cutO n l) 0 _ a (by simp) (by simpa using hB.2) ?_
    show wpQuiet P (cutO n l).toArray C _ (l.take n ++ (l.drop n).map blankO) a
    refine wpQuiet_append _ _ _ _ ?_
    refine wpQuiet_cut n l _ _ ?_
    refine wpQuiet_mono' (fun a' h' => ?_) _ _ h
    exact wpQuiet_blanks _ _ _ (fun o ho' => by have := List.all_eq_true.1 hd o (by simpa using ho'); simpa using this) h'
  rw [cutO_len, List.size_toArray, cutO_len] at H
  have := wpAny_of_cut (P := P) (C := C) (Q := Q) hT n (Array.replicate l.length false) a { w with drawn := w.drawn + 1 } hC (by simpa using inv0) hleft (by rwa [show n + (l.length - n) = l.length by omega])
  rw [show n + (l.length - n) = l.length by omega] at this
  simpa using this

theorem wp_region_mtail {id : Nat} {Q : Exit → Act → World → Prop} {a : Act} {w : World} {l : List Oper} (n : Nat) (hm : P.follows .mixedOrders = true) (hB : Region.lexB .any (cutO n l).toArray = true) (hT : tailB .any l.toArray n = true)
    (h : wpQuiet P l.toArray (fun w' => ∃ m, w' = mP w m) (fun a' => ∀ m, wpList P l.toArray Q (l.drop n) a' (mP w m)) (l.take n) a) : (Code.region id l.toArray true).wp P Q a w := by
  refine wp_region_tail (C := fun w' => ∃ m, w' = mP w m) n hm hB hT ⟨⟨[], w.drawn + 1⟩, rfl⟩ (wpQuiet_mono' (fun a' h' w' hw' => ?_) _ _ h)
  obtain ⟨m, rfl⟩ := hw'
  exact h' m

end
end Go.Proofs.Ythldppdkheclkaa
