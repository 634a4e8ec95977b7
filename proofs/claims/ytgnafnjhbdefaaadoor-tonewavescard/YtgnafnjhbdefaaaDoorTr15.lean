/- A tone, the document's row, and the document's voice in a box, in one world. No law is claimed here. -/
import Derived.Test.YtgnafnjhbdefaaaDoorTr14
import Derived.Great.BuildSlice
set_option linter.unusedSimpArgs false
set_option linter.unusedVariables false
namespace Go.Proofs.YtgnafnjhbdefaaaDoor
open Go.RowKit Go.Great

theorem rowT_comm (w : World) (n b : Nat) (t t' : TypeId) (l l' : List Value) (h : b ≠ n) : rowT (rowT w n t l) b t' l' = rowT (rowT w b t' l') n t l := by
  unfold rowT
  simp only
  congr 1
  apply Array.ext'
  apply List.ext_getElem?
  intro i
  simp only [Array.toList_modify, List.getElem?_modify]
  by_cases e1 : b = i <;> by_cases e2 : n = i
  · omega
  · simp [e1, e2]
  · simp [e1, e2]
  · simp [e1, e2]
theorem gl.rowX {w : World} (h : gl w) (X : Nat) (hX : 2 < X) (t : TypeId) (l : List Value) : gl (rowT w X t l) := by
  have hf := fun (p : Addr) (h : p.block ≠ X) => rowT_cellFar w X t l p h
  exact ⟨by rw [rowT_size]; exact h.lt, fun i hi => (hf _ (by show 0 ≠ X; omega)).trans (h.noi i hi), fun i hi => (hf _ (by show 1 ≠ X; omega)).trans (h.len i hi), fun i hi => (hf _ (by show 2 ≠ X; omega)).trans (h.dut i hi)⟩
theorem RowR.far {w : World} {A : Option Addr} {c : Nat} {bs : List Int} (h : RowR w A c bs) (X : Nat) (t : TypeId) (l : List Value) (hX : ∀ g o, A = some ⟨g, o, none⟩ → g ≠ X) : RowR (rowT w X t l) A c bs := by
  obtain ⟨l1, l2, g, o, hA, hg, hc⟩ := h
  have := hX g o hA
  exact ⟨l1, l2, g, o, hA, by rw [rowT_size]; exact hg, fun j hj => (rowT_cellFar w X t l ⟨g, o + j, none⟩ this).trans (hc j hj)⟩

/-- in the world v the block m is the tone s, X the box of the document's voice x, whose row holds bs; all below m is as it was in w0 -/
structure BX (w0 : World) (m X : Nat) (s : TS) (x : RT) (bs : List Int) (v : World) : Prop where
  ex : ∃ w2, v = stT w2 m s ∧ m < w2.heap.size ∧ gl w2 ∧ Below m w0 w2 ∧ RowR w2 x.row x.cr bs ∧ w2.heap[X]? = some (.cells x.cells.toArray 29 (0, 0))
  ok : TOk s
  lo : 2 < m
  mx : m < X
  nm : ∀ g o, x.row = some ⟨g, o, none⟩ → g ≠ m ∧ g ≠ X
variable {w0 v : World} {m X : Nat} {s s' : TS} {x : RT} {bs : List Int}
theorem BX.bw (h : BX w0 m X s x bs v) : BW w0 m s x.row x.cr bs v := by
  obtain ⟨⟨w2, rfl, h1, h2, hb2, hr, hx⟩, h3, h4, h5, h6⟩ := h
  exact ⟨⟨w2, rfl, h1, h2, hb2, hr⟩, h3, h4, fun g o hA => (h6 g o hA).1⟩
theorem BX.at (h : BX w0 m X s x bs v) : v.heap[X]? = some (.cells x.cells.toArray 29 (0, 0)) := by
  obtain ⟨⟨w2, rfl, h1, h2, hb2, hr, hx⟩, h3, h4, h5, h6⟩ := h
  exact (rowT_far w2 m 67 s.cells X (by omega)).trans hx
theorem BX.lt (h : BX w0 m X s x bs v) : X < v.heap.size := by
  have := h.at
  exact (Array.getElem?_eq_some_iff.1 this).1
theorem BX.past {v' : World} (h : BX w0 m X s x bs v) (hb : Below v.heap.size v v') : BX w0 m X s x bs v' := by
  have hX := h.at
  have hl := h.lt
  obtain ⟨⟨w2, rfl, h1, h2, hb2, hr, hx⟩, h3, h4, h5, h6⟩ := h
  obtain ⟨os, d, rfl⟩ := more_of hb
  have hs : (stT w2 m s).heap.size = w2.heap.size := rowT_size _ _ _ _
  refine ⟨⟨more w2 os d, rowT_more _ _ _ _ _ _ h1, more_lt _ _ _ _ h1, h2.below (more_self _ _ _), ?_, hr.up (more_self _ _ _), ?_⟩, h3, h4, h5, h6⟩
  · exact hb2.trans ((more_self w2 os d).mono (Nat.le_of_lt h1))
  · rw [more_heap _ _ _ _ (by omega)]; exact hx
theorem BX.put (h : BX w0 m X s x bs v) (r b : Int) (hr : 0 ≤ r) (hb : 0 ≤ b ∧ b < 256) :
    Calls Tryd.prog 18 #[.pointer (some ⟨m, 0, none⟩), .int .u8 r, .int .u8 b] v fun e v' => e = .returned (.tuple #[]) ∧ BX w0 m X (putT s r b) x bs v' := by
  obtain ⟨⟨w2, rfl, h1, h2, hb2, hr0, hx⟩, h3, h4, h5, h6⟩ := h
  refine (tput_any w2 m s r b h1 h3 h2 h4 hr hb).mono ?_
  rintro e v' ⟨rfl, rfl⟩
  exact ⟨rfl, ⟨w2, rfl, h1, h2, hb2, hr0, hx⟩, ok_put h3 r b hb, h4, h5, h6⟩
theorem BX.en (h : BX w0 m X s x bs v) (on : Bool) :
    Calls Tryd.prog 16 #[.pointer (some ⟨m, 0, none⟩), .bool on] v fun e v' => e = .returned (.tuple #[]) ∧ BX w0 m X (enT s on) x bs v' := by
  obtain ⟨⟨w2, rfl, h1, h2, hb2, hr0, hx⟩, h3, h4, h5, h6⟩ := h
  refine (ten_any w2 m s on h1).mono ?_
  rintro e v' ⟨rfl, rfl⟩
  exact ⟨rfl, ⟨w2, rfl, h1, h2, hb2, hr0, hx⟩, ok_en h3 on, h4, h5, h6⟩
theorem BX.clock (h : BX w0 m X s x bs v) :
    Calls Tryd.prog 22 #[.pointer (some ⟨m, 0, none⟩)] v fun e v' => e = .returned (.tuple #[]) ∧ BX w0 m X (clockT s) x bs v' := by
  obtain ⟨⟨w2, rfl, h1, h2, hb2, hr0, hx⟩, h3, h4, h5, h6⟩ := h
  refine (tclock_any w2 m s h1 h3).mono ?_
  rintro e v' ⟨rfl, rfl⟩
  exact ⟨rfl, ⟨w2, rfl, h1, h2, hb2, hr0, hx⟩, ok_clock h3, h4, h5, h6⟩
theorem BX.qua (h : BX w0 m X s x bs v) :
    Calls Tryd.prog 20 #[.pointer (some ⟨m, 0, none⟩)] v fun e v' => e = .returned (.tuple #[]) ∧ BX w0 m X (quaT s) x bs v' := by
  obtain ⟨⟨w2, rfl, h1, h2, hb2, hr0, hx⟩, h3, h4, h5, h6⟩ := h
  refine (tqua_any w2 m s h1 h3).mono ?_
  rintro e v' ⟨rfl, q, rfl⟩
  have hq : ∀ q, (w2.drewN q).heap = w2.heap := fun q => by induction q with | zero => rfl | succ q ih => exact ih
  exact ⟨rfl, ⟨w2.drewN q, rfl, by simpa using h1, h2.drewN q, hb2.trans (still_below _ _ _), hr0.drewN q, by rw [hq]; exact hx⟩, ok_qua h3, h4, h5, h6⟩
theorem BX.half (h : BX w0 m X s x bs v) :
    Calls Tryd.prog 26 #[.pointer (some ⟨m, 0, none⟩)] v fun e v' => e = .returned (.tuple #[]) ∧ BX w0 m X (halfT s) x bs v' := by
  obtain ⟨⟨w2, rfl, h1, h2, hb2, hr0, hx⟩, h3, h4, h5, h6⟩ := h
  refine (thalf_any w2 m s h1 h3).mono ?_
  rintro e v' ⟨rfl, q, rfl⟩
  have hq : ∀ q, (w2.drewN q).heap = w2.heap := fun q => by induction q with | zero => rfl | succ q ih => exact ih
  exact ⟨rfl, ⟨w2.drewN q, rfl, by simpa using h1, h2.drewN q, hb2.trans (still_below _ _ _), hr0.drewN q, by rw [hq]; exact hx⟩, ok_half h3, h4, h5, h6⟩
/-- behind the store of the document's answer -/
theorem BX.upd {v' : World} {x' : RT} {bs' : List Int} (h : BX w0 m X s x bs v) (hw : BW w0 m s x'.row x'.cr bs' v') (hb : Below v.heap.size v v') (hr : x'.row = x.row ∨ ∀ g o, x'.row = some ⟨g, o, none⟩ → v.heap.size ≤ g) :
    BX w0 m X s x' bs' (rowT v' X 29 x'.cells) := by
  have hl := h.lt
  have hrow := hw.rowR
  have hlv := (h.past hb).lt
  obtain ⟨⟨w2, rfl, h1, h2, hb2, hr2, hx⟩, h3, h4, h5, h6⟩ := h
  obtain ⟨os, d, rfl⟩ := more_of hb
  have e : more (stT w2 m s) os d = stT (more w2 os d) m s := rowT_more _ _ _ _ _ _ h1
  rw [e] at hrow hlv ⊢
  have hs : (stT w2 m s).heap.size = w2.heap.size := rowT_size _ _ _ _
  have hnm : ∀ g o, x'.row = some ⟨g, o, none⟩ → g ≠ m ∧ g ≠ X := fun g o hA => by
    rcases hr with hr | hr
    · exact h6 g o (hr ▸ hA)
    · have := hr g o hA; omega
  have hrow2 : RowR (more w2 os d) x'.row x'.cr bs' := by
    obtain ⟨l1, l2, g, o, hA, hg, hc⟩ := hrow
    have := (hnm g o hA).1
    exact ⟨l1, l2, g, o, hA, by unfold stT at hg; rwa [rowT_size] at hg, fun j hj => (rowT_cellFar (more w2 os d) m 67 s.cells ⟨g, o + j, none⟩ this).symm.trans (hc j hj)⟩
  have hlm : X < (more w2 os d).heap.size := by unfold stT at hlv; rwa [rowT_size] at hlv
  refine ⟨⟨rowT (more w2 os d) X 29 x'.cells, rowT_comm _ _ _ _ _ _ _ (by omega), by rw [rowT_size]; exact more_lt _ _ _ _ h1, (h2.below (more_self _ _ _)).rowX X (by omega) _ _, rowT_below (hb2.trans ((more_self w2 os d).mono (Nat.le_of_lt h1))) _ (by omega) _ _, hrow2.far X _ _ (fun g o hA => (hnm g o hA).2), rowT_at _ _ _ _ hlm⟩, h3, h4, h5, hnm⟩

/-- a call by a contract that says what it leaves -/
theorem wpList_callEx {P : Program} {ops : Array Oper} {rest : List Oper} {o : Oper} {a : Act} {w : World} {Q : Exit → Act → World → Prop} (hg : o.guard = none) (d : Option Tmp) (hd : o.dst = d)
    (f : FuncId) (args : Array Value) (hrun : (execOp a.eval o).run P w = .ok (.enter f args) w) (R : Ending → World → Prop)
    (hc : Calls P f args w R) (h : ∀ e w', R e w' → ∃ v, e = .returned v ∧ wpList P ops Q rest (a.put d v) w') : wpList P ops Q (o :: rest) a w := by
  subst hd
  refine wpList_plain hg fun K hK => ?_
  unfold Oper.wp
  rw [hrun, Oper.upon_enter]
  refine hc.mono fun e w'' hh => ?_
  obtain ⟨v, rfl, hv⟩ := h e w'' hh
  exact hK _ _ hv

end Go.Proofs.YtgnafnjhbdefaaaDoor
