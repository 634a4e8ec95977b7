/- A sound unit with its four tones: 'SW': in the world v the block n is the unit s, the blocks p 0 .. p 3 are its tones, all below n is as in w0. No law is claimed here. -/
import Derived.Test.YtghldekcnanciaaDoorSd3
namespace Go.Proofs.YtghldekcnanciaaDoor
open Go.RowKit

def hasT (v : World) (m : Nat) (t : TS) : Prop := v.heap[m]? = some (.cells t.cells.toArray 96 (0, 0))
def hasS (v : World) (n : Nat) (p : Nat → Nat) (s : SS) : Prop := v.heap[n]? = some (.cells (s.cells p).toArray 69 (0, 0))
theorem hasT_is {v : World} {m : Nat} {t : TS} (h : hasT v m t) : stT v m t = v := rowT_self v m _ _ h
theorem hasS_is {v : World} {n : Nat} {p : Nat → Nat} {s : SS} (h : hasS v n p s) : stS v n p s = v := rowT_self v n _ _ h
theorem lt_of_has {v : World} {m : Nat} {o : Obj} (h : v.heap[m]? = some o) : m < v.heap.size := by
  rcases Nat.lt_or_ge m v.heap.size with k | k
  · exact k
  · rw [Array.getElem?_eq_none k] at h; cases h
theorem heap_drewN (v : World) (q : Nat) : (v.drewN q).heap = v.heap := by simp
def updT (σ : Nat → TS) (i : Nat) (f : TS) : Nat → TS := fun j => if j = i then f else σ j
theorem updT_same (σ : Nat → TS) (i : Nat) (f : TS) : updT σ i f i = f := if_pos rfl
theorem updT_other (σ : Nat → TS) (i : Nat) (f : TS) (j : Nat) (h : j ≠ i) : updT σ i f j = σ j := if_neg h
theorem gr.below {v v' : World} (h : gr v) (hb : Below v.heap.size v v') : gr v' := by
  have := h.lt
  exact ⟨Nat.lt_of_lt_of_le h.lt hb.size, fun i hi => (hb.cell (by show 0 < _; omega)).trans (h.rat i hi)⟩
theorem gr.row {w : World} (h : gr w) (m : Nat) (hm : 3 < m) (t : TypeId) (l : List Value) : gr (rowT w m t l) :=
  ⟨by rw [rowT_size]; exact h.lt, fun i hi => (rowT_cellFar w m t l _ (by show 0 ≠ m; omega)).trans (h.rat i hi)⟩
theorem gl.rowL {w : World} (h : gl w) (m : Nat) (hm : 3 < m) (t : TypeId) (l : List Value) : gl (rowT w m t l) := by
  have hf := fun (p : Addr) (h : p.block ≠ m) => rowT_cellFar w m t l p h
  exact ⟨by rw [rowT_size]; exact h.lt, fun i hi => (hf _ (by show 1 ≠ m; omega)).trans (h.noi i hi), fun i hi => (hf _ (by show 2 ≠ m; omega)).trans (h.len i hi), fun i hi => (hf _ (by show 3 ≠ m; omega)).trans (h.dut i hi)⟩

structure SW (B : Bool) (w0 : World) (n : Nat) (p : Nat → Nat) (s : SS) (σ : Nat → TS) (v : World) : Prop where
  snd : hasS v n p s
  ton : ∀ i, i < 4 → hasT v (p i) (σ i)
  inj : ∀ i j, i < 4 → j < 4 → p i = p j → i = j
  lo : ∀ i, i < 4 → n < p i
  gl : gl v
  gr : B = true → gr v
  hi : 3 < n
  ok : SOk s
  tok : ∀ i, i < 4 → TOk (σ i)
  bel : Below n w0 v
theorem SW.drewN {B : Bool} {w0 v : World} {n : Nat} {p : Nat → Nat} {s : SS} {σ : Nat → TS} (h : SW B w0 n p s σ v) (q : Nat) : SW B w0 n p s σ (v.drewN q) :=
  ⟨by have := h.snd; unfold hasS at *; rwa [heap_drewN], fun i hi => by have := h.ton i hi; unfold hasT at *; rwa [heap_drewN], h.inj, h.lo, h.gl.drewN q, fun e => (h.gr e).below (still_below _ _ _), h.hi, h.ok, h.tok, h.bel.trans (still_below _ _ _)⟩
theorem SW.drew {B : Bool} {w0 v : World} {n : Nat} {p : Nat → Nat} {s : SS} {σ : Nat → TS} (h : SW B w0 n p s σ v) : SW B w0 n p s σ v.drew := h.drewN 1
theorem SW.past {B : Bool} {w0 v v' : World} {n : Nat} {p : Nat → Nat} {s : SS} {σ : Nat → TS} (h : SW B w0 n p s σ v) (hb : Below v.heap.size v v') : SW B w0 n p s σ v' :=
  ⟨(hb.block n (lt_of_has h.snd)).trans h.snd, fun i hi => (hb.block (p i) (lt_of_has (h.ton i hi))).trans (h.ton i hi), h.inj, h.lo, h.gl.below hb, fun e => (h.gr e).below hb, h.hi, h.ok, h.tok, h.bel.trans (hb.mono (Nat.le_of_lt (lt_of_has h.snd)))⟩
/-- one tone's block written -/
theorem SW.tone {B : Bool} {w0 v : World} {n : Nat} {p : Nat → Nat} {s : SS} {σ : Nat → TS} (h : SW B w0 n p s σ v) (i : Nat) (hi : i < 4) (f : TS) (hf : TOk f) (q : Nat) : SW B w0 n p s (updT σ i f) (stT (v.drewN q) (p i) f) := by
  have hd := h.drewN q
  have hlo := h.lo i hi
  have hgm := h.hi
  have hlt := lt_of_has (hd.ton i hi)
  generalize v.drewN q = u at *
  refine ⟨?_, ?_, h.inj, h.lo, hd.gl.rowL _ (by omega) _ _, fun e => (hd.gr e).row _ (by omega) _ _, h.hi, h.ok, ?_, rowT_below hd.bel _ (by omega) _ _⟩
  · have := hd.snd
    unfold hasS stT at *
    rwa [rowT_far _ _ _ _ _ (by omega)]
  · intro j hj
    by_cases e : j = i
    · subst e
      rw [updT_same]
      exact rowT_at _ _ _ _ hlt
    · have hne : p j ≠ p i := fun e2 => e (h.inj j i hj hi e2)
      have := hd.ton j hj
      rw [updT_other _ _ _ _ e]
      unfold hasT stT at *
      rwa [rowT_far _ _ _ _ _ hne]
  · intro j hj
    by_cases e : j = i
    · subst e; rw [updT_same]; exact hf
    · rw [updT_other _ _ _ _ e]; exact h.tok j hj
/-- the unit's own block written -/
theorem SW.unit {B : Bool} {w0 v : World} {n : Nat} {p : Nat → Nat} {s : SS} {σ : Nat → TS} (h : SW B w0 n p s σ v) (s' : SS) (hs : SOk s') : SW B w0 n p s' σ (stS v n p s') := by
  have hlt := lt_of_has h.snd
  have hgm := h.hi
  refine ⟨rowT_at _ _ _ _ hlt, ?_, h.inj, h.lo, h.gl.rowL _ hgm _ _, fun e => (h.gr e).row _ hgm _ _, h.hi, hs, h.tok, rowT_below h.bel _ (Nat.le_refl _) _ _⟩
  intro j hj
  have := h.ton j hj
  have hlo := h.lo j hj
  unfold hasT stS at *
  rwa [rowT_far _ _ _ _ _ (by omega)]
/-- a contract over a tone's block -/
theorem SW.onT {B : Bool} {w0 v : World} {n : Nat} {p : Nat → Nat} {s : SS} {σ : Nat → TS} (h : SW B w0 n p s σ v) (i : Nat) (hi : i < 4) {P : Program} {F : Nat} {args : Array Value} {e0 : Ending} {f : TS} (hf : TOk f)
    (hc : Calls P F args (stT v (p i) (σ i)) fun e w' => e = e0 ∧ ∃ q, w' = stT (v.drewN q) (p i) f) : Calls P F args v fun e w' => e = e0 ∧ SW B w0 n p s (updT σ i f) w' := by
  rw [hasT_is (h.ton i hi)] at hc
  exact hc.mono fun e w' ⟨e1, q, e2⟩ => ⟨e1, by rw [e2]; exact h.tone i hi f hf q⟩
/-- a contract over the unit's block -/
theorem SW.onS {B : Bool} {w0 v : World} {n : Nat} {p : Nat → Nat} {s : SS} {σ : Nat → TS} (h : SW B w0 n p s σ v) {P : Program} {F : Nat} {args : Array Value} {e0 : Ending} {s' : SS} (hs : SOk s')
    (hc : Calls P F args (stS v n p s) fun e w' => e = e0 ∧ w' = stS v n p s') : Calls P F args v fun e w' => e = e0 ∧ SW B w0 n p s' σ w' := by
  rw [hasS_is h.snd] at hc
  exact hc.mono fun e w' ⟨e1, e2⟩ => ⟨e1, by rw [e2]; exact h.unit s' hs⟩
theorem SW.cs {B : Bool} {w0 v : World} {n : Nat} {p : Nat → Nat} {s : SS} {σ : Nat → TS} (h : SW B w0 n p s σ v) : CS v n p s := by
  have := stS_cs v n p s (lt_of_has h.snd)
  rwa [hasS_is h.snd] at this
theorem SW.set {B : Bool} {w0 v v' : World} {n : Nat} {p : Nat → Nat} {s s' : SS} {σ : Nat → TS} {i : Nat} {x : Value} (h : SW B w0 n p s σ v) (hs : SOk s') (hx : ∀ w, (stS w n p s).setCell ⟨n, i, none⟩ x = stS w n p s') (e : v.setCell ⟨n, i, none⟩ x = v') : SW B w0 n p s' σ v' := by
  have := hx v
  rw [hasS_is h.snd, e] at this
  rw [this]
  exact h.unit s' hs

/-- the tones' methods -/
theorem SW.tput {B : Bool} {w0 v : World} {n : Nat} {p : Nat → Nat} {s : SS} {σ : Nat → TS} (h : SW B w0 n p s σ v) (i : Nat) (hi : i < 4) (r b : Int) (hr : 0 ≤ r) (hb : 0 ≤ b ∧ b < 256) :
    Calls Tryd.prog 33 #[.pointer (some ⟨p i, 0, none⟩), .int .u8 r, .int .u8 b] v fun e w' => e = .returned (.tuple #[]) ∧ SW B w0 n p s (updT σ i (putT (σ i) r b)) w' :=
  h.onT i hi (ok_put (h.tok i hi) r b hb) ((tput_any v (p i) (σ i) r b (lt_of_has (h.ton i hi)) (h.tok i hi) h.gl (Nat.lt_trans h.hi (h.lo i hi)) hr hb).mono fun _ _ ⟨e, e2⟩ => ⟨e, 0, e2⟩)
theorem SW.ten {B : Bool} {w0 v : World} {n : Nat} {p : Nat → Nat} {s : SS} {σ : Nat → TS} (h : SW B w0 n p s σ v) (i : Nat) (hi : i < 4) (on : Bool) :
    Calls Tryd.prog 61 #[.pointer (some ⟨p i, 0, none⟩), .bool on] v fun e w' => e = .returned (.tuple #[]) ∧ SW B w0 n p s (updT σ i (enT (σ i) on)) w' :=
  h.onT i hi (ok_en (h.tok i hi) on) ((ten_any v (p i) (σ i) on (lt_of_has (h.ton i hi))).mono fun _ _ ⟨e, e2⟩ => ⟨e, 0, e2⟩)
theorem SW.tclock {B : Bool} {w0 v : World} {n : Nat} {p : Nat → Nat} {s : SS} {σ : Nat → TS} (h : SW B w0 n p s σ v) (i : Nat) (hi : i < 4) :
    Calls Tryd.prog 46 #[.pointer (some ⟨p i, 0, none⟩)] v fun e w' => e = .returned (.tuple #[]) ∧ SW B w0 n p s (updT σ i (clockT (σ i))) w' :=
  h.onT i hi (ok_clock (h.tok i hi)) ((tclock_any v (p i) (σ i) (lt_of_has (h.ton i hi)) (h.tok i hi)).mono fun _ _ ⟨e, e2⟩ => ⟨e, 0, e2⟩)
theorem SW.tqua {B : Bool} {w0 v : World} {n : Nat} {p : Nat → Nat} {s : SS} {σ : Nat → TS} (h : SW B w0 n p s σ v) (i : Nat) (hi : i < 4) :
    Calls Tryd.prog 44 #[.pointer (some ⟨p i, 0, none⟩)] v fun e w' => e = .returned (.tuple #[]) ∧ SW B w0 n p s (updT σ i (quaT (σ i))) w' :=
  h.onT i hi (ok_qua (h.tok i hi)) (tqua_any v (p i) (σ i) (lt_of_has (h.ton i hi)) (h.tok i hi))
theorem SW.thalf {B : Bool} {w0 v : World} {n : Nat} {p : Nat → Nat} {s : SS} {σ : Nat → TS} (h : SW B w0 n p s σ v) (i : Nat) (hi : i < 4) :
    Calls Tryd.prog 45 #[.pointer (some ⟨p i, 0, none⟩)] v fun e w' => e = .returned (.tuple #[]) ∧ SW B w0 n p s (updT σ i (halfT (σ i))) w' :=
  h.onT i hi (ok_half (h.tok i hi)) (thalf_any v (p i) (σ i) (lt_of_has (h.ton i hi)) (h.tok i hi))
theorem SW.tout {B : Bool} {w0 v : World} {n : Nat} {p : Nat → Nat} {s : SS} {σ : Nat → TS} (h : SW B w0 n p s σ v) (i : Nat) (hi : i < 4) :
    Calls Tryd.prog 75 #[.pointer (some ⟨p i, 0, none⟩)] v fun e w' => e = .returned (.int .u8 (outT (σ i))) ∧ ∃ q, w' = v.drewN q := by
  have := tout_any v (p i) (σ i) (lt_of_has (h.ton i hi)) (h.tok i hi) h.gl (Nat.lt_trans h.hi (h.lo i hi))
  rwa [hasT_is (h.ton i hi)] at this
theorem SW.tlive {B : Bool} {w0 v : World} {n : Nat} {p : Nat → Nat} {s : SS} {σ : Nat → TS} (h : SW B w0 n p s σ v) (i : Nat) (hi : i < 4) :
    Calls Tryd.prog 52 #[.pointer (some ⟨p i, 0, none⟩)] v fun e w' => e = .returned (.bool (decide (0 < (σ i).len))) ∧ w' = v := by
  have := tlive_any v (p i) (σ i) (lt_of_has (h.ton i hi))
  rwa [hasT_is (h.ton i hi)] at this

end Go.Proofs.YtghldekcnanciaaDoor
