/- WaveTables: a wave beside an array of sixty-four bytes. No law is claimed here. -/
import Derived.Test.YtmhplbgoahknbaaDoorWvRounds
import Derived.Laws.Rows
namespace Go.Proofs.YtmhplbgoahknbaaDoor
open Go.RowKit

theorem rowT_setFar (w : World) (n : Nat) (t : TypeId) (l : List Value) (b i : Nat) (u : Value) (h : b ≠ n) : (rowT w n t l).setCell ⟨b, i, none⟩ u = rowT (w.setCell ⟨b, i, none⟩ u) n t l := by
  unfold rowT World.setCell
  simp only
  congr 1
  apply Array.ext'
  apply List.ext_getElem?
  intro k
  simp only [Array.toList_modify, List.getElem?_modify]
  by_cases e : n = k
  · subst e; simp [h]
  · simp [e]
def fl64 (f : Nat → Int) : List Value := (List.range 64).map fun i => .int .u8 (f i)
def rowF (w : World) (B : Nat) (f : Nat → Int) : Prop := w.heap[B]? = some (.cells (fl64 f).toArray 48 (0, 0))
theorem rowF_lt {w : World} {B : Nat} {f : Nat → Int} (h : rowF w B f) : B < w.heap.size := by
  rcases Nat.lt_or_ge B w.heap.size with k | k
  · exact k
  · unfold rowF at h; rw [Array.getElem?_eq_none k] at h; cases h
theorem rowF_is {w : World} {B : Nat} {f : Nat → Int} (h : rowF w B f) : rowT w B 48 (fl64 f) = w := rowT_self w B _ _ h
theorem fl64_set (f : Nat → Int) (j : Nat) (x : Int) : (fl64 f).set j (.int .u8 x) = fl64 (upd f j x) := by
  unfold fl64
  apply List.ext_getElem?
  intro i
  rw [List.getElem?_set]
  by_cases h : i < 64
  · by_cases e : j = i
    · subst e; simp [h, upd]
    · simp [e, h, upd, Ne.symm e]
  · by_cases e : j = i
    · subst e; simp [h]
    · simp [e, h]
theorem rowF_cell {w : World} {B : Nat} {f : Nat → Int} (h : rowF w B f) (i : Nat) (hi : i < 64) : w.cell? ⟨B, i, none⟩ = some (.int .u8 (f i)) := by
  rw [← rowF_is h, rowT_cell _ _ _ _ (rowF_lt h)]
  unfold fl64
  simp [hi]
theorem rowF_fz {w : World} {B : Nat} {f : Nat → Int} (h : rowF w B f) (i : Nat) : w.frozen? ⟨B, i, none⟩ = false := by
  rw [← rowF_is h]; exact rowT_frozen _ _ _ _ _
theorem rowF_set {w : World} {B : Nat} {f : Nat → Int} (h : rowF w B f) (j : Nat) (x : Int) : rowF (w.setCell ⟨B, j, none⟩ (.int .u8 x)) B (upd f j x) := by
  have hl := rowF_lt h
  conv => arg 1; rw [← rowF_is h]
  rw [rowT_set, fl64_set]
  exact rowT_at _ _ _ _ hl
theorem rowF_drewN {w : World} {B : Nat} {f : Nat → Int} (h : rowF w B f) (q : Nat) : rowF (w.drewN q) B f := by
  unfold rowF at *
  simpa using h

structure WP (w0 : World) (m B : Nat) (f : Nat → Int) (s : WS) (v : World) : Prop where
  ex : ∃ w2, AtW w2 m s v ∧ m < w2.heap.size ∧ gw w2 ∧ Below m w0 w2 ∧ rowF w2 B f
  ok : WOk s
  lo : 0 < m
  ne : m < B
theorem WP.below {w0 v : World} {m B : Nat} {f : Nat → Int} {s : WS} (h : WP w0 m B f s v) : Below m w0 v := by
  obtain ⟨⟨w2, ⟨q, rfl⟩, _, _, hb, _⟩, _, _, _⟩ := h
  exact rowT_below (hb.trans (still_below _ _ _)) m (Nat.le_refl _) _ _
theorem WP.drewN {w0 v : World} {m B : Nat} {f : Nat → Int} {s : WS} (h : WP w0 m B f s v) (q : Nat) : WP w0 m B f s (v.drewN q) := by
  obtain ⟨⟨w2, hx, h1⟩, h3, h4, h5⟩ := h
  exact ⟨⟨w2, hx.drewN q, h1⟩, h3, h4, h5⟩
theorem WP.row {w0 v : World} {m B : Nat} {f : Nat → Int} {s : WS} (h : WP w0 m B f s v) : rowF v B f := by
  obtain ⟨⟨w2, ⟨q, rfl⟩, _, _, _, hr⟩, _, _, h5⟩ := h
  have := rowF_drewN hr q
  unfold rowF stW at *
  rw [rowT_far _ _ _ _ _ (by omega)]
  exact this
theorem WP.put {w0 v : World} {m B : Nat} {f : Nat → Int} {s : WS} (h : WP w0 m B f s v) (a b : Int) (ha : 0 ≤ a ∧ a < 65536) (hb : 0 ≤ b ∧ b < 256) :
    Calls Tryd.prog 18 #[.pointer (some ⟨m, 0, none⟩), .int .u16 a, .int .u8 b] v fun e v' => e = .returned (.tuple #[]) ∧ WP w0 m B f (putW s a b) v' := by
  obtain ⟨⟨w2, hx, h1, h2, h6⟩, h3, h4, h5⟩ := h
  exact (hx.put h1 h3 h2 h4 a b ha hb).mono fun _ _ ⟨e, hx⟩ => ⟨e, ⟨w2, hx, h1, h2, h6⟩, ok_put h3 a b hb, h4, h5⟩
theorem WP.get {w0 v : World} {m B : Nat} {f : Nat → Int} {s : WS} (h : WP w0 m B f s v) (a : Int) (ha : 0 ≤ a ∧ a < 65536) :
    Calls Tryd.prog 16 #[.pointer (some ⟨m, 0, none⟩), .int .u16 a] v fun e v' => e = .returned (getV (getW s a)) ∧ v' = v := by
  obtain ⟨⟨w2, hx, h1, h2, h6⟩, h3, h4, h5⟩ := h
  exact hx.get h1 h3 a ha
theorem WP.out {w0 v : World} {m B : Nat} {f : Nat → Int} {s : WS} (h : WP w0 m B f s v) :
    Calls Tryd.prog 14 #[.pointer (some ⟨m, 0, none⟩)] v fun e v' => e = .returned (.int .i64 (outW s)) ∧ ∃ q, v' = v.drewN q := by
  obtain ⟨⟨w2, hx, h1, h2, h6⟩, h3, h4, h5⟩ := h
  exact hx.out h1 h3 h2 h4
theorem WP.set {w0 v : World} {m B : Nat} {f : Nat → Int} {s : WS} (h : WP w0 m B f s v) (j : Nat) (x : Int) : WP w0 m B (upd f j x) s (v.setCell ⟨B, j, none⟩ (.int .u8 x)) := by
  obtain ⟨⟨w2, ⟨q, rfl⟩, h1, h2, hb, hr⟩, h3, h4, h5⟩ := h
  have e : (stW (w2.drewN q) m s).setCell ⟨B, j, none⟩ (.int .u8 x) = stW ((w2.drewN q).setCell ⟨B, j, none⟩ (.int .u8 x)) m s := rowT_setFar _ _ _ _ _ _ _ (by omega)
  have hsz : ((w2.drewN q).setCell ⟨B, j, none⟩ (.int .u8 x)).heap.size = w2.heap.size := by simp [World.setCell]
  refine ⟨⟨(w2.drewN q).setCell ⟨B, j, none⟩ (.int .u8 x), ⟨0, e⟩, by rw [hsz]; exact h1, ?_, ?_, rowF_set (rowF_drewN hr q) j x⟩, h3, h4, h5⟩
  · refine ⟨by rw [hsz]; exact h2.lt, fun i hi => ?_⟩
    rw [World.cell?_setCell_other _ _ _ _ (by intro e; cases e; omega)]
    exact (h2.below (still_below w2 q _)).wgt i hi
  · exact (hb.trans (still_below _ _ _)).setCell (by show m ≤ B; omega) _
theorem WP.start {b : Bool} {w0 v : World} {m : Nat} {s : WS} (h : WW b w0 m s v) : WP w0 m v.heap.size (fun _ => 0) s (v.alloc (.cells (fl64 fun _ => 0).toArray 48 (0, 0))) := by
  obtain ⟨⟨w2, ⟨q, rfl⟩, h1, h2, _, hb⟩, h3, h4⟩ := h
  have hs : (stW (w2.drewN q) m s).heap.size = (w2.drewN q).heap.size := rowT_size _ _ _ _
  have hs2 : (w2.drewN q).heap.size = w2.heap.size := by simp
  have e := rowT_alloc (w2.drewN q) m 62 s.cells (.cells (fl64 fun _ => 0).toArray 48 (0, 0)) (lt_dr h1 q)
  rw [hs]
  have hE : Ext (w2.drewN q) ((w2.drewN q).alloc (.cells (fl64 fun _ => 0).toArray 48 (0, 0))) := (Ext.refl _).alloc _
  refine ⟨⟨(w2.drewN q).alloc (.cells (fl64 fun _ => 0).toArray 48 (0, 0)), ⟨0, e⟩, by simp; omega, (h2.below (still_below _ _ _)).below hE.below, ?_, heap_alloc_new _ _⟩, h3, h4.1, by omega⟩
  exact (hb.trans (still_below _ _ _)).trans (hE.below.mono (by omega))

/-- a wave whose table is f -/
structure TI (on : Bool) (G : Int) (f : Nat → Int) (s : WS) : Prop where
  tab : ∀ i : Nat, i < 64 → s.tab i = f i
  r9 : s.reg 9 = if on then 128 else 0
  held : s.held = 0
  vg : s.vg = G
  pos : s.pos = 0
  fb : ∀ i, 0 ≤ f i ∧ f i < 64
  off : on = false → ∀ i, f i = 0
theorem TI.out0 {on : Bool} {G : Int} {f : Nat → Int} {s : WS} (h : TI on G f s) : outW s = 0 := by
  unfold outW
  rw [h.r9, h.pos, h.held]
  cases on
  · rw [if_neg (by decide), h.tab _ (by decide), h.off rfl, Int.zero_mul, Int.zero_mul]
  · rfl
theorem TI.put {on : Bool} {G : Int} {f : Nat → Int} {s : WS} (h : TI on G f s) (j : Nat) (hj : j < 64) (y : Int) : TI on G (if on then upd f j (y % 64) else f) (putW s (16448 + j) y) := by
  have e : putW s (16448 + j) y = if 128 ≤ s.reg 9 then { s with tab := upd s.tab j (y % 64) } else s := by
    unfold putW
    rw [if_neg (by omega), if_pos (by omega), show (16448 + (j : Int) - 16448).toNat = j by omega]
  rw [e, h.r9]
  cases on
  · exact h
  · show TI true G (upd f j (y % 64)) { s with tab := upd s.tab j (y % 64) }
    refine ⟨?_, h.r9, h.held, h.vg, h.pos, ?_, fun e => by cases e⟩
    · intro i hi
      show upd s.tab j (y % 64) i = upd f j (y % 64) i
      unfold upd
      split
      · rfl
      · exact h.tab i hi
    · intro i
      show 0 ≤ upd f j (y % 64) i ∧ upd f j (y % 64) i < 64
      unfold upd
      split
      · omega
      · exact h.fb i
theorem TI.get {on : Bool} {G : Int} {f : Nat → Int} {s : WS} (h : TI on G f s) (i : Nat) (hi : i < 64) : getV (getW s (16448 + i)) = .tuple #[.int .u8 (f i + 64), .bool true] := by
  unfold getW
  rw [if_neg (by omega), if_pos (by omega), show (16448 + (i : Int) - 16448).toNat = i by omega, h.tab i hi]
  rfl
theorem TI.fin {on : Bool} {G : Int} {f : Nat → Int} {s : WS} (h : TI on G f s) : outW (putW s 16521 0) = f 0 * min G 32 * 30 := by
  rw [p9 _ _ (by decide)]
  have e1 : (regW s 9 0).reg 9 = 0 := rfl
  have e2 : (regW s 9 0).tab = s.tab := rfl
  have e3 : (regW s 9 0).vg = s.vg := rfl
  have e4 : (regW s 9 0).pos = s.pos := rfl
  unfold outW
  rw [e1, e2, e3, e4, h.pos, h.vg, if_neg (by decide), h.tab _ (by decide)]
  rfl
theorem TI.start (on : Bool) (X : Int) (hX : 128 ≤ X) : TI on (X % 64) (fun _ => 0) (if on then putW (putW newW 16512 X) 16521 128 else putW newW 16512 X) := by
  have e : putW newW 16512 X = regW (evW newW X) 0 X := p0 _ _
  cases on
  · rw [if_neg (by decide), e]
    refine ⟨fun _ _ => rfl, rfl, rfl, ?_, rfl, fun _ => by decide, fun _ _ => rfl⟩
    show (if 128 ≤ X then X % 64 else 0) = X % 64
    rw [if_pos hX]
  · rw [if_pos rfl, e, show (16521 : Int) = 16512 + ((9 : Nat) : Int) from rfl, putW_r _ 9 (by decide)]
    unfold putR
    rw [pr_9, if_pos ⟨by decide, by show (0 : Int) < 128; decide⟩]
    refine ⟨fun _ _ => rfl, rfl, ?_, ?_, rfl, fun _ => by decide, fun e => by cases e⟩
    · show outW (regW (evW newW X) 0 X) = 0
      unfold outW
      rw [if_neg (by show ¬ (128 : Int) ≤ 0; decide)]
      show (0 : Int) * _ * _ = 0
      rw [Int.zero_mul, Int.zero_mul]
    · show (if 128 ≤ X then X % 64 else 0) = X % 64
      rw [if_pos hX]
theorem o128g (g : Int) (h : 0 ≤ g ∧ g < 256) : (128 ≤ bits .or .u8 128 g ∧ bits .or .u8 128 g < 256) ∧ bits .or .u8 128 g % 64 = g % 64 :=
  u8all (P := fun g => (128 ≤ bits .or .u8 128 g ∧ bits .or .u8 128 g < 256) ∧ bits .or .u8 128 g % 64 = g % 64) (by decide +kernel) g h
theorem idx64 (f : Nat → Int) (k : Nat) (hk : k < 64) (w : World) : (Instr.index 48 (.agg (fl64 f).toArray) (.int .i64 (k : Int))).run Tryd.prog w = .ok (.int .u8 (f k)) w := by
  have he : (fl64 f)[k]? = some (.int .u8 (f k)) := by unfold fl64; simp [hk]
  simp [Instr.index, run_underlying Tryd.underlying48, asIntOf, hk, he, go_sem]

end Go.Proofs.YtmhplbgoahknbaaDoor
