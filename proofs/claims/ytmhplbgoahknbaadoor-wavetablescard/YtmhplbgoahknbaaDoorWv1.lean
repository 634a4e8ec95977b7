/- A wave in memory: 152 cells of one block. No law is claimed here. -/
import Derived.Test.YtmhplbgoahknbaaDoorTn1
import Derived.BigQuiet
namespace Go.Proofs.YtmhplbgoahknbaaDoor
open Go.RowKit

/-- a wave -/
structure WS where
  reg : Nat → Int
  tab : Nat → Int
  sum : Int
  pos : Int
  vg : Int
  vs : Int
  vc : Int
  dg : Int
  ds : Int
  dc : Int
  mt : Nat → Int
  ms : Int
  mp : Int
  mc : Int
  cyc : Int
  held : Int
def WS.cell (s : WS) (i : Nat) : Value :=
  if i < 11 then .int .u8 (s.reg i) else if i < 75 then .int .u8 (s.tab (i - 11)) else
  if i = 75 then .int .i64 s.sum else if i = 76 then .int .i64 s.pos else
  if i = 77 then .int .u8 s.vg else if i = 78 then .int .u8 s.vs else if i = 79 then .int .i64 s.vc else
  if i = 80 then .int .u8 s.dg else if i = 81 then .int .u8 s.ds else if i = 82 then .int .i64 s.dc else
  if i < 147 then .int .u8 (s.mt (i - 83)) else
  if i = 147 then .int .i64 s.ms else if i = 148 then .int .i64 s.mp else if i = 149 then .int .i64 s.mc else
  if i = 150 then .int .i64 s.cyc else .int .i64 s.held
def WS.cells (s : WS) : List Value := (List.range 152).map s.cell
/-- w with the block n made of the wave s -/
def stW (w : World) (n : Nat) (s : WS) : World := rowT w n 62 s.cells
def upd (f : Nat → Int) (i : Nat) (x : Int) : Nat → Int := fun j => if j = i then x else f j
theorem upd_same (f : Nat → Int) (i : Nat) (x : Int) : upd f i x i = x := if_pos rfl
theorem upd_other (f : Nat → Int) (i : Nat) (x : Int) (j : Nat) (h : j ≠ i) : upd f i x j = f j := if_neg h

theorem stW_cell (w : World) (n : Nat) (s : WS) (h : n < w.heap.size) (i : Nat) (hi : i < 152) : (stW w n s).cell? ⟨n, i, none⟩ = some (s.cell i) := by
  unfold stW WS.cells
  rw [rowT_cell _ _ _ _ h]
  simp [hi]
/-- what its cells are -/
structure CW (v : World) (n : Nat) (s : WS) : Prop where
  reg : ∀ i : Nat, i < 11 → v.cell? ⟨n, i, none⟩ = some (.int .u8 (s.reg i))
  tab : ∀ i : Nat, i < 64 → v.cell? ⟨n, 11 + i, none⟩ = some (.int .u8 (s.tab i))
  sum : v.cell? ⟨n, 75, none⟩ = some (.int .i64 s.sum)
  pos : v.cell? ⟨n, 76, none⟩ = some (.int .i64 s.pos)
  vg : v.cell? ⟨n, 77, none⟩ = some (.int .u8 s.vg)
  vs : v.cell? ⟨n, 78, none⟩ = some (.int .u8 s.vs)
  vc : v.cell? ⟨n, 79, none⟩ = some (.int .i64 s.vc)
  dg : v.cell? ⟨n, 80, none⟩ = some (.int .u8 s.dg)
  ds : v.cell? ⟨n, 81, none⟩ = some (.int .u8 s.ds)
  dc : v.cell? ⟨n, 82, none⟩ = some (.int .i64 s.dc)
  mt : ∀ i : Nat, i < 64 → v.cell? ⟨n, 83 + i, none⟩ = some (.int .u8 (s.mt i))
  ms : v.cell? ⟨n, 147, none⟩ = some (.int .i64 s.ms)
  mp : v.cell? ⟨n, 148, none⟩ = some (.int .i64 s.mp)
  mc : v.cell? ⟨n, 149, none⟩ = some (.int .i64 s.mc)
  cyc : v.cell? ⟨n, 150, none⟩ = some (.int .i64 s.cyc)
  held : v.cell? ⟨n, 151, none⟩ = some (.int .i64 s.held)
  fz : ∀ i, v.frozen? ⟨n, i, none⟩ = false
theorem stW_cw (w : World) (n : Nat) (s : WS) (h : n < w.heap.size) : CW (stW w n s) n s := by
  have k := stW_cell w n s h
  constructor
  · intro i hi; rw [k i (by omega)]; unfold WS.cell; rw [if_pos hi]
  · intro i hi; rw [k (11 + i) (by omega)]; unfold WS.cell; rw [if_neg (by omega), if_pos (by omega), Nat.add_sub_cancel_left]
  · exact k 75 (by decide)
  · exact k 76 (by decide)
  · exact k 77 (by decide)
  · exact k 78 (by decide)
  · exact k 79 (by decide)
  · exact k 80 (by decide)
  · exact k 81 (by decide)
  · exact k 82 (by decide)
  · intro i hi; rw [k (83 + i) (by omega)]; unfold WS.cell
    rw [if_neg (by omega), if_neg (by omega), if_neg (by omega), if_neg (by omega), if_neg (by omega), if_neg (by omega), if_neg (by omega), if_neg (by omega), if_neg (by omega), if_neg (by omega), if_pos (by omega), Nat.add_sub_cancel_left]
  · exact k 147 (by decide)
  · exact k 148 (by decide)
  · exact k 149 (by decide)
  · exact k 150 (by decide)
  · exact k 151 (by decide)
  · intro i; exact rowT_frozen _ _ _ _ i
theorem stW_drewN (w : World) (n : Nat) (s : WS) (q : Nat) : (stW w n s).drewN q = stW (w.drewN q) n s := rowT_drewN _ _ _ _ _
theorem stW_drew (w : World) (n : Nat) (s : WS) : (stW w n s).drew = stW w.drew n s := rfl
theorem stW_set (w : World) (n : Nat) (s s' : WS) (i : Nat) (v : Value) (hi : i < 152) (h : ∀ j, j < 152 → s'.cell j = if j = i then v else s.cell j) : (stW w n s).setCell ⟨n, i, none⟩ v = stW w n s' := by
  unfold stW
  rw [rowT_set]
  congr 1
  unfold WS.cells
  apply List.ext_getElem?
  intro j
  rw [List.getElem?_set]
  by_cases hj : j < 152
  · have := h j hj
    by_cases e : i = j
    · subst e
      simp [hi, this]
    · simp [e, hj, this, Ne.symm e]
  · by_cases e : i = j
    · omega
    · simp [e, hj]

theorem sw_sum (w : World) (n : Nat) (s : WS) (x : Int) : (stW w n s).setCell ⟨n, 75, none⟩ (.int .i64 x) = stW w n { s with sum := x } := by
  apply stW_set w n s _ 75 _ (by decide)
  intro j hj
  by_cases e : j = 75
  · subst e; rfl
  · rw [if_neg e]; unfold WS.cell; simp [e]
theorem sw_pos (w : World) (n : Nat) (s : WS) (x : Int) : (stW w n s).setCell ⟨n, 76, none⟩ (.int .i64 x) = stW w n { s with pos := x } := by
  apply stW_set w n s _ 76 _ (by decide)
  intro j hj
  by_cases e : j = 76
  · subst e; rfl
  · rw [if_neg e]; unfold WS.cell; simp [e]
theorem sw_vg (w : World) (n : Nat) (s : WS) (x : Int) : (stW w n s).setCell ⟨n, 77, none⟩ (.int .u8 x) = stW w n { s with vg := x } := by
  apply stW_set w n s _ 77 _ (by decide)
  intro j hj
  by_cases e : j = 77
  · subst e; rfl
  · rw [if_neg e]; unfold WS.cell; simp [e]
theorem sw_vs (w : World) (n : Nat) (s : WS) (x : Int) : (stW w n s).setCell ⟨n, 78, none⟩ (.int .u8 x) = stW w n { s with vs := x } := by
  apply stW_set w n s _ 78 _ (by decide)
  intro j hj
  by_cases e : j = 78
  · subst e; rfl
  · rw [if_neg e]; unfold WS.cell; simp [e]
theorem sw_vc (w : World) (n : Nat) (s : WS) (x : Int) : (stW w n s).setCell ⟨n, 79, none⟩ (.int .i64 x) = stW w n { s with vc := x } := by
  apply stW_set w n s _ 79 _ (by decide)
  intro j hj
  by_cases e : j = 79
  · subst e; rfl
  · rw [if_neg e]; unfold WS.cell; simp [e]
theorem sw_dg (w : World) (n : Nat) (s : WS) (x : Int) : (stW w n s).setCell ⟨n, 80, none⟩ (.int .u8 x) = stW w n { s with dg := x } := by
  apply stW_set w n s _ 80 _ (by decide)
  intro j hj
  by_cases e : j = 80
  · subst e; rfl
  · rw [if_neg e]; unfold WS.cell; simp [e]
theorem sw_ds (w : World) (n : Nat) (s : WS) (x : Int) : (stW w n s).setCell ⟨n, 81, none⟩ (.int .u8 x) = stW w n { s with ds := x } := by
  apply stW_set w n s _ 81 _ (by decide)
  intro j hj
  by_cases e : j = 81
  · subst e; rfl
  · rw [if_neg e]; unfold WS.cell; simp [e]
theorem sw_dc (w : World) (n : Nat) (s : WS) (x : Int) : (stW w n s).setCell ⟨n, 82, none⟩ (.int .i64 x) = stW w n { s with dc := x } := by
  apply stW_set w n s _ 82 _ (by decide)
  intro j hj
  by_cases e : j = 82
  · subst e; rfl
  · rw [if_neg e]; unfold WS.cell; simp [e]
theorem sw_ms (w : World) (n : Nat) (s : WS) (x : Int) : (stW w n s).setCell ⟨n, 147, none⟩ (.int .i64 x) = stW w n { s with ms := x } := by
  apply stW_set w n s _ 147 _ (by decide)
  intro j hj
  by_cases e : j = 147
  · subst e; rfl
  · rw [if_neg e]; unfold WS.cell; simp [e]
theorem sw_mp (w : World) (n : Nat) (s : WS) (x : Int) : (stW w n s).setCell ⟨n, 148, none⟩ (.int .i64 x) = stW w n { s with mp := x } := by
  apply stW_set w n s _ 148 _ (by decide)
  intro j hj
  by_cases e : j = 148
  · subst e; rfl
  · rw [if_neg e]; unfold WS.cell; simp [e]
theorem sw_mc (w : World) (n : Nat) (s : WS) (x : Int) : (stW w n s).setCell ⟨n, 149, none⟩ (.int .i64 x) = stW w n { s with mc := x } := by
  apply stW_set w n s _ 149 _ (by decide)
  intro j hj
  by_cases e : j = 149
  · subst e; rfl
  · rw [if_neg e]; unfold WS.cell; simp [e]
theorem sw_cyc (w : World) (n : Nat) (s : WS) (x : Int) : (stW w n s).setCell ⟨n, 150, none⟩ (.int .i64 x) = stW w n { s with cyc := x } := by
  apply stW_set w n s _ 150 _ (by decide)
  intro j hj
  by_cases e : j = 150
  · subst e; rfl
  · rw [if_neg e]; unfold WS.cell; simp [e]
theorem sw_held (w : World) (n : Nat) (s : WS) (x : Int) : (stW w n s).setCell ⟨n, 151, none⟩ (.int .i64 x) = stW w n { s with held := x } := by
  apply stW_set w n s _ 151 _ (by decide)
  intro j hj
  by_cases e : j = 151
  · subst e; rfl
  · rw [if_neg e]; unfold WS.cell; simp only
    rcases (by omega : j < 11 ∨ (¬ j < 11 ∧ j < 75) ∨ (j = 75 ∨ j = 76 ∨ j = 77 ∨ j = 78 ∨ j = 79 ∨ j = 80 ∨ j = 81 ∨ j = 82) ∨ (83 ≤ j ∧ j < 147) ∨ (j = 147 ∨ j = 148 ∨ j = 149 ∨ j = 150)) with k | ⟨k1, k2⟩ | k | ⟨k1, k2⟩ | k
    · rw [if_pos k, if_pos k]
    · rw [if_neg k1, if_neg k1, if_pos k2, if_pos k2]
    · rcases k with rfl | rfl | rfl | rfl | rfl | rfl | rfl | rfl <;> rfl
    · rw [if_pos k2, if_pos k2]
    · rcases k with rfl | rfl | rfl | rfl <;> rfl
theorem sw_reg (w : World) (n : Nat) (s : WS) (i : Nat) (x : Int) (h : i < 11) : (stW w n s).setCell ⟨n, i, none⟩ (.int .u8 x) = stW w n { s with reg := upd s.reg i x } := by
  apply stW_set w n s _ i _ (by omega)
  intro j hj
  by_cases e : j = i
  · subst e; unfold WS.cell upd; simp [h]
  · rw [if_neg e]; unfold WS.cell upd; simp [e]
theorem sw_tab (w : World) (n : Nat) (s : WS) (i : Nat) (x : Int) (h : i < 64) : (stW w n s).setCell ⟨n, 11 + i, none⟩ (.int .u8 x) = stW w n { s with tab := upd s.tab i x } := by
  apply stW_set w n s _ (11 + i) _ (by omega)
  intro j hj
  by_cases e : j = 11 + i
  · subst e; unfold WS.cell upd; rw [if_pos rfl, if_neg (by omega), if_pos (by omega), Nat.add_sub_cancel_left]; simp
  · rw [if_neg e]; unfold WS.cell upd; simp only
    by_cases h1 : j < 11
    · rw [if_pos h1, if_pos h1]
    · by_cases h2 : j < 75
      · rw [if_neg h1, if_neg h1, if_pos h2, if_pos h2, if_neg (by omega)]
      · rw [if_neg h1, if_neg h1, if_neg h2, if_neg h2]
theorem sw_mt (w : World) (n : Nat) (s : WS) (i : Nat) (x : Int) (h : i < 64) : (stW w n s).setCell ⟨n, 83 + i, none⟩ (.int .u8 x) = stW w n { s with mt := upd s.mt i x } := by
  apply stW_set w n s _ (83 + i) _ (by omega)
  intro j hj
  by_cases e : j = 83 + i
  · subst e; rw [if_pos rfl]; unfold WS.cell upd
    rw [if_neg (by omega), if_neg (by omega), if_neg (by omega), if_neg (by omega), if_neg (by omega), if_neg (by omega), if_neg (by omega), if_neg (by omega), if_neg (by omega), if_neg (by omega), if_pos (by omega), Nat.add_sub_cancel_left]; simp
  · rw [if_neg e]; unfold WS.cell upd; simp only
    by_cases h2 : 83 ≤ j ∧ j < 147
    · have e2 : ¬ j - 83 = i := by omega
      rw [if_neg e2]
    · by_cases h3 : j < 83
      · by_cases h11 : j < 11
        · rw [if_pos h11, if_pos h11]
        · by_cases h75 : j < 75
          · rw [if_neg h11, if_neg h11, if_pos h75, if_pos h75]
          · rcases (by omega : j = 75 ∨ j = 76 ∨ j = 77 ∨ j = 78 ∨ j = 79 ∨ j = 80 ∨ j = 81 ∨ j = 82) with rfl | rfl | rfl | rfl | rfl | rfl | rfl | rfl <;> rfl
      · rw [if_neg (show ¬ j < 147 by omega), if_neg (show ¬ j < 147 by omega)]

end Go.Proofs.YtmhplbgoahknbaaDoor
