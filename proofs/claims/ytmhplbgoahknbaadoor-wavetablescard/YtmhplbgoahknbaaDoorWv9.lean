/- A wave's methods. No law is claimed here. -/
import Derived.Test.YtmhplbgoahknbaaDoorWv8
import Derived.StillTailTactics
import Derived.Great.Ranges
import Derived.Great.Walk
import Derived.Great.BuildSlice
import Derived.Laws.Rows
namespace Go.Proofs.YtmhplbgoahknbaaDoor
open Go.RowKit Go.Great

theorem AtW.preg {w v : World} {n : Nat} {s : WS} (hx : AtW w n s v) (h : n < w.heap.size) (ok : WOk s) (hg : gw w) (h1n : 0 < n) (r : Nat) (hr : r < 11) (b : Int) (hb : 0 ≤ b ∧ b < 256) :
    Calls Tryd.prog 29 #[.pointer (some ⟨n, 0, none⟩), .int .u16 r, .int .u8 b] v fun e v' => e = .returned (.tuple #[]) ∧ AtW w n (putR s r b) v' := by
  rcases (by omega : r = 0 ∨ r = 1 ∨ r = 2 ∨ r = 3 ∨ r = 4 ∨ r = 5 ∨ r = 6 ∨ r = 7 ∨ r = 8 ∨ r = 9 ∨ r = 10) with rfl | rfl | rfl | rfl | rfl | rfl | rfl | rfl | rfl | rfl | rfl
  · exact hx.preg0 h ok hg h1n b hb
  · exact hx.preg1 h ok hg h1n b hb
  · exact hx.preg2 h ok hg h1n b hb
  · exact hx.preg3 h ok hg h1n b hb
  · exact hx.preg4 h ok hg h1n b hb
  · exact hx.preg5 h ok hg h1n b hb
  · exact hx.preg6 h ok hg h1n b hb
  · exact hx.preg7 h ok hg h1n b hb
  · exact hx.preg8 h ok hg h1n b hb
  · exact hx.preg9 h ok hg h1n b hb
  · exact hx.preg10 h ok hg h1n b hb

set_option maxRecDepth 100000 in
set_option maxHeartbeats 1000000 in
theorem AtW.put {w v : World} {n : Nat} {s : WS} (hx : AtW w n s v) (h : n < w.heap.size) (ok : WOk s) (hg : gw w) (h1n : 0 < n) (a b : Int) (ha : 0 ≤ a ∧ a < 65536) (hb : 0 ≤ b ∧ b < 256) :
    Calls Tryd.prog 18 #[.pointer (some ⟨n, 0, none⟩), .int .u16 a, .int .u8 b] v fun e v' => e = .returned (.tuple #[]) ∧ AtW w n (putW s a b) v' := by
  rcases (by omega : a < 16448 ∨ (¬ a < 16448 ∧ a < 16512) ∨ (¬ a < 16448 ∧ ¬ a < 16512 ∧ a < 16523) ∨ (¬ a < 16448 ∧ ¬ a < 16512 ∧ ¬ a < 16523)) with h1 | ⟨h1, h2⟩ | ⟨h1, h2, h3⟩ | ⟨h1, h2, h3⟩
  · rw [show putW s a b = s from if_pos h1]
    go_enter Tryd.func18, Tryd.ntmps18
    go_wp2
    (first | refine bodyPost_end (results_none rfl _ _ _) rfl ?_ | refine bodyPost_ret (results_none rfl _ _ _) rfl ?_)
    exact ⟨rfl, hx⟩
  · have FH := hx.isHeld h ok
    rw [show putW s a b = (if 128 ≤ s.reg 9 then { s with tab := upd s.tab (a - 16448).toNat (b % 64) } else s) by unfold putW; rw [if_neg h1, if_pos h2]]
    rcases (by omega : 128 ≤ s.reg 9 ∨ ¬ 128 ≤ s.reg 9) with h4 | h4
    · rw [if_pos h4]
      have d1 : decide (128 ≤ s.reg 9) = true := by simp; omega
      rw [d1] at FH
      obtain ⟨j, hj⟩ := natOf (a - 16448) (by omega)
      have j1 : j < 64 := by omega
      have j2 : (j : Int) < 64 := by omega
      have hw : IntKind.u16.wrap (a - 16448) = (j : Int) := by rw [hj, wrap_u16_mod]; omega
      rw [hj, Int.toNat_natCast]
      have z1 := m63 b hb
      have fz := (hx.cw h).fz
      have ca := (hx.cw h).tab j j1
      have hs : ∀ v, AtW w n s v → AtW w n { s with tab := upd s.tab j (b % 64) } (v.setCell ⟨n, 11 + j, none⟩ (.int .u8 (b % 64))) := fun v hv => hv.set (fun w => sw_tab w n s j _ j1) rfl
      clear d1 h4
      go_enter Tryd.func18, Tryd.ntmps18
      go_wp2_with (go_at_call 27; refine FH.mono ?_; rintro e w' ⟨rfl, rfl⟩)
      (first | refine bodyPost_end (results_none rfl _ _ _) rfl ?_ | refine bodyPost_ret (results_none rfl _ _ _) rfl ?_)
      exact ⟨rfl, hs _ hx⟩
    · rw [if_neg h4]
      have d1 : decide (128 ≤ s.reg 9) = false := by simp; omega
      rw [d1] at FH
      clear d1 h4
      go_enter Tryd.func18, Tryd.ntmps18
      go_wp2_with (go_at_call 27; refine FH.mono ?_; rintro e w' ⟨rfl, rfl⟩)
      (first | refine bodyPost_end (results_none rfl _ _ _) rfl ?_ | refine bodyPost_ret (results_none rfl _ _ _) rfl ?_)
      exact ⟨rfl, hx⟩
  · rw [show putW s a b = putR s (a - 16512).toNat b by unfold putW; rw [if_neg h1, if_neg h2, if_pos h3]]
    obtain ⟨r, hr⟩ := natOf (a - 16512) (by omega)
    have r1 : r < 11 := by omega
    have hw : IntKind.u16.wrap (a - 16512) = (r : Int) := by rw [hr, wrap_u16_mod]; omega
    rw [hr, Int.toNat_natCast]
    have FP := hx.preg h ok hg h1n r r1 b hb
    go_enter Tryd.func18, Tryd.ntmps18
    go_wp2_with (go_at_call 29; refine FP.mono ?_; rintro e w' ⟨rfl, hx2⟩)
    (first | refine bodyPost_end (results_none rfl _ _ _) rfl ?_ | refine bodyPost_ret (results_none rfl _ _ _) rfl ?_)
    exact ⟨rfl, hx2⟩
  · rw [show putW s a b = s by unfold putW; rw [if_neg h1, if_neg h2, if_neg h3]]
    go_enter Tryd.func18, Tryd.ntmps18
    go_wp2
    (first | refine bodyPost_end (results_none rfl _ _ _) rfl ?_ | refine bodyPost_ret (results_none rfl _ _ _) rfl ?_)
    exact ⟨rfl, hx⟩

def getW (s : WS) (a : Int) : Option Int := if a < 16448 then none else if a < 16512 then some (s.tab (a - 16448).toNat + 64) else if a = 16528 then some (s.vg + 64) else if a = 16530 then some (s.dg + 64) else none
def getV : Option Int → Value
  | some x => .tuple #[.int .u8 x, .bool true]
  | none => .tuple #[.int .u8 0, .bool false]
set_option maxRecDepth 100000 in
set_option maxHeartbeats 1000000 in
theorem AtW.get {w v : World} {n : Nat} {s : WS} (hx : AtW w n s v) (h : n < w.heap.size) (ok : WOk s) (a : Int) (ha : 0 ≤ a ∧ a < 65536) :
    Calls Tryd.prog 16 #[.pointer (some ⟨n, 0, none⟩), .int .u16 a] v fun e v' => e = .returned (getV (getW s a)) ∧ v' = v := by
  have cw := hx.cw h
  have c1 := cw.vg
  have c2 := cw.dg
  have z1 := o64 s.vg ok.vg
  have z2 := o64 s.dg ok.dg
  rcases (by omega : a < 16448 ∨ (¬ a < 16448 ∧ a < 16512) ∨ a = 16528 ∨ a = 16530 ∨ (¬ a < 16448 ∧ ¬ a < 16512 ∧ a ≠ 16528 ∧ a ≠ 16530)) with h1 | ⟨h1, h2⟩ | rfl | rfl | ⟨h1, h2, h3, h4⟩
  · rw [show getW s a = none from if_pos h1]
    have d1 : (a == 16528) = false := by rw [beq_eq_false_iff_ne]; omega
    have d2 : (a == 16530) = false := by rw [beq_eq_false_iff_ne]; omega
    go_enter Tryd.func16, Tryd.ntmps16
    go_wp2
    go_ret2
    exact ⟨rfl, rfl⟩
  · rw [show getW s a = some (s.tab (a - 16448).toNat + 64) by unfold getW; rw [if_neg h1, if_pos h2]]
    obtain ⟨j, hj⟩ := natOf (a - 16448) (by omega)
    have j1 : j < 64 := by omega
    have j2 : (j : Int) < 64 := by omega
    have hw : IntKind.u16.wrap (a - 16448) = (j : Int) := by rw [hj, wrap_u16_mod]; omega
    rw [hj, Int.toNat_natCast]
    have z3 := o64 (s.tab j) (ok.tab j j1)
    have ca := cw.tab j j1
    go_enter Tryd.func16, Tryd.ntmps16
    go_wp2
    go_ret2
    exact ⟨rfl, rfl⟩
  · go_enter Tryd.func16, Tryd.ntmps16
    go_wp2
    go_ret2
    exact ⟨rfl, rfl⟩
  · go_enter Tryd.func16, Tryd.ntmps16
    go_wp2
    go_ret2
    exact ⟨rfl, rfl⟩
  · rw [show getW s a = none by unfold getW; rw [if_neg h1, if_neg h2, if_neg h3, if_neg h4]]
    have d1 : (a == 16528) = false := by rw [beq_eq_false_iff_ne]; omega
    have d2 : (a == 16530) = false := by rw [beq_eq_false_iff_ne]; omega
    go_enter Tryd.func16, Tryd.ntmps16
    go_wp2
    go_ret2
    exact ⟨rfl, rfl⟩

theorem one_ite {c : Prop} [Decidable c] {a b : Value} (ha : a.oneCell' = true) (hb : b.oneCell' = true) : (if c then a else b).oneCell' = true := by split <;> assumption
theorem cell_one (s : WS) (i : Nat) : (s.cell i).oneCell' = true := by
  unfold WS.cell
  repeat (first | exact rfl | refine one_ite rfl ?_)
theorem setRowW (w : World) (g : Nat) (cs : List Value) (t : TypeId) (old : Array Value) (h : w.heap[g]? = some (.cells old t (0, 0))) : w.setRow g cs.toArray = rowT w g t cs := by
  unfold World.setRow rowT
  congr 1
  apply Array.ext'
  apply List.ext_getElem?
  intro i
  simp only [Array.toList_modify, List.getElem?_modify, Array.getElem?_toList]
  by_cases e : g = i
  · subst e; simp [h]
  · simp [e]
theorem stW_new (w : World) (s : WS) : w.alloc (.cells s.cells.toArray 62 (0, 0)) = stW (w.alloc (.cells s.cells.toArray 62 (0, 0))) w.heap.size s := rowT_new w _ _
set_option maxRecDepth 100000 in
set_option maxHeartbeats 1000000 in
theorem wnew_any (w : World) :
    Calls Tryd.prog 11 #[] w fun e w' => e = .returned (.pointer (some ⟨w.heap.size, 0, none⟩)) ∧ w' = w.alloc (.cells newW.cells.toArray 62 (0, 0)) := by
  obtain ⟨Z, hZ⟩ : ∃ Z, newW.cells.toArray = Z := ⟨_, rfl⟩
  have hB : Tryd.prog.built 62 [] = some Z := by rw [← hZ]; kernel_rfl
  rw [hZ]
  go_enter Tryd.func11, Tryd.ntmps11
  go_upto_region 1 with (fail)
  first | refine wp_region_lit ?_ | (refine wp_seq ?_; refine wp_region_lit ?_)
  refine wpList_buildTo rfl 62 _ rfl (some 1) rfl Z (by simpa using hB) ?_
  refine wpList_boxTo rfl 62 _ rfl (some 2) rfl w.heap.size rfl Z rfl ?_
  go_wp2
  go_ret
  exact ⟨rfl, rfl⟩
set_option maxRecDepth 100000 in
set_option maxHeartbeats 1000000 in
theorem wcopy_any (w : World) (n : Nat) (s : WS) (h : n < w.heap.size) :
    Calls Tryd.prog 22 #[.pointer (some ⟨n, 0, none⟩)] (stW w n s) fun e w' => e = .returned (.pointer (some ⟨w.heap.size, 0, none⟩)) ∧ w' = stW ((stW w n s).alloc (.cells newW.cells.toArray 62 (0, 0))) w.heap.size s := by
  obtain ⟨Z, hZ⟩ : ∃ Z, newW.cells.toArray = Z := ⟨_, rfl⟩
  have hZs : Z.size = 152 := by rw [← hZ]; unfold WS.cells; simp
  obtain ⟨C, hC⟩ : ∃ C, s.cells.toArray = C := ⟨_, rfl⟩
  have hCs : C.size = 152 := by rw [← hC]; unfold WS.cells; simp
  have h1c : C.all (·.oneCell') = true := by
    rw [← hC, Array.all_eq_true_iff_forall_mem]
    intro x hx
    simp only [List.mem_toArray] at hx
    unfold WS.cells at hx
    obtain ⟨i, _, rfl⟩ := List.mem_map.mp hx
    exact cell_one s i
  have hat : (stW w n s).heap[n]? = some (.cells C 62 (0, 0)) := by rw [← hC]; exact rowT_at w n 62 _ h
  have hsz : (stW w n s).heap.size = w.heap.size := rowT_size _ _ _ _
  have hinf : (Tryd.prog.info? 62).map (·.size) = some 152 := by kernel_rfl
  have hR : ((stW w n s).alloc (.cells Z 62 (0, 0))).setRow w.heap.size C = stW ((stW w n s).alloc (.cells Z 62 (0, 0))) w.heap.size s := by
    rw [← hC]
    exact setRowW _ _ _ _ Z (by rw [← hsz]; exact heap_alloc_new _ _)
  rw [hZ, ← hR]
  clear hR
  generalize hv : stW w n s = v at *
  have hnew : (v.alloc (.cells Z 62 (0, 0))).heap[w.heap.size]? = some (.cells Z 62 (0, 0)) := by rw [← hsz]; exact heap_alloc_new _ _
  go_enter Tryd.func22, Tryd.ntmps22
  go_upto_region 3 with (fail)
  first | refine wp_region_lit ?_ | (refine wp_seq ?_; refine wp_region_lit ?_)
  refine wpList_readTo rfl (some 6) rfl (.pointer (some ⟨n, 0, none⟩)) (by kernel_rfl) ?_
  refine wpList_readTo rfl (some 7) rfl (.pointer (some ⟨n, 0, none⟩)) (by kernel_rfl) ?_
  refine wpList_load_row rfl 62 _ rfl n rfl 62 C (0, 0) _ hat Tryd.underlying62 rfl (by rw [hCs]; exact hinf) ?_
  refine wpList_allocTo rfl (some 3) rfl (.pointer (some ⟨v.heap.size, 0, none⟩)) (.cells Z 62 (0, 0)) (by rw [← hZ]; kernel_rfl) ?_
  rw [hsz]
  refine wpList_store_rowTo rfl 62 _ _ rfl rfl w.heap.size C rfl rfl 62 Z hnew (by rw [hCs]; exact hinf) (by rw [hZs, hCs]) h1c ?_
  go_wp2
  go_ret
  exact ⟨rfl, rfl⟩

end Go.Proofs.YtmhplbgoahknbaaDoor
