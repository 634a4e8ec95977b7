/- A strings.Builder of the call's own, letter by letter. No law is claimed here. -/
import Derived.Test.YtahoebnlihgobaaPad8
namespace Go.Proofs.Ytahoebnlihgobaa
open Go.RowKit

/-- a builder in the block b: its first cell, its bytes in a row that was made later -/
def Bd (w : World) (base b : Nat) (p : Value) (l : List UInt8) : Prop :=
  ∃ A n c, w.heap[b]? = some (.cells #[p, .slice A n c] 53 (0, 0)) ∧ Own bv w base 5 A n c l
/-- only the block b was written, of all below a bound -/
def But (base b : Nat) (w w' : World) : Prop := Below b w w' ∧ ∀ k, k < base → k ≠ b → w'.heap[k]? = w.heap[k]?
theorem Try.sizeBld : (Try.prog.info? 53).map (·.size) = some 2 := by kernel_rfl
theorem Try.liesBld : liesAt Try.prog Try.prog.depth 53 (2 / Try.prog.cellsOf 53) 0 53 1 = true := by kernel_rfl

set_option maxRecDepth 100000 in
set_option maxHeartbeats 1000000 in
theorem copyCheck_used (b : Nat) (w : World) (h0 : w.cell? ⟨b, 0, none⟩ = some (.pointer (some ⟨b, 0, none⟩))) :
    Calls Try.prog 27 #[.pointer (some ⟨b, 0, none⟩)] w fun e w' => e = .returned (.tuple #[]) ∧ w' = w := by
  obtain ⟨j, hj, hjs⟩ := Option.map_eq_some_iff.1 Try.sizeBld
  have hne := Lib.run_neq_ptr_same (P := Try.prog) w ⟨b, 0, none⟩ Try.underlying51 hj
  go_enter Try.func27, Try.ntmps27
  go_wp2
  first | refine bodyPost_end (results_none rfl _ _ _) rfl ?_ | refine bodyPost_ret (results_none rfl _ _ _) rfl ?_
  exact ⟨rfl, rfl⟩

set_option maxRecDepth 100000 in
set_option maxHeartbeats 1000000 in
theorem copyCheck_fresh (b : Nat) (w : World) (h0 : w.cell? ⟨b, 0, none⟩ = some (.pointer none)) (hsh : w.shape? b = some (53, 2)) (hfz : w.frozen? ⟨b, 0, none⟩ = false) :
    Calls Try.prog 27 #[.pointer (some ⟨b, 0, none⟩)] w fun e w' => e = .returned (.tuple #[]) ∧ w' = w.setCell ⟨b, 0, none⟩ (.pointer (some ⟨b, 0, none⟩)) := by
  obtain ⟨j, hj, hjs⟩ := Option.map_eq_some_iff.1 Try.sizeBld
  have k1 := Lib.run_to_unsafe w ⟨b, 0, none⟩ Try.underlying51 Try.underlying66 hj (by rw [hjs]; decide) hsh (Nat.zero_lt_succ 1)
  have k2 := Lib.run_from_unsafe w ⟨b, 0, none⟩ Try.underlying66 Try.underlying51 hj hsh Try.liesBld
  have k3 : ∀ x w, (callFunc 33 #[x]).run Try.prog w = .ok (.value x) w := fun x w => by
    rw [run_callFunc_extern Try.func33 (by kernel_rfl) (by kernel_rfl) (by kernel_rfl) (e := Extern.AbiNoEscape.same) (by kernel_rfl), Lib.run_noEscape]
    rfl
  go_enter Try.func27, Try.ntmps27
  go_wp2
  first | refine bodyPost_end (results_none rfl _ _ _) rfl ?_ | refine bodyPost_ret (results_none rfl _ _ _) rfl ?_
  exact ⟨rfl, rfl⟩

set_option maxRecDepth 100000 in
set_option maxHeartbeats 1000000 in
theorem appendRune_ascii (A : Option Addr) (n c base : Nat) (xs : List UInt8) (x : UInt8) (w : World) (hx : x.toNat < 128) (hn : n < 1000) (ho : Own bv w base 5 A n c xs) (hb : base ≤ w.heap.size) :
    Calls Try.prog 28 #[.slice A n c, .int .i32 (x.toNat : Int)] w fun e w' => ∃ A' c', e = .returned (.slice A' (n + 1) c') ∧ Own bv w' base 5 A' (n + 1) c' (xs ++ [x]) ∧ Below base w w' := by
  obtain ⟨i0, hi, hz0, hz1, hz2⟩ := info_parts Try.infoU8
  have h1 := Rd.one (f := bv) w 5 x
  have t1 : (x.toNat : Int) ≤ 127 := by omega
  have t0 : (0 : Int) ≤ (x.toNat : Int) := by omega
  have e1 : bv x = .int .u8 (x.toNat : Int) := rfl
  rw [e1] at h1
  have HR := Lib.hid h1
  clear h1 e1
  go_enter Try.func28, Try.ntmps28
  go_wp2_with (at_builtin; refine wpList_app _ oneCell_bv rfl (.tmp 8) (.tmp 11) _ rfl base 5 i0 _ 1 Try.underlying45 hi hz0 hz1 hz2 rfl A n c _ rfl (ho.alloc _) _ _ 1 1 _ rfl HR.out (by simp only [maxLen]; omega) (by omega) (by simp; omega) ?_; intro A3 c3 w3 hown3 hb3 _)
  go_ret
  exact ⟨A3, c3, rfl, hown3, ((Below.refl _ _).alloc hb _).trans hb3⟩

theorem Bd.cells {w : World} {base b : Nat} {p : Value} {l : List UInt8} (h : Bd w base b p l) : ∃ A n c, w.cell? ⟨b, 0, none⟩ = some p ∧ w.cell? ⟨b, 1, none⟩ = some (.slice A n c) ∧ (∀ i, w.frozen? ⟨b, i, none⟩ = false) ∧ b < w.heap.size ∧ w.shape? b = some (53, 2) ∧ Own bv w base 5 A n c l ∧ Hid (n = l.length) := by
  obtain ⟨A, n, c, h1, h2⟩ := h
  refine ⟨A, n, c, ?_, ?_, fun i => Lib.frozen_of_heap h1 i, (Array.getElem?_eq_some_iff.1 h1).1, by simp [World.shape?, h1], h2, h2.len.symm⟩
  · rw [Lib.cell_of_heap h1]; rfl
  · rw [Lib.cell_of_heap h1]; rfl

theorem Own.far {w : World} {base b n c : Nat} {e : TypeId} {A : Option Addr} {xs : List UInt8} (h : Own bv w base e A n c xs) (hb : b < base) (i : Nat) (v : Value) : Own bv (w.setCell ⟨b, i, none⟩ v) base e A n c xs :=
  ⟨h.own.kept (row := some b) ⟨rfl, rfl, rfl, by simp [World.setCell], fun k _ hk => Below.heap_setCell _ _ _ _ (fun e => hk (by simp [e]))⟩ (Or.inr (fun e => by have := (h.lt b e).1; omega)), h.len⟩
theorem Bd.set0 {w : World} {base b : Nat} {p : Value} {l : List UInt8} (h : Bd w base b p l) (hb : b < base) (q : Value) : Bd (w.setCell ⟨b, 0, none⟩ q) base b q l := by
  obtain ⟨A, n, c, h1, h2⟩ := h
  exact ⟨A, n, c, by simp [World.setCell, Array.getElem?_modify, h1], h2.far hb _ _⟩
theorem Bd.set1 {w : World} {base b : Nat} {p v : Value} {l : List UInt8} {A : Option Addr} {n c : Nat} (hb : b < base) (h1 : w.heap[b]? = some (.cells #[p, v] 53 (0, 0))) (h2 : Own bv w base 5 A n c l) : Bd (w.setCell ⟨b, 1, none⟩ (.slice A n c)) base b p l :=
  ⟨A, n, c, by simp [World.setCell, Array.getElem?_modify, h1], h2.far hb _ _⟩
theorem But.refl (base b : Nat) (w : World) : But base b w w := ⟨Below.refl _ _, fun _ _ _ => rfl⟩
theorem But.set {base b : Nat} {a w : World} (h : But base b a w) (i : Nat) (v : Value) : But base b a (w.setCell ⟨b, i, none⟩ v) :=
  ⟨h.1.setCell (p := ⟨b, i, none⟩) (Nat.le_refl _) v, fun k hk hne => (Below.heap_setCell w ⟨b, i, none⟩ v k hne).trans (h.2 k hk hne)⟩
theorem But.past {base b : Nat} {a w w' : World} (h : But base b a w) (k : Below base w w') (hb : b ≤ base) : But base b a w' :=
  ⟨h.1.trans (k.mono hb), fun j hj hne => (k.block j hj).trans (h.2 j hj hne)⟩

set_option maxRecDepth 100000 in
set_option maxHeartbeats 1000000 in
theorem writeRune_ascii (base b : Nat) (p : Value) (l : List UInt8) (x : UInt8) (w : World) (hbb : b < base) (hbs : base ≤ w.heap.size) (hp : p = .pointer none ∨ p = .pointer (some ⟨b, 0, none⟩)) (hx : x.toNat < 128) (hn : l.length < 1000) (hB : Bd w base b p l) :
    Calls Try.prog 24 #[.pointer (some ⟨b, 0, none⟩), .int .i32 (x.toNat : Int)] w fun e w' => e = .returned (.tuple #[.int .i64 1, .nilIface]) ∧ Bd w' base b (.pointer (some ⟨b, 0, none⟩)) (l ++ [x]) ∧ But base b w w' := by
  have hcc : Calls Try.prog 27 #[.pointer (some ⟨b, 0, none⟩)] w fun e w' => e = .returned (.tuple #[]) ∧ Bd w' base b (.pointer (some ⟨b, 0, none⟩)) l ∧ But base b w w' := by
    obtain ⟨A, n, c, c0, c1, fz, lt, sh, ho, _⟩ := hB.cells
    rcases hp with rfl | rfl
    · refine (copyCheck_fresh b w c0 sh (fz 0)).mono ?_
      rintro e w' ⟨rfl, rfl⟩
      exact ⟨rfl, hB.set0 hbb _, (But.refl _ _ _).set _ _⟩
    · refine (copyCheck_used b w c0).mono ?_
      rintro e w' ⟨rfl, rfl⟩
      exact ⟨rfl, hB, But.refl _ _ _⟩
  go_enter Try.func24, Try.ntmps24
  go_upto_region 2 with (go_at_call 27; refine hcc.mono ?_; rintro e w1 ⟨rfl, B1, x1⟩)
  obtain ⟨A, n, c, c0, c1, fz, lt, sh, ho, hnl⟩ := B1.cells
  have f1 := fz 1
  have hn1 : n < 1000 := by have := hnl.out; omega
  have e9 : (n : Int) + 1 - (n : Int) = 1 := by omega
  have FA := appendRune_ascii A n c base l x w1 hx hn1 ho (Nat.le_trans hbs x1.1.size)
  go_upto_region 3 with (fail)
  go_wp2_with (go_at_call 28; refine FA.mono ?_; rintro e w2 ⟨A2, c2, rfl, ho2, x2⟩; have d1 := (x2.cell (p := ⟨b, 1, none⟩) hbb).trans c1; have f2 := (x2.frozen (p := ⟨b, 1, none⟩) hbb).trans f1)
  go_ret2
  obtain ⟨A0, n0, c0', hh, _⟩ := B1
  exact ⟨rfl, Bd.set1 hbb ((x2.block b hbb).trans hh) ho2, (x1.past x2 (Nat.le_of_lt hbb)).set _ _⟩

theorem Try.cellsU8 : Try.prog.cellsOf 5 = 1 := by kernel_rfl
set_option maxRecDepth 100000 in
set_option maxHeartbeats 1000000 in
theorem bstring_any (base b : Nat) (p : Value) (l : List UInt8) (w : World) (h0 : l ≠ []) (hn : l.length < 1000) (hbb : b < base) (hB : Bd w base b p l) :
    Calls Try.prog 25 #[.pointer (some ⟨b, 0, none⟩)] w fun e w' => e = .returned (.string ⟨l.toArray⟩) ∧ Below b w w' := by
  obtain ⟨A, n, c, _, c1, _, lt, _, ho, hnl⟩ := hB.cells
  have hn2 := hnl.out
  subst hn2
  have hl0 : 0 < l.length := List.length_pos_iff.2 h0
  obtain ⟨g, rfl⟩ := ho.zero hl0
  have hbg := ho.base_le
  have hcap := ho.rd.cap
  obtain ⟨cur, hg, hcs⟩ : ∃ cur, w.heap[g]? = some (.cells cur 5 (0, 0)) ∧ l.length ≤ cur.size := by
    rcases ho.own.2 with ⟨hv, hz⟩ | ⟨g', cap, cur, hv, _, hg', hnc, _, hs, _⟩
    · omega
    · injection hv with e1 e2 e3
      injection e1 with e1
      injection e1 with e1
      subst e1
      exact ⟨cur, hg', by omega⟩
  have k1 : w.drew.cell? ⟨b, 1, none⟩ = some (.slice (some ⟨g, 0, none⟩) l.length c) := c1
  have hSD : (Builtin.unsafeSliceData_ #[45] 61 #[.slice (some ⟨g, 0, none⟩) l.length c]).run Try.prog w.drew = .ok (.pointer (some ⟨g, 0, none⟩)) w.drew :=
    Lib.run_unsafeSliceData_row _ _ _ _ _ _ (by omega)
  have hUS : (Builtin.unsafeString_ #[61, 3] 9 #[.pointer (some ⟨g, 0, none⟩), .int .i64 l.length]).run Try.prog w.drew = .ok (.string ⟨l.toArray⟩) (w.drew.freeze ⟨g, 0, none⟩ l.length) := by
    refine Lib.run_unsafeString_row w.drew 61 3 9 5 Try.underlying61 Try.cellsU8 g cur.size (by have hg' : w.drew.heap[g]? = some (.cells cur 5 (0, 0)) := hg; simp [World.shape?, hg']) l h0 hcs (by omega) ?_
    intro j x hx
    exact ho.own.cells (g := g) rfl j (.int .u8 x.toNat) (by simp [bv, hx])
  clear hB ho hg hcs hnl hn
  go_enter Try.func25, Try.ntmps25
  go_wp2
  go_region
  all_goals (go_wp2; go_ret; exact ⟨rfl, Lib.below_freeze (Below.drew (Below.refl b w)) (p := ⟨g, 0, none⟩) (by show b ≤ g; omega) _⟩)

end Go.Proofs.Ytahoebnlihgobaa
