/- The document's voice (kotatsuref11): a noise's step. No law is claimed here. -/
import Derived.Test.YtgnafnjhbdefaaaDoorTr4
set_option linter.unusedSimpArgs false
set_option linter.unusedVariables false
namespace Go.Proofs.YtgnafnjhbdefaaaDoor
open Go.RowKit Go.Great

/-- a row of fifteen bits -/
structure RowR (w : World) (A : Option Addr) (c : Nat) (xs : List Int) : Prop where
  len : xs.length = 15
  cap : 15 ≤ c
  at_ : ∃ g off, A = some ⟨g, off, none⟩ ∧ g < w.heap.size ∧ ∀ j, (h : j < xs.length) → w.cell? ⟨g, off + j, none⟩ = some (iv xs[j])
theorem RowR.up {w w' : World} {A : Option Addr} {c : Nat} {xs : List Int} (h : RowR w A c xs) (hb : Below w.heap.size w w') : RowR w' A c xs := by
  obtain ⟨h1, h2, g, off, rfl, h3, h4⟩ := h
  exact ⟨h1, h2, g, off, rfl, Nat.lt_of_lt_of_le h3 hb.size, fun j hj => (hb.cell h3).trans (h4 j hj)⟩
/-- a row that was made, where older blocks were written since -/
theorem Own.rowOver {w v v' : World} {base c : Nat} {e : TypeId} {A : Option Addr} {xs : List Int} {os : List Obj} {d : Nat} (h : Own iv (more w os d) base e A 15 c xs) (hs : v.heap.size = w.heap.size) (hb : w.heap.size ≤ base) (he : v' = more v os d) : RowR v' A c xs := by
  subst he
  have hr := h.rd
  obtain ⟨g, rfl⟩ := h.zero (by omega)
  have hg := h.lt g rfl
  refine ⟨hr.len, hr.cap, g, 0, rfl, by rw [more_size hs]; exact hg.2, fun j hj => ?_⟩
  obtain ⟨b, off, e, _, hc⟩ := hr.at_ j hj
  simp at e
  obtain ⟨rfl, rfl⟩ := e
  exact (more_new hs os d _ (by show w.heap.size ≤ g; omega)).trans hc
/-- a block that was just made, whole -/
theorem Own.fresh {α : Type} {f : α → Value} (w : World) (e : TypeId) (xs : List α) (cs : Array Value) (n g : Nat) (hcs : cs = (xs.map f).toArray) (hn : xs.length = n) (hm : n ≤ maxLen) (hg : g = w.heap.size) :
    Own f (w.alloc (.cells cs e)) w.heap.size e (some ⟨g, 0, none⟩) n n xs := by
  subst hcs; subst hg
  refine ⟨⟨by simp [hn], .inr ⟨w.heap.size, n, _, rfl, Nat.le_refl _, heap_alloc_new w _, Nat.le_refl _, hm, by simp [hn], ?_⟩⟩, hn⟩
  rw [List.take_of_length_le (by simp [hn])]
theorem rt16 (w : World) (n : Nat) (x : RT) (A : Option Addr) (m c : Nat) : (rT w n x).setCell ⟨n, 16, none⟩ (.slice A m c) = rT w n { x with row := A, nr := m, cr := c } := by unfold rT; rw [rowT_set]; rfl
theorem rT_drewN (w : World) (n : Nat) (x : RT) (q : Nat) : (rT w n x).drewN q = rT (w.drewN q) n x := by unfold rT; rw [rowT_drewN]
def tapR (x : RT) : Nat := if x.r2 < 128 then 1 else 6

set_option maxRecDepth 100000 in
set_option maxHeartbeats 4000000 in
theorem rclock_noi (x : RT) (bs : List Int) (w : World) (hk : x.kind = 3) (h1 : x.tim = 0) (b2 : 0 ≤ x.r2 ∧ x.r2 < 256) (hn : x.nr = 15) (hr : RowR w x.row x.cr bs) (hb : ∀ y ∈ bs, y = 0 ∨ y = 1) :
    Calls Tryd.prog 23 #[rtv x] w fun e w' => ∃ A c, e = .returned (rtv { x with tim := x.per, row := A, nr := 15, cr := c }) ∧ RowR w' A c (bs.drop 1 ++ [(bs.getD 0 0 + bs.getD (tapR x) 0) % 2]) ∧ Below w.heap.size w w' ∧ (∀ g o, A = some ⟨g, o, none⟩ → w.heap.size ≤ g) := by
  obtain ⟨W, hW, hB, hL, hZ⟩ := box2 w x
  obtain ⟨i0, hi, hz0, hz1, hz2⟩ := info_parts Tryd.infoInt
  have m1 := more_cell
  have m2 := more_frozen
  have m3 := more_setCell
  have m4 := more_lt
  obtain ⟨hlen, hcap, g, off, hrow, hg, hat⟩ := hr
  have hBv : Below w.heap.size w (rT W w.heap.size x) := rowT_below hB _ (Nat.le_refl _) _ _
  have k0 : (rT W w.heap.size x).cell? ⟨g, off, none⟩ = some (.int .i64 (bs.getD 0 0)) := (hBv.cell (p := ⟨g, off, none⟩) hg).trans (by
    have := hat 0 (by omega); rw [Nat.add_zero] at this; rw [this]; simp [iv, List.getD, hlen])
  have k1 : (rT W w.heap.size x).cell? ⟨g, off + 1, none⟩ = some (.int .i64 (bs.getD 1 0)) := (hBv.cell (p := ⟨g, off + 1, none⟩) hg).trans (by
    have := hat 1 (by omega); rw [this]; simp [iv, List.getD, hlen])
  have k6 : (rT W w.heap.size x).cell? ⟨g, off + 6, none⟩ = some (.int .i64 (bs.getD 6 0)) := (hBv.cell (p := ⟨g, off + 6, none⟩) hg).trans (by
    have := hat 6 (by omega); rw [this]; simp [iv, List.getD, hlen])
  have bb : ∀ i, i < 15 → bs.getD i 0 = 0 ∨ bs.getD i 0 = 1 := fun i hi => by
    have : bs.getD i 0 = bs[i] := by simp [List.getD, hlen, hi]
    rw [this]; exact hb _ (List.getElem_mem _)
  have hgv : g < (rT W w.heap.size x).heap.size := Nat.lt_of_lt_of_le hg hBv.size
  have R1 : Hid (∀ w', Below w.heap.size w w' → Rd iv w' w'.heap.size (some ⟨g, off + 1, none⟩) 14 (x.cr - 1) (bs.drop 1)) := fun w' hb =>
    ⟨by simp [hlen], by omega, fun j hj => ⟨g, off + 1, rfl, Nat.lt_of_lt_of_le hg hb.size, (hb.cell (p := ⟨g, off + 1 + j, none⟩) hg).trans (by
      have := hat (j + 1) (by simp at hj; omega); rw [show off + (j + 1) = off + 1 + j from by omega] at this; rw [this]; simp [iv, Nat.add_comm])⟩⟩
  have cc1 : ¬ x.cr = 1 := by omega
  have cc2 : 1 ≤ x.cr := by omega
  obtain ⟨K, hK⟩ : ∃ K, (bs.getD 0 0 + bs.getD (tapR x) 0) % 2 = K := ⟨_, rfl⟩
  rw [hK]
  have hb0 := bb 0 (by omega)
  have hb1 := bb 1 (by omega)
  have hb6 := bb 6 (by omega)
  have hKs : Hid (∀ T, T = bs.getD 1 0 ∨ T = bs.getD 6 0 → (tapR x = 1 → T = bs.getD 1 0) → (tapR x = 6 → T = bs.getD 6 0) → (bs.getD 0 0 + T) % 2 = K) := fun T h h1 h6 => by
    rw [← hK]
    unfold tapR at *
    by_cases e : x.r2 < 128
    · rw [if_pos e] at *; rw [h1 rfl]
    · rw [if_neg e] at *; rw [h6 rfl]
  have ht : Hid ((x.r2 < 128 → tapR x = 1) ∧ (128 ≤ x.r2 → tapR x = 6)) := ⟨fun h => by unfold tapR; rw [if_pos h], fun h => by unfold tapR; rw [if_neg (by omega)]⟩
  clear hat hb bb hK hlen
  generalize bs.getD 0 0 = y0 at *
  generalize bs.getD 1 0 = y1 at *
  generalize bs.getD 6 0 = y6 at *
  have hKK : (x.r2 < 128 ∧ (y0 + y1) % 2 = K) ∨ (128 ≤ x.r2 ∧ (y0 + y6) % 2 = K) := by
    rcases (by omega : x.r2 < 128 ∨ 128 ≤ x.r2) with h2 | h2
    · refine .inl ⟨h2, hKs.out y1 (.inl rfl) (fun _ => rfl) (fun e => ?_)⟩
      rw [ht.out.1 h2] at e; exact absurd e (by decide)
    · refine .inr ⟨h2, hKs.out y6 (.inr rfl) (fun e => ?_) (fun _ => rfl)⟩
      rw [ht.out.2 h2] at e; exact absurd e (by decide)
  clear hKs ht
  rcases hKK with ⟨h2, hKe⟩ | ⟨h2, hKe⟩
  all_goals
    go_enter Tryd.func23, Tryd.ntmps23
    first | refine wp_region_lit ?_ | (refine wp_seq ?_; refine wp_region_lit ?_)
    refine wpList_boxTo rfl 29 _ rfl (some 1) rfl w.heap.size rfl x.cells.toArray rfl ?_
    refine wpList_allocTo rfl (some 2) rfl (.pointer (some ⟨(w.alloc (.cells x.cells.toArray 29 (0, 0))).heap.size, 0, none⟩)) (.cells rtZ 29 (0, 0)) (by kernel_rfl) ?_
    rw [show (w.alloc (.cells x.cells.toArray 29 (0, 0))).heap.size = w.heap.size + 1 by simp, hW]
    obtain ⟨c0, c1, c2, c3, c4, c5, c6, c7, c8, c9, c10, c11, c12, c13, c14, c15, c16, fz⟩ := rT_cf W w.heap.size x (by omega)
    have hvl : w.heap.size < (rT W w.heap.size x).heap.size := by unfold rT; rw [rowT_size]; omega
    rw [hrow, hn] at c16
    generalize hv : rT W w.heap.size x = v at *
    clear hW
    go_upto_region 14 with (fail)
    go_quiet (fail)
    subst hv
    rw [rt7, rT_drewN]
    have hB1 : Below w.heap.size w (W.drewN nq) := hB.trans (still_below _ _ _)
    have hL1 : w.heap.size + 1 < (W.drewN nq).heap.size := by simpa using hL
    have hZ1 : (W.drewN nq).heap[w.heap.size + 1]? = some (.cells rtZ 29 (0, 0)) := by
      have : ∀ q, (W.drewN q).heap = W.heap := fun q => by induction q with | zero => rfl | succ q ih => exact ih
      rw [this]; exact hZ
    clear hB hL hZ k0 k1 k6 c0 c1 c2 c3 c4 c5 c6 c7 c8 c9 c10 c11 c12 c13 c14 c15 c16 fz hvl hgv hBv hb0 hb1 hb6
    generalize W.drewN nq = W1 at *
    have hBv : Below w.heap.size w (rT W1 w.heap.size { x with tim := x.per }) := rowT_below hB1 _ (Nat.le_refl _) _ _
    obtain ⟨c0, c1, c2, c3, c4, c5, c6, c7, c8, c9, c10, c11, c12, c13, c14, c15, c16, fz⟩ := rT_cf W1 w.heap.size { x with tim := x.per } (by omega)
    simp only at c0 c1 c2 c3 c4 c5 c6 c7 c8 c9 c10 c11 c12 c13 c14 c15 c16
    have hvl : w.heap.size < (rT W1 w.heap.size { x with tim := x.per }).heap.size := by unfold rT; rw [rowT_size]; omega
    generalize hv : rT W1 w.heap.size { x with tim := x.per } = v at *
    rw [hrow, hn] at c16
    have hwv := hBv.size
    go_upto_region 17 with (first
      | (at_builtin; refine wpList_app _ oneCell_iv rfl (.tmp 56) (.tmp 59) _ rfl _ 3 i0 _ 8 Tryd.underlying27 hi hz0 hz1 hz2 rfl (some ⟨v.heap.size, 0, none⟩) 0 0 [] rfl (Own.fresh v 3 [] #[] 0 _ rfl rfl (by simp [maxLen]) rfl) _ _ 14 (x.cr - 1) (bs.drop 1) rfl (R1.out _ (hBv.alloc hwv _)) (by simp only [maxLen]; omega) (by omega) (by simp) ?_
         intro A3 cc3 w3 ho3 hb3 _
         obtain ⟨os, d, rfl⟩ := more_of (((Below.refl _ _).alloc (Nat.le_refl _) _).trans hb3))
      | (at_builtin; refine wpList_app _ oneCell_iv rfl (.tmp 61) (.tmp 63) _ rfl _ 3 i0 _ 8 Tryd.underlying27 hi hz0 hz1 hz2 rfl _ 14 _ _ rfl (ho3.alloc _) _ _ 1 1 [K] rfl (Rd.one (f := iv) _ 3 K) (by simp only [maxLen]; omega) (by omega) (by refine Nat.le_trans ?_ (Nat.le_of_lt (by simp; exact Nat.lt_succ_self _)); exact (more_self _ _ _).size) ?_
         intro A4 c4' w4 ho4 hb4 _
         obtain ⟨os4, d4, rfl⟩ := more_of (((more_self _ _ _).alloc ((more_self _ _ _).size) _).trans hb4)))
    clear c0 c1 c2 c4 c5 c6 c7 c8 c9 c10 c11 c12 c13 c14 c15 c16 fz hb3 hb4 ho3 hKe m1 m2 m3 m4
    subst hv
    rw [rt16, rT_more W1 w.heap.size _ os4 d4 (by omega)]
    have hsz : (rT W1 w.heap.size { x with tim := x.per }).heap.size = W1.heap.size := by unfold rT; rw [rowT_size]
    have hB2 : Below w.heap.size w (more W1 os4 d4) := more_below hB1 (by omega) _ _
    have hL2 : w.heap.size + 1 < (more W1 os4 d4).heap.size := more_lt _ _ _ _ hL1
    have hZ2 : (more W1 os4 d4).heap[w.heap.size + 1]? = some (.cells rtZ 29 (0, 0)) := by rw [more_heap _ _ _ _ hL1]; exact hZ1
    unfold rT
    first | refine wp_region_lit ?_ | (refine wp_seq ?_; refine wp_region_lit ?_)
    refine wpList_load_row rfl 29 _ rfl w.heap.size rfl 29 _ (0, 0) _ (rowT_at (more W1 os4 d4) w.heap.size 29 _ (by omega)) Tryd.underlying29 rfl (by kernel_rfl) ?_
    refine wpList_store_rowTo rfl 29 _ _ rfl rfl (w.heap.size + 1) _ rfl rfl 29 rtZ ((rowT_far (more W1 os4 d4) w.heap.size 29 _ _ (by omega)).trans hZ2) (by kernel_rfl) rfl (rcells_one _) ?_
    rw [setRow_rowT _ _ _ 29 rtZ ((rowT_far (more W1 os4 d4) w.heap.size 29 _ _ (by omega)).trans hZ2)]
    go_wp2
    refine bodyPost_ret (results_cell_row rfl _ _ (w.heap.size + 1) 29 _ (0, 0) _ rfl (rowT_at _ (w.heap.size + 1) 29 _ (by rw [rowT_size]; exact hL2)) Tryd.underlying29 rfl (by kernel_rfl)) rfl ⟨A4, c4', rfl, ?_, ?_, ?_⟩
    · rw [← rowT_more W1 w.heap.size 29 _ os4 d4 (by omega), ← rowT_more _ (w.heap.size + 1) 29 _ os4 d4 (by rw [rowT_size]; omega)]
      exact Own.rowOver ho4 (by rw [rowT_size, rowT_size]; exact hsz.symm) (Nat.le_refl _) rfl
    · exact rowT_below (rowT_below hB2 _ (Nat.le_refl _) _ _) _ (by omega) _ _
    · intro g2 o2 hA
      have := ho4.lt g2 (by rw [hA]; rfl)
      omega

end Go.Proofs.YtgnafnjhbdefaaaDoor
