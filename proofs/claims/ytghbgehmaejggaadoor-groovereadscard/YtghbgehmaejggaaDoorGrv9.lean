/- Package groove: first. No law is claimed here. -/
import Derived.Test.YtghbgehmaejggaaDoorGrv8
namespace Go.Proofs.YtghbgehmaejggaaDoor
open Go.RowKit

/-- a head that is not the wanted one -/
def badHead (xs : List UInt8) (q s : Nat) : Prop := xs.length < s + 4 ∨ xs.getD 0 0 ≠ 128 ∨ (xs.getD 1 0).toNat ≠ q
/-- its sum is right -/
def goodSum (xs : List UInt8) (s : Nat) : Prop := shortN (xs.take (s + 2)) = pairN (xs.getD (s + 2) 0) (xs.getD (s + 3) 0)
def noB (e : Int) : Value := .tuple #[.agg #[.int .u8 0, .slice none 0 0], .int .i64 e]

set_option maxRecDepth 100000 in
set_option maxHeartbeats 1000000 in
theorem first_form (A : Option Addr) (n c B q s : Nat) (xs : List UInt8) (w : World) (hr : Rd bv w B A n c xs) (hB : B ≤ w.heap.size) (hn : n ≤ 1099511627776) (hs : s < 65536) (hbad : badHead xs q s) :
    Calls Tryd.prog 20 #[.slice A n c, .int .u8 (q : Int), .int .i64 (s : Int)] w fun e w' => e = .returned (noB 2) ∧ Below w.heap.size w w' := by
  have hl := hr.len
  have HB : Below w.heap.size w (w.alloc (.cells #[.int .u8 0, .slice none 0 0] 48)) := (Below.refl _ _).alloc (Nat.le_refl _) _
  unfold noB
  by_cases h1 : n < s + 4
  · have t1 : (n : Int) < 2 + (s : Int) + 2 := by omega
    clear hl
    go_enter Tryd.func20, Tryd.ntmps20
    go_wp2
    refine bodyPost_ret (by simp [results, Tryd.results20, go_sem, *] <;> (repeat' (first | exact rfl | refine And.intro ?_ ?_))) rfl ⟨rfl, ?_⟩
    exact HB
  · have t1 : ¬ ((n : Int) < 2 + (s : Int) + 2) := by omega
    obtain ⟨b, off, rfl⟩ := hr.some_of (by omega)
    have hc0 := rd_cell hr 0 (by omega)
    have hc1 := rd_cell hr 1 (by omega)
    have g0 : xs.getD 0 0 = xs[0]'(by omega) := getD_get _ _ _ (by omega)
    have g1 : xs.getD 1 0 = xs[1]'(by omega) := getD_get _ _ _ (by omega)
    unfold badHead at hbad
    rw [g0, g1] at hbad
    generalize xs[0]'(by omega) = x0 at *
    generalize xs[1]'(by omega) = x1 at *
    obtain ⟨hbB, hc0⟩ := hc0
    obtain ⟨_, hc1⟩ := hc1
    simp only [Nat.add_zero] at hc0
    unfold bv at hc0 hc1
    have hbw : b < w.heap.size := Nat.lt_of_lt_of_le hbB hB
    have t2 : (0 : Int) < n := by omega
    have t3 : (1 : Int) < n := by omega
    have t4 : 0 < n := by omega
    have t5 : 1 < n := by omega
    by_cases h2 : x0 = 128
    · subst h2
      have e1 : (((128 : UInt8).toNat : Int)) = 128 := rfl
      rw [e1] at hc0
      have h3 : x1.toNat ≠ q := by
        rcases hbad with h | h | h
        · omega
        · exact absurd rfl h
        · exact h
      have t6 : ¬ ((x1.toNat : Int) = (q : Int)) := by omega
      have t7 : ((x1.toNat : Int) != (q : Int)) = true := by rw [bne_iff_ne]; exact t6
      clear hl hbad g0 g1 h3
      go_enter Tryd.func20, Tryd.ntmps20
      go_wp2
      refine bodyPost_ret (by simp [results, Tryd.results20, go_sem, *] <;> (repeat' (first | exact rfl | refine And.intro ?_ ?_))) rfl ⟨rfl, ?_⟩
      exact HB
    · have t6 : ¬ ((x0.toNat : Int) = 128) := fun e => h2 (UInt8.toNat_inj.1 (by have h : x0.toNat = 128 := (by omega); rw [h]; rfl))
      have t7 : ((x0.toNat : Int) != 128) = true := by rw [bne_iff_ne]; exact t6
      clear hl hbad g0 g1
      go_enter Tryd.func20, Tryd.ntmps20
      go_wp2
      refine bodyPost_ret (by simp [results, Tryd.results20, go_sem, *] <;> (repeat' (first | exact rfl | refine And.intro ?_ ?_))) rfl ⟨rfl, ?_⟩
      exact HB

set_option maxRecDepth 100000 in
set_option maxHeartbeats 1000000 in
theorem first_sum (A : Option Addr) (n c B q s : Nat) (xs : List UInt8) (w : World) (hr : Rd bv w B A n c xs) (hB : B ≤ w.heap.size) (hn : n ≤ 1099511627776) (hs : s < 65536) (hok : ¬ badHead xs q s) (hsum : ¬ goodSum xs s) :
    Calls Tryd.prog 20 #[.slice A n c, .int .u8 (q : Int), .int .i64 (s : Int)] w fun e w' => e = .returned (noB 3) ∧ Below w.heap.size w w' := by
  have hl := hr.len
  have hng : ¬ (xs.length < s + 4) ∧ xs.getD 0 0 = 128 ∧ (xs.getD 1 0).toNat = q := by
    unfold badHead at hok
    exact ⟨fun h => hok (Or.inl h), Classical.byContradiction fun h => hok (Or.inr (Or.inl h)), Classical.byContradiction fun h => hok (Or.inr (Or.inr h))⟩
  obtain ⟨h1, h2, h3⟩ := hng
  have hcap := hr.cap
  obtain ⟨b, off, rfl⟩ := hr.some_of (by omega)
  have hc0 := rd_cell hr 0 (by omega)
  have hc1 := rd_cell hr 1 (by omega)
  rw [getD_get _ _ _ (by omega)] at h2 h3
  rw [h2] at hc0
  generalize xs[1]'(by omega) = x1 at *
  obtain ⟨hbB, hc0⟩ := hc0
  obtain ⟨_, hc1⟩ := hc1
  simp only [Nat.add_zero] at hc0
  unfold bv at hc0 hc1
  have e1 : (((128 : UInt8).toNat : Int)) = 128 := rfl
  rw [e1] at hc0
  rw [h3] at hc1
  have hbw : b < w.heap.size := Nat.lt_of_lt_of_le hbB hB
  have t1 : ¬ ((n : Int) < 2 + (s : Int) + 2) := by omega
  have t2 : (0 : Int) < n := by omega
  have t3 : (1 : Int) < n := by omega
  have t4 : 0 < n := by omega
  have t5 : 1 < n := by omega
  have t6 : (2 : Int) + s ≤ c := by omega
  have t7 : 2 + s ≤ c := by omega
  have t8 : (2 : Int) + s ≤ n := by omega
  have t9 : 2 + s ≤ n := by omega
  have u1 : ((2 : Int) + s).toNat = 2 + s := by omega
  have u2 : ¬ c = 2 + s := by omega
  have u3 : (0 : Int) ≤ 2 + s := by omega
  have u4 : IntKind.i64.wrap ((2 : Int) + s) = 2 + s := IntWalk.i64_in _ (by omega)
  have hA : ∀ o : Obj, Rd bv (w.alloc o) B (some ⟨b, off, none⟩) n c xs := fun o => hr.alloc hB o
  have r1 : ∀ o : Obj, Rd bv (w.alloc o) B (some ⟨b, off, none⟩) (2 + s) c (xs.take (2 + s)) := fun o => (hA o).take (2 + s) (by omega)
  have r2 : ∀ o : Obj, Rd bv (w.alloc o) B (some ⟨b, off + (2 + s), none⟩) (n - (2 + s)) (c - (2 + s)) (xs.drop (2 + s)) := fun o => (hA o).drop (2 + s) (by omega)
  have hdx : xs.drop (2 + s) = xs.getD (s + 2) 0 :: xs.getD (s + 3) 0 :: xs.drop (s + 4) := by
    rw [List.drop_eq_getElem_cons (by omega), List.drop_eq_getElem_cons (by omega), getD_get _ _ _ (by omega), getD_get _ _ _ (by omega)]
    simp only [show 2 + s = s + 2 from by omega]
  rw [hdx] at r2
  unfold goodSum at hsum
  rw [show s + 2 = 2 + s from by omega] at hsum
  rw [show s + 2 = 2 + s from by omega] at r2
  generalize xs.getD (2 + s) 0 = y0 at *
  generalize xs.getD (s + 3) 0 = y1 at *
  have FS : ∀ (o : Obj) (k : Nat), Calls Tryd.prog 28 #[.slice (some ⟨b, off, none⟩) (2 + s) c] ((w.alloc o).drewN k) fun e w'' => e = .returned (.int .u16 (shortN (xs.take (2 + s)) : Int)) ∧ ∃ m, w'' = (w.alloc o).drewN m := fun o k => quiet_eq (sshort_any _ _ _ _ _ _ ((r1 o).drewN k) (by omega))
  have FQ : ∀ (o : Obj) (k : Nat), Calls Tryd.prog 37 #[.slice (some ⟨b, off + (2 + s), none⟩) (n - (2 + s)) (c - (2 + s))] ((w.alloc o).drewN k) fun e w'' => e = .returned (.int .u16 (pairN y0 y1 : Int)) ∧ ∃ m, w'' = (w.alloc o).drewN m := fun o k => quiet_still (pair_any _ _ _ _ _ _ _ _ _ ((r2 o).drewN k) (by omega))
  generalize shortN (xs.take (2 + s)) = S1 at *
  generalize pairN y0 y1 = S2 at *
  have v1 : ((S1 : Int) != (S2 : Int)) = true := by rw [bne_iff_ne]; omega
  have v2 : ¬ ((S1 : Int) = (S2 : Int)) := by omega
  have HB : Below w.heap.size w (w.alloc (.cells #[.int .u8 0, .slice none 0 0] 48)) := (Below.refl _ _).alloc (Nat.le_refl _) _
  clear r1 r2 hA hsum hl h1 h2 h3 hdx
  unfold noB
  have m5 := setCell_drewN
  go_enter Tryd.func20, Tryd.ntmps20
  go_upto_region 4 with (fail)
  go_quiet (first | (go_at_call 28; exact FS _ _) | (go_at_call 37; exact FQ _ _))
  go_wp2
  refine bodyPost_ret (by simp [results, Tryd.results20, go_sem, *] <;> (repeat' (first | exact rfl | refine And.intro ?_ ?_))) rfl ⟨rfl, ?_⟩
  exact HB.trans (still_below _ _ _)

theorem Own.moreOver {α : Type} {f : α → Value} {w v : World} {base n c : Nat} {e : TypeId} {A : Option Addr} {xs : List α} {os : List Obj} {d : Nat} (h : Own f (more w os d) base e A n c xs) (hs : v.heap.size = w.heap.size) (hb : w.heap.size ≤ base) : Own f (more v os d) base e A n c xs := by
  refine ⟨⟨h.own.1, ?_⟩, h.len⟩
  rcases h.own.2 with h1 | ⟨g, cap, cur, hv, hg, hc, r⟩
  · exact Or.inl h1
  · refine Or.inr ⟨g, cap, cur, hv, hg, ?_, r⟩
    have e1 : (more v os d).heap[g]? = (more w os d).heap[g]? := by
      show (os.foldl World.alloc v).heap[g]? = (os.foldl World.alloc w).heap[g]?
      rw [fold_heap, fold_heap, Array.getElem?_append_right (by omega), Array.getElem?_append_right (by omega), hs]
    exact e1.trans hc

set_option maxRecDepth 100000 in
set_option maxHeartbeats 1000000 in
theorem first_ok (A : Option Addr) (n c B q s : Nat) (xs : List UInt8) (w : World) (hr : Rd bv w B A n c xs) (hB : B ≤ w.heap.size) (hn : n ≤ 1099511627776) (hs : s < 65536) (hok : ¬ badHead xs q s) (hsum : goodSum xs s) :
    Calls Tryd.prog 20 #[.slice A n c, .int .u8 (q : Int), .int .i64 (s : Int)] w fun e w' => ∃ A' n' c', e = .returned (.tuple #[.agg #[.int .u8 (q : Int), .slice A' n' c'], .int .i64 0]) ∧ Own bv w' w.heap.size 5 A' n' c' ((xs.drop 2).take s) ∧ Below w.heap.size w w' := by
  have hl := hr.len
  have hng : ¬ (xs.length < s + 4) ∧ xs.getD 0 0 = 128 ∧ (xs.getD 1 0).toNat = q := by
    unfold badHead at hok
    exact ⟨fun h => hok (Or.inl h), Classical.byContradiction fun h => hok (Or.inr (Or.inl h)), Classical.byContradiction fun h => hok (Or.inr (Or.inr h))⟩
  obtain ⟨h1, h2, h3⟩ := hng
  have hcap := hr.cap
  obtain ⟨b, off, rfl⟩ := hr.some_of (by omega)
  have hc0 := rd_cell hr 0 (by omega)
  have hc1 := rd_cell hr 1 (by omega)
  rw [getD_get _ _ _ (by omega)] at h2 h3
  rw [h2] at hc0
  generalize xs[1]'(by omega) = x1 at *
  obtain ⟨hbB, hc0⟩ := hc0
  obtain ⟨_, hc1⟩ := hc1
  simp only [Nat.add_zero] at hc0
  unfold bv at hc0 hc1
  have e1 : (((128 : UInt8).toNat : Int)) = 128 := rfl
  rw [e1] at hc0
  rw [h3] at hc1
  have hbw : b < w.heap.size := Nat.lt_of_lt_of_le hbB hB
  have t1 : ¬ ((n : Int) < 2 + (s : Int) + 2) := by omega
  have t2 : (0 : Int) < n := by omega
  have t3 : (1 : Int) < n := by omega
  have t4 : 0 < n := by omega
  have t5 : 1 < n := by omega
  have t6 : (2 : Int) + s ≤ c := by omega
  have t7 : 2 + s ≤ c := by omega
  have t8 : (2 : Int) + s ≤ n := by omega
  have t9 : 2 + s ≤ n := by omega
  have u1 : ((2 : Int) + s).toNat = 2 + s := by omega
  have u2 : ¬ c = 2 + s := by omega
  have u3 : (0 : Int) ≤ 2 + s := by omega
  have u4 : IntKind.i64.wrap ((2 : Int) + s) = 2 + s := IntWalk.i64_in _ (by omega)
  have hA : ∀ o : Obj, Rd bv (w.alloc o) B (some ⟨b, off, none⟩) n c xs := fun o => hr.alloc hB o
  have r1 : ∀ o : Obj, Rd bv (w.alloc o) B (some ⟨b, off, none⟩) (2 + s) c (xs.take (2 + s)) := fun o => (hA o).take (2 + s) (by omega)
  have r2 : ∀ o : Obj, Rd bv (w.alloc o) B (some ⟨b, off + (2 + s), none⟩) (n - (2 + s)) (c - (2 + s)) (xs.drop (2 + s)) := fun o => (hA o).drop (2 + s) (by omega)
  have hdx : xs.drop (2 + s) = xs.getD (s + 2) 0 :: xs.getD (s + 3) 0 :: xs.drop (s + 4) := by
    rw [List.drop_eq_getElem_cons (by omega), List.drop_eq_getElem_cons (by omega), getD_get _ _ _ (by omega), getD_get _ _ _ (by omega)]
    simp only [show 2 + s = s + 2 from by omega]
  rw [hdx] at r2
  unfold goodSum at hsum
  rw [show s + 2 = 2 + s from by omega] at hsum
  rw [show s + 2 = 2 + s from by omega] at r2
  generalize xs.getD (2 + s) 0 = y0 at *
  generalize xs.getD (s + 3) 0 = y1 at *
  have FS : ∀ (o : Obj) (k : Nat), Calls Tryd.prog 28 #[.slice (some ⟨b, off, none⟩) (2 + s) c] ((w.alloc o).drewN k) fun e w'' => e = .returned (.int .u16 (shortN (xs.take (2 + s)) : Int)) ∧ ∃ m, w'' = (w.alloc o).drewN m := fun o k => quiet_eq (sshort_any _ _ _ _ _ _ ((r1 o).drewN k) (by omega))
  have FQ : ∀ (o : Obj) (k : Nat), Calls Tryd.prog 37 #[.slice (some ⟨b, off + (2 + s), none⟩) (n - (2 + s)) (c - (2 + s))] ((w.alloc o).drewN k) fun e w'' => e = .returned (.int .u16 (pairN y0 y1 : Int)) ∧ ∃ m, w'' = (w.alloc o).drewN m := fun o k => quiet_still (pair_any _ _ _ _ _ _ _ _ _ ((r2 o).drewN k) (by omega))
  generalize shortN (xs.take (2 + s)) = S1 at *
  generalize pairN y0 y1 = S2 at *
  have v1 : ((S1 : Int) != (S2 : Int)) = false := by rw [bne_eq_false_iff_eq]; omega
  have v2 : (S1 : Int) = (S2 : Int) := by omega
  have u5 : (2 : Int) ≤ 2 + s := by omega
  have u6 : ¬ c = 2 := by omega
  have u7 : 2 ≤ c := by omega
  have u8 : (2 : Int) ≤ c := by omega
  have u9 : 2 + s - 2 = s := by omega
  have FC : ∀ (o : Obj) (k : Nat), Calls Tryd.prog 29 #[.slice (some ⟨b, off + 2, none⟩) s (c - 2)] ((w.alloc o).drewN k) (RetL bv 5 ((w.alloc o).drewN k) ((xs.drop 2).take s)) := fun o k => clone_any _ _ _ B _ _ ((((hA o).drop 2 (by omega)).take s (by omega)).drewN k) (by simp; omega) (by omega)
  clear r1 r2 hA hsum hl h1 h2 h3 hdx
  have m1 := more_cell
  have m2 := more_frozen
  have m3 := more_setCell
  have m4 := more_lt
  have m5 := setCell_drewN
  go_enter Tryd.func20, Tryd.ntmps20
  go_upto_region 4 with (fail)
  go_quiet (first | (go_at_call 28; exact FS _ _) | (go_at_call 37; exact FQ _ _))
  go_wp2_with (go_at_call 29; refine (FC _ _).mono ?_; rintro e w' ⟨A2, n2, c2, rfl, ho, hbl⟩; obtain ⟨os, d, rfl⟩ := more_of hbl)
  refine bodyPost_ret (by simp [results, Tryd.results20, go_sem, *] <;> (repeat' (first | exact rfl | refine And.intro ?_ ?_))) rfl ⟨A2, n2, c2, rfl, ?_⟩
  exact ⟨(ho.moreOver (by simp) (Nat.le_refl _)).lower (by simp), more_below (((Below.refl _ _).alloc (Nat.le_refl _) _).trans (still_below _ _ _)) (by simp) _ _⟩

end Go.Proofs.YtghbgehmaejggaaDoor
