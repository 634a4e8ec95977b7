/- The walk of the law ScrollRights. -/
import Derived.Test.YtkmjndmanpanbaaScrA
namespace Go.Proofs.Ytkmjndmanpanbaa
open Go.RowKit

theorem takeS_bad (s : Rs) (g i : Nat) (x : Wm) (hg : g < 4294967296) (hi : i < 4294967296) (h0 : 0 ≤ x.pl) (h1 : x.pl < 4294967296) (hx : rightB (x.side.toNat : Int) x.pl x.data.length = false) : takeS s (recX g i x) = none := by
  obtain ⟨p1, p2, p3, p4, p5, p6⟩ := rec_parts g i x.pl.toNat x.side x.data hg hi (by omega)
  have hl := recC_len g i x.side x.pl.toNat x.data
  have h2 : ((x.pl.toNat : Nat) : Int) = x.pl := by omega
  have hO : ¬ okRec (recC g i x.side x.pl.toNat x.data) = true := by unfold okRec; rw [p5, p3, hl, h2, show x.data.length + 14 - 14 = x.data.length from by omega, hx]; simp
  have hM : ¬ isMark (recC g i x.side x.pl.toNat x.data) = true := by unfold isMark; rw [hl]; simp
  unfold recX takeS
  by_cases hR : isRec (recC g i x.side x.pl.toNat x.data) = true
  · rw [if_pos hR, if_neg hO]
  · rw [if_neg hR, if_neg hM]
theorem readL_bad (g : Nat) (x : Wm) (hg : g < 4294967296) (h0 : 0 ≤ x.pl) (h1 : x.pl < 4294967296) (hl : x.data.length ≤ 6000) (hx : rightB (x.side.toNat : Int) x.pl x.data.length = false) : readL (bytesN g [x]).flatten = .err 2 := by
  have e : (bytesN g [x]).flatten = frameN (recX g 0 x) ++ frameN (markC g 1) := by simp [bytesN, recsN, recF, recX]
  rw [e]
  have hlx : (recX g 0 x).length = x.data.length + 14 := recC_len _ _ _ _ _
  obtain ⟨n1, n2⟩ := next_frame (recX g 0 x) (frameN (markC g 1)) (by omega)
  unfold readL
  rw [readN_succ, if_neg (by rw [List.length_append, frameN_len]; omega), if_neg (by omega), if_neg (by omega), n2, takeS_bad _ _ _ _ hg (by omega) h0 h1 hx]
theorem readL_good (g : Nat) (x : Wm) (hg : g < 4294967296) (hx : okW x) : readL (bytesN g [x]).flatten = .ok [⟨g, [x]⟩] (bytesN g [x]).flatten.length := by
  have := readL_groups [⟨(g : Int), [x]⟩] (by intro y hy; simp at hy; subst hy; exact ⟨by simp, by show (g : Int) < _; omega, by simp, by simp, by intro z hz; simp at hz; subst hz; exact hx⟩)
  rw [show flen (allC [⟨(g : Int), [x]⟩]) = (bytesN g [x]).flatten.length from by unfold flen; rw [allC_one, Int.toNat_natCast], allC_one, Int.toNat_natCast] at this
  exact this

theorem own_zeros {w : World} {base : Nat} {A : Option Addr} {m c : Nat} (h : w.ownsRow base 5 1 (.slice A m c) m (madeCells (Value.int .u8 0).cells (m * 1)).toList) : Own bv w base 5 A m c (List.replicate m 0) := by
  refine ⟨?_, by simp⟩
  have e : (madeCells (Value.int .u8 0).cells (m * 1)).toList = (List.replicate m (0 : UInt8)).map bv := by
    show (madeCells #[.int .u8 0] (m * 1)).toList = _
    rw [toList_madeCells_one, Nat.mul_one, List.map_replicate]
    rfl
  rw [e] at h
  exact h

set_option maxRecDepth 100000 in
set_option maxHeartbeats 4000000 in
theorem scrollRights_walk (s : UInt8) (a : Int) (A : Option Addr) (n c : Nat) (z : Int) (w : World) (ha : 0 ≤ a) (ha2 : a < 4294967296) (hz : 0 ≤ z) (hz2 : z < 65536) :
    Calls Try.prog 8 #[.agg #[.int .u8 (s.toNat : Int), .int .u32 a, .slice A n c], .int .u16 z] w fun e w' => e = .returned (.bool true) ∧ Below w.heap.size w w' := by
  have hs2 := s.toNat_lt
  obtain ⟨i0, hi, hz0, hz1, hzb⟩ := info_parts Try.infoU8
  obtain ⟨m, HM, hm⟩ : ∃ m : Nat, Hid (z % 5000 = (m : Int)) ∧ m ≤ 4999 := ⟨(z % 5000).toNat, by show _ = _; omega, by omega⟩
  have HR2 : Hid (∀ a' : Int, (a' = a ∨ a' = 100000 ∧ ¬ a ≤ 100000) → rightB (s.toNat : Int) a' m = rightB (s.toNat : Int) a m) := by
    intro a' h
    rcases h with rfl | ⟨rfl, h⟩
    · rfl
    · rw [rightB_false (by omega), rightB_false (by omega)]
  cases hR : rightB (s.toNat : Int) a m with
  | false =>
    have HR := Lib.hid hR
    have HP : Hid (readL (bytesN 1 [⟨s, a, List.replicate m 0⟩]).flatten = .err 2) := readL_bad 1 _ (by omega) ha ha2 (by simp; omega) (by show rightB _ _ (List.replicate m (0 : UInt8)).length = false; rw [List.length_replicate]; exact hR)
    clear hR
    go_enter Try.func8, Try.ntmps8
    go_wp2_with fail
    refine (awake3_any _).mono ?_
    rintro e w1 ⟨rfl, hb1⟩
    have hbx : Below (w.heap.size + 1) (w.alloc (.cells #[.int .u8 (s.toNat : Int), .int .u32 a, .slice A n c] 57)) w1 := hb1.mono (by simp)
    have hs1 : w.heap.size + 1 ≤ w1.heap.size := by have := hbx.size; simp at this; omega
    have f1 : w1.frozen? ⟨w.heap.size, 2, none⟩ = false := (hbx.frozen (p := ⟨w.heap.size, 2, none⟩) (by show w.heap.size < _; omega)).trans (frozen_new w _ _ 2)
    clear hb1
    go_wp2_with (at_make
                 refine wpList_make_full _ rfl _ _ 25 rfl w1.heap.size 5 i0 _ 1 Try.underlying25 hi hz0 hz1 .u16 .u16 _ _ m rfl rfl HM.out HM.out (by rw [hzb]; omega) (by simp only [maxLen]; omega) (Nat.le_refl _) ?_
                 intro w2 hown2 hg2
                 have ho2 := own_zeros hown2
                 have hb2 : Below w1.heap.size w1 w2 := (Below.refl _ _).grown hg2 (Nat.le_refl _) (by simp)
                 have by2 := hbx.trans (hb2.mono hs1)
                 have k0 : w2.cell? ⟨w.heap.size, 0, none⟩ = some (.int .u8 (s.toNat : Int)) := box_cell by2 0
                 have k1 : w2.cell? ⟨w.heap.size, 1, none⟩ = some (.int .u32 a) := box_cell by2 1
                 have k2 : w2.cell? ⟨w.heap.size, 2, none⟩ = some (.slice A n c) := box_cell by2 2
                 have f2 : w2.frozen? ⟨w.heap.size, 2, none⟩ = false := (hb2.frozen (p := ⟨w.heap.size, 2, none⟩) (by show w.heap.size < _; omega)).trans f1
                 clear hown2 hg2 f1)
    all_goals
      have hne : ∀ i j, i ≠ j → (⟨w.heap.size, i, none⟩ : Addr) ≠ ⟨w.heap.size, j, none⟩ := fun i j h e => by injection e with e1 e2; exact h e2
      have g0 : (w2.setCell ⟨w.heap.size, 2, none⟩ (.slice (some ⟨w1.heap.size, 0, none⟩) m m)).cell? ⟨w.heap.size, 0, none⟩ = some (.int .u8 (s.toNat : Int)) := by rw [World.cell?_setCell_other _ _ _ _ (hne _ _ (by omega))]; exact k0
      have g1 : (w2.setCell ⟨w.heap.size, 2, none⟩ (.slice (some ⟨w1.heap.size, 0, none⟩) m m)).cell? ⟨w.heap.size, 1, none⟩ = some (.int .u32 a) := by rw [World.cell?_setCell_other _ _ _ _ (hne _ _ (by omega))]; exact k1
      have g2 : (w2.setCell ⟨w.heap.size, 2, none⟩ (.slice (some ⟨w1.heap.size, 0, none⟩) m m)).cell? ⟨w.heap.size, 2, none⟩ = some (.slice (some ⟨w1.heap.size, 0, none⟩) m m) := World.cell?_setCell_same _ _ _ k2
      have rd3 : Rd bv (w2.setCell ⟨w.heap.size, 2, none⟩ (.slice (some ⟨w1.heap.size, 0, none⟩) m m)) w2.heap.size (some ⟨w1.heap.size, 0, none⟩) m m (List.replicate m 0) := ho2.rd.keepB (Below.heap_setCell _ _ _ _ (by show w1.heap.size ≠ w.heap.size; omega))
      have bel3 : Below w.heap.size w (w2.setCell ⟨w.heap.size, 2, none⟩ (.slice (some ⟨w1.heap.size, 0, none⟩) m m)) := (((Below.refl _ _).alloc (Nat.le_refl _) _).trans (by2.mono (by omega))).setCell (Nat.le_refl _) _
      have hs3 : (w2.setCell ⟨w.heap.size, 2, none⟩ (.slice (some ⟨w1.heap.size, 0, none⟩) m m)).heap.size = w2.heap.size := by simp
      have hs2' : w1.heap.size ≤ w2.heap.size := hb2.size
      have HS3 := Lib.hid hs3
      clear k0 k1 k2 f2 hne hs3 ho2 hb2 by2 hbx
      generalize (w2.setCell ⟨w.heap.size, 2, none⟩ (.slice (some ⟨w1.heap.size, 0, none⟩) m m)) = w3 at *
      refine (xright_any _ _ _ m m _ (by omega) (by omega) (by omega) (by omega)).mono ?_
      rintro e w4 ⟨rfl, hb4⟩
      rw [HR2.out _ (by omega)]
      have h3 := HS3.out
      have h4 := hb4.size
      have h24 : w2.heap.size ≤ w4.heap.size := by omega
      have m0 : w4.cell? ⟨w.heap.size, 0, none⟩ = some (.int .u8 (s.toNat : Int)) := (hb4.cell (p := ⟨w.heap.size, 0, none⟩) (by show w.heap.size < _; omega)).trans g0
      have m1 : w4.cell? ⟨w.heap.size, 1, none⟩ = some (.int .u32 a) := (hb4.cell (p := ⟨w.heap.size, 1, none⟩) (by show w.heap.size < _; omega)).trans g1
      have m2 : w4.cell? ⟨w.heap.size, 2, none⟩ = some (.slice (some ⟨w1.heap.size, 0, none⟩) m m) := (hb4.cell (p := ⟨w.heap.size, 2, none⟩) (by show w.heap.size < _; omega)).trans g2
      have rd4 := rd3.belowLe hb4 (by omega)
      have bel4 := bel3.trans (hb4.mono (by omega))
      clear g0 g1 g2 h3
      go_wp2_with fail
      have q5 : RdX (shW .u8 .u32) (w4.alloc (.cells #[.int .u8 (s.toNat : Int), .int .u32 a, .slice (some ⟨w1.heap.size, 0, none⟩) m m] 57)) (· < w4.heap.size + 1) (some ⟨w4.heap.size, 0, none⟩) 1 1 [⟨s, a, List.replicate m 0⟩] :=
        RdX.one _ _ _ _ _ _ ⟨s, a, some ⟨w1.heap.size, 0, none⟩, m, m⟩ _ _ rfl rfl ⟨rfl, rfl, (rd4.alloc (by omega) _).rdp.keep (Kp.refl _ _) (fun b h => by omega)⟩ (by omega)
      refine (bytes_any 1 _ 1 1 _ _ _ q5 (fun b h => by simp; omega) (by omega) (by omega) (by omega) (by
        intro x hx; simp at hx; subst hx; exact ⟨ha, ha2, by simp; omega⟩)).mono ?_
      rintro e w5 ⟨A5, n5, c5, rfl, r5, hb5⟩
      have h5 : w4.heap.size + 1 ≤ w5.heap.size := by have := hb5.size; simp at this; omega
      have bel5 : Below w.heap.size w w5 := (bel4.alloc (by have := bel4.size; omega) _).trans (hb5.mono (by simp; omega))
      have n0 : w5.cell? ⟨w.heap.size, 0, none⟩ = some (.int .u8 (s.toNat : Int)) := ((hb5.cell (p := ⟨w.heap.size, 0, none⟩) (by show w.heap.size < _; simp; omega)).trans (World.cell?_alloc_lt w4 _ _ (by show w.heap.size < _; omega))).trans m0
      have n1 : w5.cell? ⟨w.heap.size, 1, none⟩ = some (.int .u32 a) := ((hb5.cell (p := ⟨w.heap.size, 1, none⟩) (by show w.heap.size < _; simp; omega)).trans (World.cell?_alloc_lt w4 _ _ (by show w.heap.size < _; omega))).trans m1
      have n2 : w5.cell? ⟨w.heap.size, 2, none⟩ = some (.slice (some ⟨w1.heap.size, 0, none⟩) m m) := ((hb5.cell (p := ⟨w.heap.size, 2, none⟩) (by show w.heap.size < _; simp; omega)).trans (World.cell?_alloc_lt w4 _ _ (by show w.heap.size < _; omega))).trans m2
      clear m0 m1 m2 hb5 q5 rd4 rd3
      have hl5 : n5 = 2 := by have := r5.len; simpa [bytesN, recsN] using this.symm
      subst hl5
      rw [show (1 : Int).toNat = 1 from rfl] at r5
      have hfl : (bytesN 1 [⟨s, a, List.replicate m 0⟩]).flatten.length = m + 39 := by simp [bytesN, recsN, recF, frameN_len, recC_len, markC_len]
      generalize hG : (bytesN 1 [⟨s, a, List.replicate m 0⟩]).flatten = P at *
      have JX := join_x A5 2 c5 _ _ w5 r5 (fun b h => h.2) (by omega) (by rw [hG]; omega)
      rw [hG] at JX
      clear hG r5
      go_wp2_with fail
      refine JX.mono ?_
      rintro e w6 ⟨A6, n6, c6, rfl, r6, hb6⟩
      have h6 := hb6.size
      have hl6 : n6 ≤ 6000 := by have := r6.len; omega
      have RD := read_any A6 n6 c6 w6.heap.size _ w6 r6.rd (Nat.le_refl _) (by omega)
      rw [HP.out] at RD
      clear hfl
      go_wp2_with fail
      refine RD.mono ?_
      rintro e w7 ⟨rfl, hb7⟩
      have h7 := hb7.size
      have bel7 := (hb6.trans (hb7.mono h6))
      have p0 : w7.cell? ⟨w.heap.size, 0, none⟩ = some (.int .u8 (s.toNat : Int)) := (bel7.cell (p := ⟨w.heap.size, 0, none⟩) (by show w.heap.size < _; omega)).trans n0
      have p1 : w7.cell? ⟨w.heap.size, 1, none⟩ = some (.int .u32 a) := (bel7.cell (p := ⟨w.heap.size, 1, none⟩) (by show w.heap.size < _; omega)).trans n1
      have p2 : w7.cell? ⟨w.heap.size, 2, none⟩ = some (.slice (some ⟨w1.heap.size, 0, none⟩) m m) := (bel7.cell (p := ⟨w.heap.size, 2, none⟩) (by show w.heap.size < _; omega)).trans n2
      rw [HR.out]
      go_wp2_with fail
      refine (wright_any _ a _ m m _ (by omega) (by omega) ha ha2 (by omega)).mono ?_
      rintro e w8 ⟨rfl, hb8⟩
      rw [HR.out]
      go_wp2
      go_ret
      exact ⟨rfl, (bel5.trans (bel7.mono (by have := bel5.size; exact this))).trans (hb8.mono (by have := bel5.size; omega))⟩

  | true =>
    have HR := Lib.hid hR
    have HP : Hid (readL (bytesN 1 [⟨s, a, List.replicate m 0⟩]).flatten = .ok [⟨(1 : Nat), [⟨s, a, List.replicate m 0⟩]⟩] (bytesN 1 [⟨s, a, List.replicate m 0⟩]).flatten.length) := readL_good 1 _ (by omega) ⟨by show rightB _ _ (List.replicate m (0 : UInt8)).length = true; rw [List.length_replicate]; exact hR, ha⟩
    clear hR
    go_enter Try.func8, Try.ntmps8
    go_wp2_with fail
    refine (awake3_any _).mono ?_
    rintro e w1 ⟨rfl, hb1⟩
    have hbx : Below (w.heap.size + 1) (w.alloc (.cells #[.int .u8 (s.toNat : Int), .int .u32 a, .slice A n c] 57)) w1 := hb1.mono (by simp)
    have hs1 : w.heap.size + 1 ≤ w1.heap.size := by have := hbx.size; simp at this; omega
    have f1 : w1.frozen? ⟨w.heap.size, 2, none⟩ = false := (hbx.frozen (p := ⟨w.heap.size, 2, none⟩) (by show w.heap.size < _; omega)).trans (frozen_new w _ _ 2)
    clear hb1
    go_wp2_with (at_make
                 refine wpList_make_full _ rfl _ _ 25 rfl w1.heap.size 5 i0 _ 1 Try.underlying25 hi hz0 hz1 .u16 .u16 _ _ m rfl rfl HM.out HM.out (by rw [hzb]; omega) (by simp only [maxLen]; omega) (Nat.le_refl _) ?_
                 intro w2 hown2 hg2
                 have ho2 := own_zeros hown2
                 have hb2 : Below w1.heap.size w1 w2 := (Below.refl _ _).grown hg2 (Nat.le_refl _) (by simp)
                 have by2 := hbx.trans (hb2.mono hs1)
                 have k0 : w2.cell? ⟨w.heap.size, 0, none⟩ = some (.int .u8 (s.toNat : Int)) := box_cell by2 0
                 have k1 : w2.cell? ⟨w.heap.size, 1, none⟩ = some (.int .u32 a) := box_cell by2 1
                 have k2 : w2.cell? ⟨w.heap.size, 2, none⟩ = some (.slice A n c) := box_cell by2 2
                 have f2 : w2.frozen? ⟨w.heap.size, 2, none⟩ = false := (hb2.frozen (p := ⟨w.heap.size, 2, none⟩) (by show w.heap.size < _; omega)).trans f1
                 clear hown2 hg2 f1)
    all_goals
      have hne : ∀ i j, i ≠ j → (⟨w.heap.size, i, none⟩ : Addr) ≠ ⟨w.heap.size, j, none⟩ := fun i j h e => by injection e with e1 e2; exact h e2
      have g0 : (w2.setCell ⟨w.heap.size, 2, none⟩ (.slice (some ⟨w1.heap.size, 0, none⟩) m m)).cell? ⟨w.heap.size, 0, none⟩ = some (.int .u8 (s.toNat : Int)) := by rw [World.cell?_setCell_other _ _ _ _ (hne _ _ (by omega))]; exact k0
      have g1 : (w2.setCell ⟨w.heap.size, 2, none⟩ (.slice (some ⟨w1.heap.size, 0, none⟩) m m)).cell? ⟨w.heap.size, 1, none⟩ = some (.int .u32 a) := by rw [World.cell?_setCell_other _ _ _ _ (hne _ _ (by omega))]; exact k1
      have g2 : (w2.setCell ⟨w.heap.size, 2, none⟩ (.slice (some ⟨w1.heap.size, 0, none⟩) m m)).cell? ⟨w.heap.size, 2, none⟩ = some (.slice (some ⟨w1.heap.size, 0, none⟩) m m) := World.cell?_setCell_same _ _ _ k2
      have rd3 : Rd bv (w2.setCell ⟨w.heap.size, 2, none⟩ (.slice (some ⟨w1.heap.size, 0, none⟩) m m)) w2.heap.size (some ⟨w1.heap.size, 0, none⟩) m m (List.replicate m 0) := ho2.rd.keepB (Below.heap_setCell _ _ _ _ (by show w1.heap.size ≠ w.heap.size; omega))
      have bel3 : Below w.heap.size w (w2.setCell ⟨w.heap.size, 2, none⟩ (.slice (some ⟨w1.heap.size, 0, none⟩) m m)) := (((Below.refl _ _).alloc (Nat.le_refl _) _).trans (by2.mono (by omega))).setCell (Nat.le_refl _) _
      have hs3 : (w2.setCell ⟨w.heap.size, 2, none⟩ (.slice (some ⟨w1.heap.size, 0, none⟩) m m)).heap.size = w2.heap.size := by simp
      have hs2' : w1.heap.size ≤ w2.heap.size := hb2.size
      have HS3 := Lib.hid hs3
      clear k0 k1 k2 f2 hne hs3 ho2 hb2 by2 hbx
      generalize (w2.setCell ⟨w.heap.size, 2, none⟩ (.slice (some ⟨w1.heap.size, 0, none⟩) m m)) = w3 at *
      refine (xright_any _ _ _ m m _ (by omega) (by omega) (by omega) (by omega)).mono ?_
      rintro e w4 ⟨rfl, hb4⟩
      rw [HR2.out _ (by omega)]
      have h3 := HS3.out
      have h4 := hb4.size
      have h24 : w2.heap.size ≤ w4.heap.size := by omega
      have m0 : w4.cell? ⟨w.heap.size, 0, none⟩ = some (.int .u8 (s.toNat : Int)) := (hb4.cell (p := ⟨w.heap.size, 0, none⟩) (by show w.heap.size < _; omega)).trans g0
      have m1 : w4.cell? ⟨w.heap.size, 1, none⟩ = some (.int .u32 a) := (hb4.cell (p := ⟨w.heap.size, 1, none⟩) (by show w.heap.size < _; omega)).trans g1
      have m2 : w4.cell? ⟨w.heap.size, 2, none⟩ = some (.slice (some ⟨w1.heap.size, 0, none⟩) m m) := (hb4.cell (p := ⟨w.heap.size, 2, none⟩) (by show w.heap.size < _; omega)).trans g2
      have rd4 := rd3.belowLe hb4 (by omega)
      have bel4 := bel3.trans (hb4.mono (by omega))
      clear g0 g1 g2 h3
      go_wp2_with fail
      have q5 : RdX (shW .u8 .u32) (w4.alloc (.cells #[.int .u8 (s.toNat : Int), .int .u32 a, .slice (some ⟨w1.heap.size, 0, none⟩) m m] 57)) (· < w4.heap.size + 1) (some ⟨w4.heap.size, 0, none⟩) 1 1 [⟨s, a, List.replicate m 0⟩] :=
        RdX.one _ _ _ _ _ _ ⟨s, a, some ⟨w1.heap.size, 0, none⟩, m, m⟩ _ _ rfl rfl ⟨rfl, rfl, (rd4.alloc (by omega) _).rdp.keep (Kp.refl _ _) (fun b h => by omega)⟩ (by omega)
      refine (bytes_any 1 _ 1 1 _ _ _ q5 (fun b h => by simp; omega) (by omega) (by omega) (by omega) (by
        intro x hx; simp at hx; subst hx; exact ⟨ha, ha2, by simp; omega⟩)).mono ?_
      rintro e w5 ⟨A5, n5, c5, rfl, r5, hb5⟩
      have h5 : w4.heap.size + 1 ≤ w5.heap.size := by have := hb5.size; simp at this; omega
      have bel5 : Below w.heap.size w w5 := (bel4.alloc (by have := bel4.size; omega) _).trans (hb5.mono (by simp; omega))
      have n0 : w5.cell? ⟨w.heap.size, 0, none⟩ = some (.int .u8 (s.toNat : Int)) := ((hb5.cell (p := ⟨w.heap.size, 0, none⟩) (by show w.heap.size < _; simp; omega)).trans (World.cell?_alloc_lt w4 _ _ (by show w.heap.size < _; omega))).trans m0
      have n1 : w5.cell? ⟨w.heap.size, 1, none⟩ = some (.int .u32 a) := ((hb5.cell (p := ⟨w.heap.size, 1, none⟩) (by show w.heap.size < _; simp; omega)).trans (World.cell?_alloc_lt w4 _ _ (by show w.heap.size < _; omega))).trans m1
      have n2 : w5.cell? ⟨w.heap.size, 2, none⟩ = some (.slice (some ⟨w1.heap.size, 0, none⟩) m m) := ((hb5.cell (p := ⟨w.heap.size, 2, none⟩) (by show w.heap.size < _; simp; omega)).trans (World.cell?_alloc_lt w4 _ _ (by show w.heap.size < _; omega))).trans m2
      clear m0 m1 m2 hb5 q5 rd4 rd3
      have hl5 : n5 = 2 := by have := r5.len; simpa [bytesN, recsN] using this.symm
      subst hl5
      rw [show (1 : Int).toNat = 1 from rfl] at r5
      have hfl : (bytesN 1 [⟨s, a, List.replicate m 0⟩]).flatten.length = m + 39 := by simp [bytesN, recsN, recF, frameN_len, recC_len, markC_len]
      generalize hG : (bytesN 1 [⟨s, a, List.replicate m 0⟩]).flatten = P at *
      have JX := join_x A5 2 c5 _ _ w5 r5 (fun b h => h.2) (by omega) (by rw [hG]; omega)
      rw [hG] at JX
      clear hG r5
      go_wp2_with fail
      refine JX.mono ?_
      rintro e w6 ⟨A6, n6, c6, rfl, r6, hb6⟩
      have h6 := hb6.size
      have hl6 : n6 ≤ 6000 := by have := r6.len; omega
      have RD := read_any A6 n6 c6 w6.heap.size _ w6 r6.rd (Nat.le_refl _) (by omega)
      rw [HP.out] at RD
      clear hfl
      go_wp2_with fail
      refine RD.mono ?_
      rintro e w7 ⟨A7, n7, c7, rfl, r7, hb7⟩
      obtain rfl : n7 = 1 := by have := r7.len; simpa using this.symm
      have h7 := hb7.size
      have bel7 := (hb6.trans (hb7.mono h6))
      have p0 : w7.cell? ⟨w.heap.size, 0, none⟩ = some (.int .u8 (s.toNat : Int)) := (bel7.cell (p := ⟨w.heap.size, 0, none⟩) (by show w.heap.size < _; omega)).trans n0
      have p1 : w7.cell? ⟨w.heap.size, 1, none⟩ = some (.int .u32 a) := (bel7.cell (p := ⟨w.heap.size, 1, none⟩) (by show w.heap.size < _; omega)).trans n1
      have p2 : w7.cell? ⟨w.heap.size, 2, none⟩ = some (.slice (some ⟨w1.heap.size, 0, none⟩) m m) := (bel7.cell (p := ⟨w.heap.size, 2, none⟩) (by show w.heap.size < _; omega)).trans n2
      rw [HR.out]
      go_wp2_with fail
      refine (wright_any _ a _ m m _ (by omega) (by omega) ha ha2 (by omega)).mono ?_
      rintro e w8 ⟨rfl, hb8⟩
      rw [HR.out]
      go_wp2
      go_ret
      exact ⟨rfl, (bel5.trans (bel7.mono (by have := bel5.size; exact this))).trans (hb8.mono (by have := bel5.size; omega))⟩


end Go.Proofs.Ytkmjndmanpanbaa
