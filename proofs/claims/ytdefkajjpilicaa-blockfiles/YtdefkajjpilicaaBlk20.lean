/- The walk of BlockFiles. No law is claimed here. -/
import Derived.Test.YtdefkajjpilicaaBlk18
import Derived.Test.YtdefkajjpilicaaMoreQ
import Derived.Lib.ConvBytes
namespace Go.Proofs.Ytdefkajjpilicaa
open Go.RowKit

/-- the law's file in its box -/
def BoxF (w : World) (fb : Nat) (number id kind : UInt8) (nm : ByteArray) (ad : Int) (A : Option Addr) (n c : Nat) : Prop :=
  Has w fb 0 (.int .u8 (number.toNat : Int)) ∧ Has w fb 1 (.int .u8 (id.toNat : Int)) ∧ Has w fb 2 (.int .u8 (kind.toNat : Int)) ∧ Has w fb 3 (.string nm) ∧ Has w fb 4 (.int .u16 ad) ∧ Has w fb 5 (.slice A n c)
theorem BoxF.below {w w' : World} {fb : Nat} {number id kind : UInt8} {nm : ByteArray} {ad : Int} {A : Option Addr} {n c : Nat} (h : BoxF w fb number id kind nm ad A n c) (hb : Below w.heap.size w w') : BoxF w' fb number id kind nm ad A n c :=
  ⟨h.1.below hb, h.2.1.below hb, h.2.2.1.below hb, h.2.2.2.1.below hb, h.2.2.2.2.1.below hb, h.2.2.2.2.2.below hb⟩

theorem frozen_new (w : World) (cs : Array Value) (e : TypeId) (i : Nat) : (w.alloc (.cells cs e)).frozen? ⟨w.heap.size, i, none⟩ = false := by
  have h := heap_alloc_new w (.cells cs e)
  unfold World.frozen?
  simp only
  rw [h]
  simp
theorem box_set {w : World} {fb : Nat} {number id kind : UInt8} {nm : ByteArray} {ad : Int} {A : Option Addr} {n c : Nat} (h : BoxF w fb number id kind nm ad A n c) (s : ByteArray) (A3 : Option Addr) (n3 c3 : Nat) (os : List Obj) (d : Nat) :
    BoxF (more ((w.setCell ⟨fb, 3, none⟩ (.string s)).setCell ⟨fb, 5, none⟩ (.slice A3 n3 c3)) os d) fb number id kind s ad A3 n3 c3 := by
  have lt : fb < ((w.setCell ⟨fb, 3, none⟩ (.string s)).setCell ⟨fb, 5, none⟩ (.slice A3 n3 c3)).heap.size := by simpa using h.1.1
  obtain ⟨⟨_, c0⟩, ⟨_, c1⟩, ⟨_, c2⟩, ⟨_, c3'⟩, ⟨_, c4⟩, ⟨_, c5⟩⟩ := h
  have ne : ∀ i j : Nat, i ≠ j → (⟨fb, i, none⟩ : Addr) ≠ ⟨fb, j, none⟩ := fun i j hij e => hij (by injection e)
  have k : ∀ (i : Nat) (v : Value), i ≠ 3 → i ≠ 5 → w.cell? ⟨fb, i, none⟩ = some v → Has (more ((w.setCell ⟨fb, 3, none⟩ (.string s)).setCell ⟨fb, 5, none⟩ (.slice A3 n3 c3)) os d) fb i v := fun i v h3 h5 hc =>
    ⟨more_lt _ _ _ _ lt, (more_cell _ _ _ _ lt).trans ((World.cell?_setCell_other _ _ _ _ (ne 5 i (Ne.symm h5))).trans ((World.cell?_setCell_other _ _ _ _ (ne 3 i (Ne.symm h3))).trans hc))⟩
  refine ⟨k 0 _ (by omega) (by omega) c0, k 1 _ (by omega) (by omega) c1, k 2 _ (by omega) (by omega) c2, ⟨more_lt _ _ _ _ lt, (more_cell _ _ _ _ lt).trans ?_⟩, k 4 _ (by omega) (by omega) c4, ⟨more_lt _ _ _ _ lt, (more_cell _ _ _ _ lt).trans ?_⟩⟩
  · exact (World.cell?_setCell_other _ _ _ _ (ne 5 3 (by omega))).trans (World.cell?_setCell_same _ _ _ c3')
  · exact World.cell?_setCell_same (u := .slice A n c) _ _ _ ((World.cell?_setCell_other _ _ _ _ (ne 3 5 (by omega))).trans c5)
theorem below_bytes (w : World) (e : TypeId) (s : ByteArray) : Below w.heap.size w (Lib.bytesWorld w e s) :=
  ⟨rfl, rfl, rfl, by rw [Lib.bytesWorld_size]; omega, fun j hj => Lib.bytesWorld_at_old w e s j hj⟩
theorem RdE.bytesNew {w : World} {e : TypeId} {s : ByteArray} {g : Nat} (hg : g = w.heap.size) : RdE bv (Lib.bytesWorld w e s) (some ⟨g, 0, none⟩) s.size (grownCap w s.size 0 e) (strN s) := by
  subst hg
  refine ⟨strN_len s, grownCap_ge _ _ _ _, fun j hj => ⟨_, 0, rfl, by rw [Lib.bytesWorld_size]; omega, ?_⟩⟩
  rw [strN_len] at hj
  rw [Nat.zero_add, Lib.bytesWorld_cell w e s j hj]
  unfold bv strN
  rw [List.getD_eq_getElem?_getD, List.getElem?_eq_getElem (by simpa using hj)]
  rfl
theorem RdE.bytesOld {α : Type} {f : α → Value} {w : World} {e : TypeId} {s : ByteArray} {A : Option Addr} {n c : Nat} {xs : List α} (h : RdE f w A n c xs) : RdE f (Lib.bytesWorld w e s) A n c xs := h.below (below_bytes w e s)
theorem BlE.bytes {w w1 : World} {e : TypeId} {s : ByteArray} (h : BlE w w1) : BlE w (Lib.bytesWorld w1 e s) := h.below (below_bytes w1 e s)
theorem Has.bytes {w : World} {b i : Nat} {v : Value} {e : TypeId} {s : ByteArray} (h : Has w b i v) : Has (Lib.bytesWorld w e s) b i v := h.below (below_bytes w e s)
theorem RdE.zeros {w : World} {e : TypeId} {g m : Nat} (hg : g = w.heap.size) : RdE bv (w.alloc (.cells (zerosC m) e)) (some ⟨g, 0, none⟩) m m (List.replicate m 0) := RdE.made rfl hg (by simp)
theorem RdE.svTwo {w : World} {e : TypeId} {fr : Nat × Nat} {A A2 : Option Addr} {n c n2 c2 g : Nat} (hg : g = w.heap.size) : RdE sv (w.alloc (.cells #[.slice A n c, .slice A2 n2 c2] e fr)) (some ⟨g, 0, none⟩) 2 2 [(A, n, c), (A2, n2, c2)] := RdE.made (f := sv) rfl hg rfl
theorem join_pair (w : World) (g : Nat) (A1 A2 : Option Addr) (n1 c1 n2 c2 : Nat) (xs ys : List UInt8) (hr : RdE sv w (some ⟨g, 0, none⟩) 2 2 [(A1, n1, c1), (A2, n2, c2)]) (h1 : RdE bv w A1 n1 c1 xs) (h2 : RdE bv w A2 n2 c2 ys) (ht : n1 + n2 ≤ 1099511627776) :
    Calls Try.prog 16 #[.slice (some ⟨g, 0, none⟩) 2 2] w (RetL bv 5 w (xs ++ ys)) := by
  have := join_any _ 2 2 w.heap.size [(A1, n1, c1), (A2, n2, c2)] [xs, ys] w hr ⟨rfl, fun j s ys hs hy => by
      match j, hs, hy with
      | 0, hs, hy => simp at hs hy; subst hs; subst hy; exact h1
      | 1, hs, hy => simp at hs hy; subst hs; subst hy; exact h2⟩ (Nat.le_refl _) (by omega) (by simp [Rd.len h1, Rd.len h2]; omega)
  simpa using this
theorem join_now (w : World) (g : Nat) (e : TypeId) (A1 A2 : Option Addr) (n1 c1 n2 c2 : Nat) (xs ys : List UInt8) (hg : g = w.heap.size) (h1 : RdE bv w A1 n1 c1 xs) (h2 : RdE bv w A2 n2 c2 ys) (ht : n1 + n2 ≤ 1099511627776) :
    Calls Try.prog 16 #[.slice (some ⟨g, 0, none⟩) 2 2] (w.alloc (.cells #[.slice A1 n1 c1, .slice A2 n2 c2] e)) (RetL bv 5 (w.alloc (.cells #[.slice A1 n1 c1, .slice A2 n2 c2] e)) (xs ++ ys)) :=
  join_pair _ g A1 A2 n1 c1 n2 c2 xs ys (RdE.svTwo hg) (RdE.alloc h1) (RdE.alloc h2) ht
theorem cutE (A : Option Addr) (n c : Nat) (xs : List UInt8) (m : Int) (w : World) (hr : RdE bv w A n c xs) (hn : n ≤ 9223372036854775807) (h0 : 0 ≤ m) (hm : m ≤ 65536) :
    Calls Try.prog 17 #[.slice A n c, .int .i64 m] w (RetL bv 5 w (xs.take m.toNat)) := cut_any A n c w.heap.size xs m w hr (Nat.le_refl _) hn h0 hm
theorem RdE.cellAt {w : World} {b off n c j : Nat} {xs : List UInt8} {x : UInt8} (h : RdE bv w (some ⟨b, off, none⟩) n c xs) (hj : xs[j]? = some x) : w.cell? ⟨b, off + j, none⟩ = some (.int .u8 (x.toNat : Int)) := by
  obtain ⟨hlt, he⟩ := List.getElem_of_getElem? hj
  have := (rd_cell h j hlt).2
  rw [he] at this
  exact this
theorem RdE.at {w : World} {A : Option Addr} {n c : Nat} {xs : List UInt8} (h : RdE bv w A n c xs) (hn : 0 < n) : ∃ b off, A = some ⟨b, off, none⟩ := Rd.some_of h hn
theorem Own.moreRd {α : Type} {f : α → Value} {v w : World} {base n c : Nat} {e : TypeId} {A : Option Addr} {xs : List α} {os : List Obj} {d : Nat} (h : Own f (more w os d) base e A n c xs) (hs : v.heap.size = w.heap.size) (hb : w.heap.size ≤ base) : RdE f (more v os d) A n c xs := by
  have hk : Kp (fun b => base ≤ b ∧ b < (more w os d).heap.size) (more w os d) (more v os d) := fun b hb' => by
    show (os.foldl World.alloc v).heap[b]? = (os.foldl World.alloc w).heap[b]?
    rw [fold_heap, fold_heap, Array.getElem?_append_right (by have := hb'.1; omega), Array.getElem?_append_right (by have := hb'.1; omega), hs]
  have h2 := h.rdp.keep (S' := (· < (more v os d).heap.size)) hk (fun b hb' => by rw [more_size hs]; exact hb'.2)
  exact h2.rd (fun b hb' => hb')

theorem has_of {w : World} {b i : Nat} {v : Value} (h : w.cell? ⟨b, i, none⟩ = some v) : Has w b i v := by
  refine ⟨?_, h⟩
  rcases Nat.lt_or_ge b w.heap.size with hb | hb
  · exact hb
  · exfalso
    unfold World.cell? at h
    simp only [Array.getElem?_eq_none hb] at h
    cases h

set_option maxRecDepth 100000 in
set_option maxHeartbeats 8000000 in
theorem blockFiles_w (number id kind : UInt8) (name : ByteArray) (ad : Int) (A : Option Addr) (n c : Nat) (xs : List UInt8) (sign : ByteArray) (side : UInt8) (w : World)
    (hr : Rd bv w w.heap.size A n c xs) (hn : n ≤ 9223372036854775807) (hnm : name.size ≤ 9223372036854775807) (hsg : sign.size ≤ 9223372036854775807) (ha0 : 0 ≤ ad) (ha1 : ad < 65536) :
    Calls Try.prog 6 #[.agg #[.int .u8 (number.toNat : Int), .int .u8 (id.toNat : Int), .int .u8 (kind.toNat : Int), .string name, .int .u16 ad, .slice A n c], .string sign, .int .u8 (side.toNat : Int)] w fun e w' => e = .returned (.bool true) ∧ Below w.heap.size w w' := by
  go_enter Try.func6, Try.ntmps6
  go_wp2_with fail
  refine (awake5_any _).mono ?_
  rintro e w1 ⟨rfl, x1⟩
  have b1 : BlE w w1 := BlE.below (BlE.alloc (BlE.refl w)) x1
  obtain ⟨fb, hfb⟩ : ∃ fb, fb = w.heap.size := ⟨_, rfl⟩
  have B1 : BoxF w1 fb number id kind name ad A n c := by
    subst hfb
    refine BoxF.below (w := w.alloc _) ?_ x1
    exact ⟨Has.made rfl rfl, Has.made rfl rfl, Has.made rfl rfl, Has.made rfl rfl, Has.made rfl rfl, Has.made rfl rfl⟩
  rw [← hfb]
  obtain ⟨⟨u0, c0⟩, ⟨_, c1⟩, ⟨_, c2⟩, ⟨_, c3'⟩, ⟨_, c4⟩, ⟨_, c5⟩⟩ := B1
  have hfzA : ∀ i, w1.frozen? ⟨fb, i, none⟩ = false := fun i => by rw [hfb]; exact (x1.frozen (p := ⟨w.heap.size, i, none⟩) (by simp)).trans (frozen_new w _ _ i)
  have hfz := hfzA 3
  have hfz5 := hfzA 5
  have r1 : RdE bv w1 A n c xs := RdE.of (hr.belowLe b1 (Nat.le_refl _)) (BlE.sz b1)
  have hfl : w.heap.size ≤ fb := by omega
  have FT1 := fun (v : World) => text_any name v hnm
  have FT2 := fun (v : World) => text_any sign v hsg
  have FC := fun (v : World) (h : RdE bv v A n c xs) => cut_any A n c v.heap.size xs 300 v h (Nat.le_refl _) hn (by omega) (by omega)
  clear hfb x1
  have m1 := more_cell
  have m2 := more_frozen
  have m3 := more_setCell
  have m4 := more_lt
  go_upto_region 3 with fail
  go_cut [1] (fun v wx => ∃ (sg nm : ByteArray) (A3 : Option Addr) (n3 c3 : Nat), v = .string sg ∧ strN sg = (strN sign).take 20 ∧ strN nm = (strN name).take 20 ∧ BoxF wx fb number id kind nm ad A3 n3 c3 ∧ RdE bv wx A3 n3 c3 (xs.take 300) ∧ BlE w wx)
  case first =>
    as_aux_lemma =>
      go_region_law (first
        | (go_simp; go_at_call_of 25 (Value.string name); refine (FT1 _).mono ?_; rintro e w' ⟨⟨s1, rfl, hs1⟩, hq⟩; rw [← hq]; clear hq w')
        | (go_simp; go_at_call_of 25 (Value.string sign); refine (FT2 _).mono ?_; rintro e w' ⟨⟨s2, rfl, hs2⟩, hq⟩; rw [← hq]; clear hq w')
        | (go_simp; go_at_call 17; refine (FC _ ?_).mono ?_; (focus ((repeat (with_reducible first | exact r1 | refine RdE.drew ?_ | refine RdE.alloc ?_)); done)); rintro e w3 ⟨A3, n3, c3, rfl, o3, x3⟩; obtain ⟨os, d, rfl⟩ := more_of x3; (try rw [more_drew])))
      all_goals
        go_wp2
        go_meet
        case rel =>
          refine ⟨s2, s1, A3, n3, c3, rfl, hs2, hs1, ?_, ?_, ?_⟩
          · exact box_set ⟨⟨u0, c0⟩, ⟨u0, c1⟩, ⟨u0, c2⟩, ⟨u0, c3'⟩, ⟨u0, c4⟩, ⟨u0, c5⟩⟩ _ _ _ _ _ _
          · exact Own.moreRd o3 (by simp) (by simp)
          · exact more_below (Below.setCell (Below.setCell b1 hfl _) hfl _) (by simpa using BlE.sz b1) _ _
  case rest =>
    clear c0 c1 c2 c3' c4 c5 hfzA hfz hfz5 r1 FT1 FT2 FC m1 m2 m3 m4 b1 u0
    obtain ⟨sg, nm, A3, n3, c3, rfl, hsg2, hnm2, B3, r3, b3⟩ := hcut
    have hn3 : n3 ≤ 300 := by have := Rd.len r3; rw [List.length_take] at this; omega
    have FF := file_E number id kind nm _ hnm2 ad A3 n3 c3 _ _ r3 (by omega) ha0 ha1
    have hdl : (xs.take 300).length = n3 := Rd.len r3
    generalize xs.take 300 = d3 at *
    obtain ⟨⟨u0, c0⟩, ⟨_, c1⟩, ⟨_, c2⟩, ⟨_, c3'⟩, ⟨_, c4⟩, ⟨_, c5⟩⟩ := B3
    go_upto_region 5 with (go_at_call 26; refine FF.mono ?_; rintro e w4 ⟨A4, n4, c4', rfl, r4, x4⟩)
    have B4 : BoxF w4 fb number id kind nm ad A3 n3 c3 := BoxF.below ⟨⟨u0, c0⟩, ⟨u0, c1⟩, ⟨u0, c2⟩, ⟨u0, c3'⟩, ⟨u0, c4⟩, ⟨u0, c5⟩⟩ x4
    have r34 := RdE.below r3 x4
    have b4 := BlE.below b3 x4
    have s4 : RdX shB w4 (· < w4.heap.size) A4 n4 c4' _ := r4.keep (Kp.refl _ _) (fun b h => h.2)
    obtain ⟨F, hF⟩ : ∃ F, F = fileN number id ((strN name).take 20) ad.toNat kind d3 := ⟨_, rfl⟩
    rw [← hF] at s4
    have hFl : F.length = 2 := by rw [hF]; rfl
    have hFd : ∀ x ∈ F, x.data.length ≤ 100000 := fun x hx => by
      rw [hF] at hx
      unfold fileN at hx
      simp at hx
      rcases hx with rfl | rfl
      · simp [headN_len]
      · simp; omega
    obtain rfl : n4 = 2 := by rw [← s4.len, hFl]
    clear c0 c1 c2 c3' c4 c5 u0 FF r4 x4 b3 r3
    have hm : ∀ g, g = w4.heap.size → RdX shBL (w4.alloc (.cells #[.slice A4 2 c4', .slice A4 2 c4'] 26)) (· < (w4.alloc (.cells #[.slice A4 2 c4', .slice A4 2 c4'] 26)).heap.size) (some ⟨g, 0, none⟩) 2 2 [F, F] := fun g hg =>
      RdX.madeX shBL w4 26 (0, 0) _ [(A4, 2, c4'), (A4, 2, c4')] [F, F] g 2 _ rfl hg rfl rfl (by subst hg; simp) (fun j r x hr' hx => by
        have hk := s4.keep (Kp.below ((Below.refl _ _).alloc (Nat.le_refl _) (.cells #[.slice A4 2 c4', .slice A4 2 c4'] 26)) (fun b h => h)) (S' := (· < (w4.alloc (.cells #[.slice A4 2 c4', .slice A4 2 c4'] 26)).heap.size)) (fun b h => by simp; omega)
        match j, hr', hx with
        | 0, hr', hx => simp at hr' hx; subst hr'; subst hx; exact hk
        | 1, hr', hx => simp at hr' hx; subst hr'; subst hx; exact hk)
    go_wp2_with fail
    refine (disk_any sg side _ 2 2 _ [F, F] _ (hm _ (by simp)) (fun b h => h) (by omega) (by simp [hFl]) (fun x hx => hFd x (by simpa using hx))).mono ?_
    rintro e w5 ⟨A5, n5, c5', rfl, r5, x5⟩
    have x5' : Below w4.heap.size w4 w5 := ((Below.refl _ _).alloc (Nat.le_refl _) _).trans (x5.mono (by simp))
    have hDl : (diskN (strN sg) side [F, F]).length = 6 := by unfold diskN; simp [hFl]
    obtain rfl : n5 = 6 := by rw [← r5.len, hDl]
    have B5 := BoxF.below B4 x5'
    have r35 := RdE.below r34 x5'
    have b5 := BlE.below b4 x5'
    have s5 := s4.keep (Kp.below x5' (fun b h => h)) (S' := (· < w5.heap.size)) (fun b h => Nat.lt_of_lt_of_le h x5'.size)
    clear hm s4 B4 r34 b4 x5 x5' hDl
    have hmk : ∀ v, (Instr.makeSlice 24 (.int .i64 65536) (.int .i64 65536)).run Try.prog v = .ok (.slice (some ⟨v.heap.size, 0, none⟩) 65536 65536) (v.alloc (.cells (zerosC 65536) 5)) := Try.mkN .i64 65536 (by omega)
    obtain ⟨bl, ol, Ah, nh, ch, rfl, hbl, k0, k1, rh⟩ := rdB_at s5 0 (by omega)
    obtain ⟨bl', ol', Ad, nd, cd, e', _, k2, k3, rd⟩ := rdB_at s5 1 (by omega)
    obtain ⟨rfl, rfl⟩ : bl = bl' ∧ ol = ol' := by injection e' with e'; injection e' with h1 h2; exact ⟨h1, h2⟩
    obtain ⟨bd, od, As, ns, cs, rfl, hbd, q0, q1, rs⟩ := rdB_at r5 0 (by unfold diskN; simp)
    obtain ⟨bd', od', Am, nm2, cm, e2, _, q2, q3, rm⟩ := rdB_at r5 1 (by unfold diskN; simp)
    obtain ⟨rfl, rfl⟩ : bd = bd' ∧ od = od' := by injection e2 with e2; injection e2 with h1 h2; exact ⟨h1, h2⟩
    have v0 : w5.cell? ⟨bl, ol, none⟩ = some (.int .u8 3) := by subst hF; exact k0
    have v1 : w5.cell? ⟨bl, ol + 1, none⟩ = some (.slice Ah nh ch) := k1
    have v2 : w5.cell? ⟨bl, ol + 2, none⟩ = some (.int .u8 4) := by subst hF; exact k2
    have v3 : w5.cell? ⟨bl, ol + 3, none⟩ = some (.slice Ad nd cd) := k3
    have v4 : w5.cell? ⟨bd, od + 1, none⟩ = some (.slice As ns cs) := q1
    have v5 : w5.cell? ⟨bd, od + 3, none⟩ = some (.slice Am nm2 cm) := q3
    have v3' : w5.cell? ⟨bl, ol + 2 + 1, none⟩ = some (.slice Ad nd cd) := k3
    have RH : RdE bv w5 Ah nh ch (headN number id ((strN name).take 20) ad.toNat kind d3.length) := by subst hF; exact rh.rd (fun b h => h)
    have RD : RdE bv w5 Ad nd cd d3 := by subst hF; exact rd.rd (fun b h => h)
    have RS : RdE bv w5 As ns cs (dheadN (strN sg) side) := rs.rd (fun b h => h)
    have RM : RdE bv w5 Am nm2 cm [2] := rm.rd (fun b h => h)
    clear k0 k1 k2 k3 q0 q1 q2 q3 rh rd rs rm e' e2
    go_upto_region 8 with (go_at_call 26; refine (file_big 1 2 4 _ 3 _ 65536 65536 _ (by omega)).mono ?_; rintro e w' ⟨rfl, rfl⟩)
    go_upto_region 9 with fail
    obtain ⟨w6, hw6⟩ : ∃ w6, w6 = w5.alloc (.cells (zerosC 65536) 5) := ⟨_, rfl⟩
    have x6 : Below w5.heap.size w5 w6 := by rw [hw6]; exact (Below.refl _ _).alloc (Nat.le_refl _) _
    rw [← hw6]
    have B6 := BoxF.below B5 x6
    have b6 := BlE.below b5 x6
    have r36 := RdE.below r35 x6
    have RH6 := RdE.below RH x6
    have RD6 := RdE.below RD x6
    have RS6 := RdE.below RS x6
    have RM6 := RdE.below RM x6
    have s6 := s5.keep (Kp.below x6 (fun b h => h)) (S' := (· < w6.heap.size)) (fun b h => Nat.lt_of_lt_of_le h x6.size)
    have r6 := r5.keep (Kp.below x6 (fun b h => h)) (S' := (· < w6.heap.size)) (fun b h => Nat.lt_of_lt_of_le h x6.size)
    have e1 : Has w6 bl (ol + 3) (.slice Ad nd cd) := Has.below ⟨hbl, v3⟩ x6
    have e2 : Has w6 bd (od + 1) (.slice As ns cs) := Has.below ⟨hbd, v4⟩ x6
    have e3 : Has w6 bd (od + 3) (.slice Am nm2 cm) := Has.below ⟨hbd, v5⟩ x6
    have B63 := B6.2.2.2.1
    have B63c := B63.cell
    have B63l := B63.1
    have hnl : nm.size ≤ 20 := by have h := congrArg List.length hnm2; rw [strN_len, List.length_take] at h; omega
    have hsl : sg.size ≤ 20 := by have h := congrArg List.length hsg2; rw [strN_len, List.length_take] at h; omega
    clear hw6 x6 B5 b5 r35 RH RD RS RM s5 r5 v0 v1 v2 v3 v4 v5 v3' hbl hbd hmk
    go_cut [10] (fun v wx => ∃ (A6 : Option Addr) (c6 : Nat), v = .slice A6 8 c6 ∧ RdE bv wx A6 8 c6 (padN 8 (strN nm)) ∧ BlE w6 wx)
    case first =>
      as_aux_lemma =>
        have hcv : ∀ v, (convert 9 24 (.string nm)).run Try.prog v = .ok (.slice (some ⟨v.heap.size, 0, none⟩) nm.size (grownCap v nm.size 0 5)) (Lib.bytesWorld v 5 nm) := fun v => Lib.run_convert_string_bytes v 9 24 5 nm Try.underlying9 Try.underlying24 Try.underlying5
        have hmk : ∀ v, (Instr.makeSlice 24 (.int .i64 8) (.int .i64 8)).run Try.prog v = .ok (.slice (some ⟨v.heap.size, 0, none⟩) 8 8) (v.alloc (.cells (zerosC 8) 5)) := Try.mkN .i64 8 (by omega)
        go_region_law
          (first
          | (go_simp; go_at_call 17; (refine (cutE _ _ _ (strN nm) 8 _ ?_ ?_ ?_ ?_).mono ?_); (focus ((repeat (with_reducible first | (refine RdE.bytesNew ?_; (first | rfl | (simp; done))) | refine RdE.drew ?_ | refine RdE.alloc ?_ | refine RdE.bytesOld ?_)); done)); (focus omega); (focus omega); (focus omega); (rintro e wC ⟨AC, nC, cC, rfl, oC, hbC⟩); (have hlC := oC.len); (have rC := RdE.own oC))
          | (go_simp; go_at_call 16; (refine (join_now _ _ _ _ _ _ _ _ _ ((strN nm).take (8 : Int).toNat) (List.replicate 8 0) ?_ ?_ ?_ ?_).mono ?_); (focus (first | rfl | (simp; done))); (focus ((repeat (with_reducible first | exact rC | refine RdE.drew ?_ | refine RdE.alloc ?_)); done)); (focus ((repeat (with_reducible first | (refine RdE.zeros ?_; (first | rfl | (simp; done))) | refine RdE.drew ?_ | refine RdE.alloc ?_ | refine RdE.bytesOld ?_ | refine RdE.below ?_ hbC)); done)); (focus (rw [List.length_take] at hlC; omega)); (rintro e wJ ⟨AJ, nJ, cJ, rfl, oJ, hbJ⟩); (have rJ := RdE.own oJ); (have hlJ := Rd.len rJ); (have hcJ := Rd.cap rJ); (rw [List.length_append, List.length_replicate] at hlJ); (have hJ1 : 8 ≤ cJ := by omega); (have hJ2 : (8 : Int) ≤ cJ := by omega); (have hJ3 : ¬ (cJ = 0) := by omega); (obtain ⟨gJ, rfl⟩ := oJ.zero (by omega))))
        all_goals
          go_wp2
          go_meet
          case rel =>
            refine ⟨_, _, rfl, show RdE bv wJ _ 8 cJ _ from Rd.take rJ 8 (by omega), ?_⟩
            (repeat (with_reducible first | exact BlE.refl _ | refine BlE.drew ?_ | refine BlE.alloc ?_ | refine BlE.bytes ?_ | refine BlE.below ?_ hbJ | refine BlE.below ?_ hbC))
    case rest =>
      obtain ⟨AN, cN, rfl, rN, x7⟩ := hcut
      obtain ⟨w7, hw7⟩ : ∃ w7, w7 = wc := ⟨_, rfl⟩
      rw [← hw7] at rN x7 ⊢
      clear hw7
      have x7' : Below w6.heap.size w6 w7 := x7
      go_upto_region 10 with fail
      go_cut [11] (fun v wx => ∃ (A6 : Option Addr) (c6 : Nat), v = .slice A6 14 c6 ∧ RdE bv wx A6 14 c6 (padN 14 (strN sg)) ∧ BlE w7 wx)
      case first =>
        as_aux_lemma =>
          have hcv : ∀ v, (convert 9 24 (.string sg)).run Try.prog v = .ok (.slice (some ⟨v.heap.size, 0, none⟩) sg.size (grownCap v sg.size 0 5)) (Lib.bytesWorld v 5 sg) := fun v => Lib.run_convert_string_bytes v 9 24 5 sg Try.underlying9 Try.underlying24 Try.underlying5
          have hmk : ∀ v, (Instr.makeSlice 24 (.int .i64 14) (.int .i64 14)).run Try.prog v = .ok (.slice (some ⟨v.heap.size, 0, none⟩) 14 14) (v.alloc (.cells (zerosC 14) 5)) := Try.mkN .i64 14 (by omega)
          go_region_law
            (first
            | (go_simp; go_at_call 17; (refine (cutE _ _ _ (strN sg) 14 _ ?_ ?_ ?_ ?_).mono ?_); (focus ((repeat (with_reducible first | (refine RdE.bytesNew ?_; (first | rfl | (simp; done))) | refine RdE.drew ?_ | refine RdE.alloc ?_ | refine RdE.bytesOld ?_)); done)); (focus omega); (focus omega); (focus omega); (rintro e wC ⟨AC, nC, cC, rfl, oC, hbC⟩); (have hlC := oC.len); (have rC := RdE.own oC))
            | (go_simp; go_at_call 16; (refine (join_now _ _ _ _ _ _ _ _ _ ((strN sg).take (14 : Int).toNat) (List.replicate 14 0) ?_ ?_ ?_ ?_).mono ?_); (focus (first | rfl | (simp; done))); (focus ((repeat (with_reducible first | exact rC | refine RdE.drew ?_ | refine RdE.alloc ?_)); done)); (focus ((repeat (with_reducible first | (refine RdE.zeros ?_; (first | rfl | (simp; done))) | refine RdE.drew ?_ | refine RdE.alloc ?_ | refine RdE.bytesOld ?_ | refine RdE.below ?_ hbC)); done)); (focus (rw [List.length_take] at hlC; omega)); (rintro e wJ ⟨AJ, nJ, cJ, rfl, oJ, hbJ⟩); (have rJ := RdE.own oJ); (have hlJ := Rd.len rJ); (have hcJ := Rd.cap rJ); (rw [List.length_append, List.length_replicate] at hlJ); (have hJ1 : 14 ≤ cJ := by omega); (have hJ2 : (14 : Int) ≤ cJ := by omega); (have hJ3 : ¬ (cJ = 0) := by omega); (obtain ⟨gJ, rfl⟩ := oJ.zero (by omega))))
          all_goals
            go_wp2
            go_meet
            case rel =>
              refine ⟨_, _, rfl, show RdE bv wJ _ 14 cJ _ from Rd.take rJ 14 (by omega), ?_⟩
              (repeat (with_reducible first | exact BlE.refl _ | refine BlE.drew ?_ | refine BlE.alloc ?_ | refine BlE.bytes ?_ | refine BlE.below ?_ hbJ | refine BlE.below ?_ hbC))
      case rest =>
        obtain ⟨AG, cG, rfl, rG, x8⟩ := hcut
        obtain ⟨w8, hw8⟩ : ∃ w8, w8 = wc := ⟨_, rfl⟩
        rw [← hw8] at rG x8 ⊢
        clear hw8
        have x68 : Below w6.heap.size w6 w8 := BlE.below x7 x8
        have B8 := BoxF.below B6 x68
        have b8 := BlE.below b6 x68
        have r38 := RdE.below r36 x68
        have RH8 := RdE.below RH6 x68
        have RD8 := RdE.below RD6 x68
        have RS8 := RdE.below RS6 x68
        have RM8 := RdE.below RM6 x68
        have rN8 := RdE.below rN x8
        have s8 := s6.keep (Kp.below x68 (fun b h => h)) (S' := (· < w8.heap.size)) (fun b h => Nat.lt_of_lt_of_le h x68.size)
        have r8 := r6.keep (Kp.below x68 (fun b h => h)) (S' := (· < w8.heap.size)) (fun b h => Nat.lt_of_lt_of_le h x68.size)
        have y1 := (Has.below e1 x68).cell
        have y2 := (Has.below e2 x68).cell
        have y3 := (Has.below e3 x68).cell
        clear B6 b6 r36 RH6 RD6 RS6 RM6 rN s6 r6 e1 e2 e3 x68 x7 x7' x8 B63 B63c B63l
        have hHl := Rd.len RH8
        rw [headN_len] at hHl
        subst hHl
        have hHc := Rd.cap RH8
        obtain ⟨bh, oh, rfl⟩ := RdE.at RH8 (by omega)
        have z0 := RdE.cellAt RH8 (head_0 _ _ _ _ _ _)
        have z1 := RdE.cellAt RH8 (head_1 _ _ _ _ _ _)
        have z10 := RdE.cellAt RH8 (head_10 _ _ _ _ _ _)
        have z11 := RdE.cellAt RH8 (head_11 _ _ _ _ _ _)
        have z12 := RdE.cellAt RH8 (head_12 _ _ _ _ _ _)
        have z13 := RdE.cellAt RH8 (head_13 _ _ _ _ _ _)
        have z14 := RdE.cellAt RH8 (head_14 _ _ _ _ _ _)
        have zN : RdE bv w8 (some ⟨bh, oh + 2, none⟩) 8 (ch - 2) (padN 8 (strN nm)) := by
          have h := (Rd.drop RH8 2 (by omega)).take 8 (by omega)
          rw [head_name, ← hnm2] at h; exact h
        have hDl2 := Rd.len RS8
        rw [dheadN_len] at hDl2
        subst hDl2
        have hSc := Rd.cap RS8
        obtain ⟨bs, os, rfl⟩ := RdE.at RS8 (by omega)
        have z20 := RdE.cellAt RS8 (dhead_20 _ _)
        have zS : RdE bv w8 (some ⟨bs, os, none⟩) 14 cs (padN 14 (strN sg)) := by
          have h := Rd.take RS8 14 (by omega)
          rw [dhead_sign] at h; exact h
        have hMl := Rd.len RM8
        simp only [List.length_singleton] at hMl
        subst hMl
        have hMc := Rd.cap RM8
        obtain ⟨bm, om, rfl⟩ := RdE.at RM8 (by omega)
        have zM : w8.cell? ⟨bm, om, none⟩ = some (.int .u8 2) := RdE.cellAt RM8 (j := 0) (x := 2) rfl
        have zF : RdX shB w8 (· < w8.heap.size) (some ⟨bd, od + 2 * 2, none⟩) 2 (c5' - 2) F := by
          have h := (RdX.drop r8 2 (by omega)).take 2 (by omega)
          have e : ((diskN (strN sg) side [F, F]).drop 2).take 2 = F := by
            unfold diskN
            simp only [List.cons_append, List.nil_append, List.drop_succ_cons, List.drop_zero, List.flatten_cons, List.flatten_nil, List.append_nil]
            rw [List.take_left' hFl]
          rw [e] at h; exact h
        rw [Nat.add_zero] at z0
        have hcd := r8.cap
        have ha2 : ad.toNat < 65536 := by omega
        rw [u8N_toNat _ (by omega)] at z10 z11 z12 z13
        obtain ⟨p1, hp1⟩ : ∃ p, p = ad.toNat % 256 := ⟨_, rfl⟩
        obtain ⟨p2, hp2⟩ : ∃ p, p = ad.toNat / 256 := ⟨_, rfl⟩
        obtain ⟨p3, hp3⟩ : ∃ p, p = d3.length % 256 := ⟨_, rfl⟩
        obtain ⟨p4, hp4⟩ : ∃ p, p = d3.length / 256 := ⟨_, rfl⟩
        rw [← hp1] at z10
        rw [← hp2] at z11
        rw [← hp3] at z12
        rw [← hp4] at z13
        have i1 : (p1 : Int) + 256 * (p2 : Int) = ad := by omega
        have i2 : (p3 : Int) + 256 * (p4 : Int) = (n3 : Int) := by omega
        have i3 : IntKind.i64.wrap (256 * (p2 : Int)) = 256 * (p2 : Int) := IntWalk.i64_in _ (by omega)
        have i4 : IntKind.i64.wrap (256 * (p4 : Int)) = 256 * (p4 : Int) := IntWalk.i64_in _ (by omega)
        have i5 : IntKind.i64.wrap ((p1 : Int) + 256 * (p2 : Int)) = ad := by rw [i1]; exact IntWalk.i64_in _ (by omega)
        have i6 : IntKind.i64.wrap ((p3 : Int) + 256 * (p4 : Int)) = (n3 : Int) := by rw [i2]; exact IntWalk.i64_in _ (by omega)
        have i7 : IntKind.i64.wrap ad = ad := IntWalk.i64_in _ (by omega)
        have i8 : ((p1 : Int) + 256 * (p2 : Int) == ad) = true := by rw [i1]; simp
        have i9 : ((p3 : Int) + 256 * (p4 : Int) == (n3 : Int)) = true := by rw [i2]; simp
        have i10 : IntKind.i64.wrap (p1 : Int) = (p1 : Int) := IntWalk.i64_in _ (by omega)
        have i11 : IntKind.i64.wrap (p2 : Int) = (p2 : Int) := IntWalk.i64_in _ (by omega)
        have i12 : IntKind.i64.wrap (p3 : Int) = (p3 : Int) := IntWalk.i64_in _ (by omega)
        have i13 : IntKind.i64.wrap (p4 : Int) = (p4 : Int) := IntWalk.i64_in _ (by omega)
        have i14 : p3 + 256 * p4 = n3 := by omega
        have i15 : (p3 + 256 * p4 == n3) = true := by simp [i14]
        have i16 : decide ((p3 : Int) + 256 * (p4 : Int) = (n3 : Int)) = true := by simp; omega
        have i17 : decide (p3 + 256 * p4 = n3) = true := by simp [i14]
        have i18 : IntKind.i64.wrap (n3 : Int) = (n3 : Int) := IntWalk.i64_in _ (by omega)
        have i19 : ((n3 : Int) == (n3 : Int)) = true := by simp
        clear hp1 hp2 hp3 hp4 RH8 RS8 RM8 r8 hF hFd hdl
        obtain ⟨⟨u0, c0⟩, ⟨_, c1⟩, ⟨_, c2⟩, ⟨_, c3'⟩, ⟨_, c4⟩, ⟨_, c5⟩⟩ := B8
        have j1 : ((number.toNat : Int) == (number.toNat : Int)) = true := by simp
        have t1 : ¬ (ch = 2) := by omega
        have t2 : 10 ≤ ch := by omega
        have t3 : (10 : Int) ≤ ch := by omega
        have t4 : 14 ≤ cs := by omega
        have t5 : (14 : Int) ≤ cs := by omega
        have t6 : 4 ≤ c5' := by omega
        have t7 : (4 : Int) ≤ c5' := by omega
        have t8 : ¬ (c5' = 2) := by omega
        have FS1 := fun (v : World) (h1 : RdE bv v (some ⟨bh, oh + 2, none⟩) 8 (ch - 2) (padN 8 (strN nm))) (h2 : RdE bv v AN 8 cN (padN 8 (strN nm))) => same_yes (some ⟨bh, oh + 2, none⟩) AN 8 (ch - 2) 8 cN v.heap.size v.heap.size _ v h1 h2 (by omega)
        have FS2 := fun (v : World) (h1 : RdE bv v Ad nd cd d3) (h2 : RdE bv v A3 n3 c3 d3) => same_yes Ad A3 nd cd n3 c3 v.heap.size v.heap.size d3 v h1 h2 (by have := Rd.len h1; have := Rd.len h2; omega)
        have FS3 := fun (v : World) (h1 : RdE bv v (some ⟨bs, os, none⟩) 14 cs (padN 14 (strN sg))) (h2 : RdE bv v AG 14 cG (padN 14 (strN sg))) => same_yes (some ⟨bs, os, none⟩) AG 14 cs 14 cG v.heap.size v.heap.size _ v h1 h2 (by omega)
        have FB := fun (v : World) (hb : BlE w8 v) => bsame_yes (some ⟨bd, od + 4, none⟩) (some ⟨bl, ol, none⟩) 2 (c5' - 2) 2 c4' (· < v.heap.size) (· < v.heap.size) F v (zF.keep (Kp.below hb (fun b h => h)) (fun b h => Nat.lt_of_lt_of_le h (Below.size hb))) (s8.keep (Kp.below hb (fun b h => h)) (fun b h => Nat.lt_of_lt_of_le h (Below.size hb))) (fun b h => h) (fun b h => h) (by omega)
        have qz0 : ∀ n, (mP w8 n).cell? ⟨bh, oh, none⟩ = some (.int .u8 (number.toNat : Int)) := fun n => mP_cell (has_of z0).1 z0 n
        have qz1 : ∀ n, (mP w8 n).cell? ⟨bh, oh + 1, none⟩ = some (.int .u8 (id.toNat : Int)) := fun n => mP_cell (has_of z1).1 z1 n
        have qz10 : ∀ n, (mP w8 n).cell? ⟨bh, oh + 10, none⟩ = some (.int .u8 (p1 : Int)) := fun n => mP_cell (has_of z10).1 z10 n
        have qz11 : ∀ n, (mP w8 n).cell? ⟨bh, oh + 11, none⟩ = some (.int .u8 (p2 : Int)) := fun n => mP_cell (has_of z11).1 z11 n
        have qz12 : ∀ n, (mP w8 n).cell? ⟨bh, oh + 12, none⟩ = some (.int .u8 (p3 : Int)) := fun n => mP_cell (has_of z12).1 z12 n
        have qz13 : ∀ n, (mP w8 n).cell? ⟨bh, oh + 13, none⟩ = some (.int .u8 (p4 : Int)) := fun n => mP_cell (has_of z13).1 z13 n
        have qz14 : ∀ n, (mP w8 n).cell? ⟨bh, oh + 14, none⟩ = some (.int .u8 (kind.toNat : Int)) := fun n => mP_cell (has_of z14).1 z14 n
        have qc0 : ∀ n, (mP w8 n).cell? ⟨fb, 0, none⟩ = some (.int .u8 (number.toNat : Int)) := fun n => mP_cell (has_of c0).1 c0 n
        have qc1 : ∀ n, (mP w8 n).cell? ⟨fb, 1, none⟩ = some (.int .u8 (id.toNat : Int)) := fun n => mP_cell (has_of c1).1 c1 n
        have qc2 : ∀ n, (mP w8 n).cell? ⟨fb, 2, none⟩ = some (.int .u8 (kind.toNat : Int)) := fun n => mP_cell (has_of c2).1 c2 n
        have qc4 : ∀ n, (mP w8 n).cell? ⟨fb, 4, none⟩ = some (.int .u16 ad) := fun n => mP_cell (has_of c4).1 c4 n
        have qc5 : ∀ n, (mP w8 n).cell? ⟨fb, 5, none⟩ = some (.slice A3 n3 c3) := fun n => mP_cell (has_of c5).1 c5 n
        have qy1 : ∀ n, (mP w8 n).cell? ⟨bl, ol + 3, none⟩ = some (.slice Ad nd cd) := fun n => mP_cell (has_of y1).1 y1 n
        have qy2 : ∀ n, (mP w8 n).cell? ⟨bd, od + 1, none⟩ = some (.slice (some ⟨bs, os, none⟩) 55 cs) := fun n => mP_cell (has_of y2).1 y2 n
        have qy3 : ∀ n, (mP w8 n).cell? ⟨bd, od + 3, none⟩ = some (.slice (some ⟨bm, om, none⟩) 1 cm) := fun n => mP_cell (has_of y3).1 y3 n
        have qz20 : ∀ n, (mP w8 n).cell? ⟨bs, os + 20, none⟩ = some (.int .u8 (side.toNat : Int)) := fun n => mP_cell (has_of z20).1 z20 n
        have qzM : ∀ n, (mP w8 n).cell? ⟨bm, om, none⟩ = some (.int .u8 2) := fun n => mP_cell (has_of zM).1 zM n
        have Q1 : ∀ n, Calls Try.prog 15 #[.slice (some ⟨bh, oh + 2, none⟩) 8 (ch - 2), .slice AN 8 cN] (mP w8 n) (fun e w' => e = .returned (.bool true) ∧ ∃ m, w' = mP w8 m) := fun n =>
          Calls.more_q ((FS1 _ (RdE.below zN (mP_below w8 n)) (RdE.below rN8 (mP_below w8 n))).mono fun e w' h => ⟨h.1, Still.below h.2 _⟩)
        have Q2 : ∀ n, Calls Try.prog 15 #[.slice Ad nd cd, .slice A3 n3 c3] (mP w8 n) (fun e w' => e = .returned (.bool true) ∧ ∃ m, w' = mP w8 m) := fun n =>
          Calls.more_q ((FS2 _ (RdE.below RD8 (mP_below w8 n)) (RdE.below r38 (mP_below w8 n))).mono fun e w' h => ⟨h.1, Still.below h.2 _⟩)
        have Q3 : ∀ n, Calls Try.prog 15 #[.slice (some ⟨bs, os, none⟩) 14 cs, .slice AG 14 cG] (mP w8 n) (fun e w' => e = .returned (.bool true) ∧ ∃ m, w' = mP w8 m) := fun n =>
          Calls.more_q ((FS3 _ (RdE.below zS (mP_below w8 n)) (RdE.below rG (mP_below w8 n))).mono fun e w' h => ⟨h.1, Still.below h.2 _⟩)
        have Q4 : ∀ n, Calls Try.prog 21 #[.slice (some ⟨bd, od + 4, none⟩) 2 (c5' - 2), .slice (some ⟨bl, ol, none⟩) 2 c4'] (mP w8 n) (fun e w' => e = .returned (.bool true) ∧ ∃ m, w' = mP w8 m) := fun n =>
          Calls.more_q (FB _ (mP_below w8 n))
        clear FS1 FS2 FS3 FB zN zS zF s8 r38 RD8 rN8 rG y1 y2 y3 z0 z1 z10 z11 z12 z13 z14 z20 zM c0 c1 c2 c3' c4 c5 u0
        go_upto_region 11 with fail
        dsimp only [List.append]
        as_aux_lemma =>
          refine wp_region_more (by kernel_rfl) (lexB_of ?_ ?_) ?_
          · as_aux_lemma => kernel_rfl
          · show Region.lexFrom .any _ 104 0 _ = true
            refine lexFrom_add (m := 96) 8 0 _ ?_ ?_
            · as_aux_lemma => kernel_rfl
            refine lexFrom_add (m := 88) 8 8 _ ?_ ?_
            · as_aux_lemma => kernel_rfl
            refine lexFrom_add (m := 80) 8 16 _ ?_ ?_
            · as_aux_lemma => kernel_rfl
            refine lexFrom_add (m := 72) 8 24 _ ?_ ?_
            · as_aux_lemma => kernel_rfl
            refine lexFrom_add (m := 64) 8 32 _ ?_ ?_
            · as_aux_lemma => kernel_rfl
            refine lexFrom_add (m := 56) 8 40 _ ?_ ?_
            · as_aux_lemma => kernel_rfl
            refine lexFrom_add (m := 48) 8 48 _ ?_ ?_
            · as_aux_lemma => kernel_rfl
            refine lexFrom_add (m := 40) 8 56 _ ?_ ?_
            · as_aux_lemma => kernel_rfl
            refine lexFrom_add (m := 32) 8 64 _ ?_ ?_
            · as_aux_lemma => kernel_rfl
            refine lexFrom_add (m := 24) 8 72 _ ?_ ?_
            · as_aux_lemma => kernel_rfl
            refine lexFrom_add (m := 16) 8 80 _ ?_ ?_
            · as_aux_lemma => kernel_rfl
            refine lexFrom_add (m := 8) 8 88 _ ?_ ?_
            · as_aux_lemma => kernel_rfl
            refine lexFrom_add (m := 0) 8 96 _ ?_ ?_
            · as_aux_lemma => kernel_rfl
            as_aux_lemma => kernel_rfl
          repeat (go_big_quiet_step (first | (go_at_call_of 15 (Value.slice AN 8 cN); exact Q1 _) | (go_at_call_of 15 (Value.slice A3 n3 c3); exact Q2 _) | (go_at_call_of 15 (Value.slice AG 14 cG); exact Q3 _) | (go_at_call 21; exact Q4 _)))
          refine wpQuiet_nil ?_
          intro _ hw'
          obtain ⟨nq, hw''⟩ := hw'
          subst hw''
          go_wp2
          go_ret
          exact ⟨rfl, BlE.below b8 (mP_below w8 nq)⟩

end Go.Proofs.Ytdefkajjpilicaa
