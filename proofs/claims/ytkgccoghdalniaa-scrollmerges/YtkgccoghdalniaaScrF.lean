/- The contract of the law package's few. No law is claimed here. -/
import Derived.Test.YtkgccoghdalniaaScrA
import Derived.Deep.DeepCutAuto
namespace Go.Proofs.Ytkgccoghdalniaa
open Go.RowKit

/-- what few makes of a write -/
def fixW (fit : Bool) (i : Nat) (x : Wm) : Wm :=
  if fit = true then ⟨UInt8.ofNat (x.side.toNat % 8), x.pl % 65000, if (x.data.take 60).length = 0 then [UInt8.ofNat i] else x.data.take 60⟩ else ⟨x.side, x.pl, x.data.take 60⟩
def fewN (fit : Bool) (ws : List Wm) : List Wm := (ws.take 8).mapIdx (fixW fit)
/-- the same for the document -/
def refW (x : Wm) : Wm := ⟨x.side, min x.pl 100000, x.data⟩
theorem fewN_snoc (fit : Bool) (ws : List Wm) (k : Nat) (h : k < ws.length) (h8 : k < 8) : fewN fit (ws.take (k + 1)) = fewN fit (ws.take k) ++ [fixW fit k ws[k]] := by
  unfold fewN
  rw [List.take_take, List.take_take, Nat.min_eq_right (by omega), Nat.min_eq_right (by omega), List.take_succ_eq_append_getElem h, List.mapIdx_concat]
  simp [Nat.min_eq_left (Nat.le_of_lt h)]
theorem fewN_stop (fit : Bool) (ws : List Wm) (k : Nat) (h8 : 8 ≤ k) : fewN fit (ws.take k) = fewN fit ws := by
  unfold fewN
  rw [List.take_take, Nat.min_eq_left h8]
theorem fewN_len (fit : Bool) (ws : List Wm) : (fewN fit ws).length = min 8 ws.length := by simp [fewN]

/-- two rows that grow side by side; what both lead to -/
def SF (base : Nat) (w : World) (A A2 : Option Addr) (b : Nat) : Prop := base ≤ b ∧ b < w.heap.size ∧ Off A b ∧ Off A2 b
structure Two (w : World) (base : Nat) (A : Option Addr) (n c : Nat) (rs : List RawW) (A2 : Option Addr) (n2 c2 : Nat) (rs2 : List RawW) (ws : List Wm) : Prop where
  one : OwnX (shW .u8 .u32) w base 44 (SF base w A A2) A n c rs ws
  two : OwnX (shW .i64 .i64) w base 69 (SF base w A A2) A2 n2 c2 rs2 (ws.map refW)
  sep : ∀ k, A2.map (·.block) = some k → Off A k
theorem Two.sep' {w : World} {base : Nat} {A : Option Addr} {n c : Nat} {rs : List RawW} {A2 : Option Addr} {n2 c2 : Nat} {rs2 : List RawW} {ws : List Wm} (h : Two w base A n c rs A2 n2 c2 rs2 ws) : ∀ k, A.map (·.block) = some k → Off A2 k := by
  intro k hk e
  exact h.sep k e.symm hk.symm
theorem Two.keep {w w' : World} {base : Nat} {A : Option Addr} {n c : Nat} {rs : List RawW} {A2 : Option Addr} {n2 c2 : Nat} {rs2 : List RawW} {ws : List Wm} (h : Two w base A n c rs A2 n2 c2 rs2 ws)
    (hk : Kp (fun b => b < w.heap.size) w w') (hs : w.heap.size ≤ w'.heap.size) : Two w' base A n c rs A2 n2 c2 rs2 ws := by
  have hsub : ∀ b, SF base w A A2 b → SF base w' A A2 b := fun b h => ⟨h.1, by have := h.2.1; omega, h.2.2⟩
  exact ⟨h.one.keep (fun k hk' => hk k (h.one.lt k hk').2) (hk.sub fun b h => h.2.1) hsub, h.two.keep (fun k hk' => hk k (h.two.lt k hk').2) (hk.sub fun b h => h.2.1) hsub, h.sep⟩
/-- a later world, of which only blocks from N on are other -/
theorem Two.after {w w' : World} {base N : Nat} {A : Option Addr} {n c : Nat} {rs : List RawW} {A2 : Option Addr} {n2 c2 : Nat} {rs2 : List RawW} {ws : List Wm} (h : Two w base A n c rs A2 n2 c2 rs2 ws)
    (hb : Below N w w') (hN : w.heap.size ≤ N) : Two w' base A n c rs A2 n2 c2 rs2 ws := h.keep (Kp.below hb (fun b hb => by omega)) hb.size

/-- what few answers -/
def RetFew (w : World) (ws : List Wm) (e : Ending) (w' : World) : Prop :=
  ∃ A n c rs A2 c2 rs2, e = .returned (.tuple #[.slice A n c, .slice A2 n c2]) ∧ Two w' w.heap.size A n c rs A2 n c2 rs2 ws ∧ Below w.heap.size w w'

theorem Try.inforWt : (Try.prog.info? 69).map (fun i => (i.zero, i.size, i.bytes)) = some (some (.agg #[.int .i64 0, .int .i64 0, .slice none 0 0]), 3, 40) := by kernel_rfl



set_option maxRecDepth 100000 in
set_option maxHeartbeats 8000000 in
theorem few_fit (A : Option Addr) (n c : Nat) (S : Nat → Prop) (ws : List Wm) (w : World) (hr : RdX (shW .u8 .u32) w S A n c ws) (hS : ∀ b, S b → b < w.heap.size) (_hn : n ≤ 9223372036854775807) (hp : Hid (∀ x ∈ ws, 0 ≤ x.pl ∧ x.pl < 4294967296))
    (hd : Hid (∀ x ∈ ws, x.data.length ≤ 9223372036854775807)) :
    Calls Try.prog 12 #[.slice A n c, .bool true] w (RetFew w (fewN true ws)) := by
  have HL := Lib.hid hr.len
  obtain ⟨i0, hi, hz0, hz1, hz2⟩ := info_parts Try.infoWt
  obtain ⟨j0, hj, hy0, hy1, hy2⟩ := info_parts Try.inforWt
  go_enter Try.func12, Try.ntmps12
  go_wp2
  go_loopw [6, 7, 12] (fun v v2 i wr => ∃ (k : Nat) (A1 : Option Addr) (n1 c1 : Nat) (rs1 : List RawW) (A2 : Option Addr) (c2 : Nat) (rs2 : List RawW), k ≤ n ∧ k ≤ 8 ∧ n1 ≤ k ∧ i = .int .i64 k ∧ v = .slice A1 n1 c1 ∧ v2 = .slice A2 n1 c2 ∧
      Two wr w.heap.size A1 n1 c1 rs1 A2 n1 c2 rs2 (fewN true (ws.take k)) ∧ Below w.heap.size w wr)
    (fun _ _ i _ => n - (intOf i).toNat)
  case atStart => exact ⟨0, none, 0, 0, [], none, 0, [], Nat.zero_le _, Nat.zero_le _, Nat.zero_le _, rfl, rfl, rfl, ⟨OwnX.empty _ _ _ _ _, OwnX.empty _ _ _ _ _, fun k h => by simp at h⟩, Below.refl _ _⟩
  case round =>
    obtain ⟨k, A1, n1, c1, rs1, A2, c2, rs2, hk, hk8, hnk, rfl, rfl, rfl, htw, hb⟩ := hrel
    have hsz := hb.size
    by_cases hlt : k < n
    · have hkx : k < ws.length := by rw [HL.out]; exact hlt
      obtain ⟨b, off, A3, n3, c3, rfl, hSb, hc0, hc1, hc2, hrd⟩ := rdW_at (hr.keep (Kp.below hb hS) (fun _ h => h)) k hkx
      have hpx := hp.out ws[k] (List.getElem_mem hkx)
      have hdx := hd.out ws[k] (List.getElem_mem hkx)
      by_cases h8 : k < 8
      · have HT := Lib.hid (fewN_snoc true ws k hkx h8)
        have hl3 := hrd.len
        generalize ws[k] = x at *
        obtain ⟨xs, xa, xd⟩ := x
        simp only at hc0 hc1 hpx hdx hrd hl3
        obtain ⟨hp0, hp1⟩ := hpx
        have hxs := xs.toNat_lt
        have hn3 : n3 ≤ 9223372036854775807 := by omega
        clear hl3 hdx
        have r3 := (hrd.rd hS).alloc hsz (.cells #[.int .u8 (xs.toNat : Int), .int .u32 xa, .slice A3 n3 c3] 44)
        have t8 : decide ((8 : Int) ≤ k) = false := by simp; omega
        go_wp2_with fail
        refine (cut_any A3 n3 c3 w.heap.size xd 60 _ r3 (by simp; omega) hn3 (by omega) (by omega)).mono ?_
        rintro e w1 ⟨A4, n4, c4, rfl, ho4, hb4⟩
        have hb4' : Below (wr.heap.size + 1) (wr.alloc (.cells #[.int .u8 (xs.toNat : Int), .int .u32 xa, .slice A3 n3 c3] 44)) w1 := hb4.mono (by simp)
        have f0 : ∀ i, w1.frozen? ⟨wr.heap.size, i, none⟩ = false := fun i => (hb4'.frozen (p := ⟨wr.heap.size, i, none⟩) (by show wr.heap.size < _; omega)).trans (frozen_new wr _ _ i)
        have f00 := f0 0
        have f01 := f0 1
        have f02 := f0 2
        have d0 : w1.cell? ⟨wr.heap.size, 0, none⟩ = some (.int .u8 (xs.toNat : Int)) := box_cell hb4' 0
        have d1 : w1.cell? ⟨wr.heap.size, 1, none⟩ = some (.int .u32 xa) := box_cell hb4' 1
        have d2 : w1.cell? ⟨wr.heap.size, 2, none⟩ = some (.slice A3 n3 c3) := box_cell hb4' 2
        have hn4 : n4 ≤ 60 := by have := ho4.len; simp at this; omega
        clear f0
        have hlt1 : wr.heap.size < w1.heap.size := by have := hb4'.size; simp at this; omega
        have oL1 : Off A1 wr.heap.size := htw.one.off (Nat.le_refl _)
        have oL2 : Off A2 wr.heap.size := htw.two.off (Nat.le_refl _)
        have hof1 : ∀ b, wr.heap.size ≤ b → Off A1 b := fun b h => htw.one.off h
        have hof2 : ∀ b, wr.heap.size ≤ b → Off A2 b := fun b h => htw.two.off h
        have kpA : Kp (fun b => b < wr.heap.size) wr w1 := (Kp.alloc (fun b h => h) _).trans (Kp.below hb4' (fun b h => by omega))
        have bel1 : Below w.heap.size w w1 := (hb.alloc hsz _).trans (hb4.mono (by simp; omega))
        have hne : ∀ i j, i ≠ j → (⟨wr.heap.size, i, none⟩ : Addr) ≠ ⟨wr.heap.size, j, none⟩ := fun i j h e => by injection e with e1 e2; exact h e2
        have ho4s : (wr.alloc (.cells #[.int .u8 (xs.toNat : Int), .int .u32 xa, .slice A3 n3 c3] 44)).heap.size = wr.heap.size + 1 := by simp
        rw [ho4s] at ho4
        rw [show (60 : Int).toNat = 60 from rfl] at ho4
        clear ho4s hb4 hb4'
        by_cases h4 : n4 = 0
        · have t4 : ((n4 : Int) == 0) = true := by rw [h4]; rfl
          have H4 := Lib.hid h4
          clear h4
          go_upto_region 13 with (fail)
          have hQz : Hid (((UInt8.ofNat (xs.toNat % 8)).toNat : Int) = (xs.toNat : Int) % 8) := by show _ = _; rw [UInt8.toNat_ofNat']; omega
          have HFX : Hid (fixW true k ⟨xs, xa, xd⟩ = ⟨UInt8.ofNat (xs.toNat % 8), xa % 65000, [UInt8.ofNat k]⟩) := by
            show _ = _; unfold fixW; rw [if_pos rfl, if_pos (by show (xd.take 60).length = 0; rw [ho4.len]; exact H4.out)]
          have HRF : Hid (refW ⟨UInt8.ofNat (xs.toNat % 8), xa % 65000, [UInt8.ofNat k]⟩ = ⟨UInt8.ofNat (xs.toNat % 8), xa % 65000, [UInt8.ofNat k]⟩) := by
            show _ = _; unfold refW; simp only; rw [show min (xa % 65000) 100000 = xa % 65000 from by omega]
          have hk8b : ((UInt8.ofNat k).toNat : Int) = k := by rw [UInt8.toNat_ofNat']; omega
          have hszX : ((((w1.setCell ⟨wr.heap.size, 2, none⟩ (.slice A4 n4 c4)).setCell ⟨wr.heap.size, 0, none⟩ (.int .u8 ((xs.toNat : Int) % 8))).setCell ⟨wr.heap.size, 1, none⟩ (.int .u32 (xa % 65000))).setCell ⟨wr.heap.size, 2, none⟩ (.slice (some ⟨w1.heap.size, 0, none⟩) 1 1)).heap.size = w1.heap.size := by simp
          have rdk : Rd bv (((((w1.setCell ⟨wr.heap.size, 2, none⟩ (.slice A4 n4 c4)).setCell ⟨wr.heap.size, 0, none⟩ (.int .u8 ((xs.toNat : Int) % 8))).setCell ⟨wr.heap.size, 1, none⟩ (.int .u32 (xa % 65000))).setCell ⟨wr.heap.size, 2, none⟩ (.slice (some ⟨w1.heap.size, 0, none⟩) 1 1)).alloc (.cells #[.int .u8 (k : Int)] 5)) (w1.heap.size + 1) (some ⟨w1.heap.size, 0, none⟩) 1 1 [UInt8.ofNat k] := Rd.made (f := bv) _ 5 (0, 0) [UInt8.ofNat k] _ _ 1 (by show _ = #[bv (UInt8.ofNat k)]; unfold bv; rw [hk8b]) (by rw [hszX]) rfl
          have hneA : ∀ i : Nat, (((((w1.setCell ⟨wr.heap.size, 2, none⟩ (.slice A4 n4 c4)).setCell ⟨wr.heap.size, 0, none⟩ (.int .u8 ((xs.toNat : Int) % 8))).setCell ⟨wr.heap.size, 1, none⟩ (.int .u32 (xa % 65000))).setCell ⟨wr.heap.size, 2, none⟩ (.slice (some ⟨w1.heap.size, 0, none⟩) 1 1)).alloc (.cells #[.int .u8 (k : Int)] 5)).cell? ⟨wr.heap.size, i, none⟩ = ((((w1.setCell ⟨wr.heap.size, 2, none⟩ (.slice A4 n4 c4)).setCell ⟨wr.heap.size, 0, none⟩ (.int .u8 ((xs.toNat : Int) % 8))).setCell ⟨wr.heap.size, 1, none⟩ (.int .u32 (xa % 65000))).setCell ⟨wr.heap.size, 2, none⟩ (.slice (some ⟨w1.heap.size, 0, none⟩) 1 1)).cell? ⟨wr.heap.size, i, none⟩ := fun i => World.cell?_alloc_lt _ _ _ (by rw [hszX]; exact hlt1)
          clear hk8b
          have W0 : (((((w1.setCell ⟨wr.heap.size, 2, none⟩ (.slice A4 n4 c4)).setCell ⟨wr.heap.size, 0, none⟩ (.int .u8 ((xs.toNat : Int) % 8))).setCell ⟨wr.heap.size, 1, none⟩ (.int .u32 (xa % 65000))).setCell ⟨wr.heap.size, 2, none⟩ (.slice (some ⟨w1.heap.size, 0, none⟩) 1 1)).alloc (.cells #[.int .u8 (k : Int)] 5)).cell? ⟨wr.heap.size, 0, none⟩ = some (.int .u8 ((UInt8.ofNat (xs.toNat % 8)).toNat : Int)) := by rw [hneA, World.cell?_setCell_other _ _ _ _ (hne _ _ (by omega)), World.cell?_setCell_other _ _ _ _ (hne _ _ (by omega)), hQz.out]; exact World.cell?_setCell_same _ _ _ ((World.cell?_setCell_other _ _ _ _ (hne _ _ (by omega))).trans d0)
          have W1 : (((((w1.setCell ⟨wr.heap.size, 2, none⟩ (.slice A4 n4 c4)).setCell ⟨wr.heap.size, 0, none⟩ (.int .u8 ((xs.toNat : Int) % 8))).setCell ⟨wr.heap.size, 1, none⟩ (.int .u32 (xa % 65000))).setCell ⟨wr.heap.size, 2, none⟩ (.slice (some ⟨w1.heap.size, 0, none⟩) 1 1)).alloc (.cells #[.int .u8 (k : Int)] 5)).cell? ⟨wr.heap.size, 1, none⟩ = some (.int .u32 (xa % 65000)) := by rw [hneA, World.cell?_setCell_other _ _ _ _ (hne _ _ (by omega))]; exact World.cell?_setCell_same _ _ _ (((World.cell?_setCell_other _ _ _ _ (hne _ _ (by omega))).trans (World.cell?_setCell_other _ _ _ _ (hne _ _ (by omega)))).trans d1)
          have W2 : (((((w1.setCell ⟨wr.heap.size, 2, none⟩ (.slice A4 n4 c4)).setCell ⟨wr.heap.size, 0, none⟩ (.int .u8 ((xs.toNat : Int) % 8))).setCell ⟨wr.heap.size, 1, none⟩ (.int .u32 (xa % 65000))).setCell ⟨wr.heap.size, 2, none⟩ (.slice (some ⟨w1.heap.size, 0, none⟩) 1 1)).alloc (.cells #[.int .u8 (k : Int)] 5)).cell? ⟨wr.heap.size, 2, none⟩ = some (.slice (some ⟨w1.heap.size, 0, none⟩) 1 1) := by rw [hneA]; exact World.cell?_setCell_same _ _ _ (by rw [World.cell?_setCell_other _ _ _ _ (hne _ _ (by omega)), World.cell?_setCell_other _ _ _ _ (hne _ _ (by omega))]; exact World.cell?_setCell_same _ _ _ d2)
          have tw : Two (((((w1.setCell ⟨wr.heap.size, 2, none⟩ (.slice A4 n4 c4)).setCell ⟨wr.heap.size, 0, none⟩ (.int .u8 ((xs.toNat : Int) % 8))).setCell ⟨wr.heap.size, 1, none⟩ (.int .u32 (xa % 65000))).setCell ⟨wr.heap.size, 2, none⟩ (.slice (some ⟨w1.heap.size, 0, none⟩) 1 1)).alloc (.cells #[.int .u8 (k : Int)] 5)) w.heap.size A1 n1 c1 rs1 A2 n1 c2 rs2 (fewN true (ws.take k)) := htw.keep (((((kpA.trans (Kp.setCell (fun b h => by show b ≠ wr.heap.size; have : b < wr.heap.size := h; omega) _)).trans (Kp.setCell (fun b h => by show b ≠ wr.heap.size; have : b < wr.heap.size := h; omega) _)).trans (Kp.setCell (fun b h => by show b ≠ wr.heap.size; have : b < wr.heap.size := h; omega) _)).trans (Kp.setCell (fun b h => by show b ≠ wr.heap.size; have : b < wr.heap.size := h; omega) _)).trans (Kp.alloc (fun b h => by rw [hszX]; have : b < wr.heap.size := h; omega) _)) (by simp; omega)
          have rd5 : Rdp bv (((((w1.setCell ⟨wr.heap.size, 2, none⟩ (.slice A4 n4 c4)).setCell ⟨wr.heap.size, 0, none⟩ (.int .u8 ((xs.toNat : Int) % 8))).setCell ⟨wr.heap.size, 1, none⟩ (.int .u32 (xa % 65000))).setCell ⟨wr.heap.size, 2, none⟩ (.slice (some ⟨w1.heap.size, 0, none⟩) 1 1)).alloc (.cells #[.int .u8 (k : Int)] 5)) (SF w.heap.size (((((w1.setCell ⟨wr.heap.size, 2, none⟩ (.slice A4 n4 c4)).setCell ⟨wr.heap.size, 0, none⟩ (.int .u8 ((xs.toNat : Int) % 8))).setCell ⟨wr.heap.size, 1, none⟩ (.int .u32 (xa % 65000))).setCell ⟨wr.heap.size, 2, none⟩ (.slice (some ⟨w1.heap.size, 0, none⟩) 1 1)).alloc (.cells #[.int .u8 (k : Int)] 5)) A1 A2) (some ⟨w1.heap.size, 0, none⟩) 1 1 ([UInt8.ofNat k]) := (rdk.toP (S := fun b => b = w1.heap.size) rfl).keep (Kp.refl _ _) (fun b h => ⟨by omega, by simp; omega, hof1 b (by omega), hof2 b (by omega)⟩)
          have belW : Below w.heap.size w (((((w1.setCell ⟨wr.heap.size, 2, none⟩ (.slice A4 n4 c4)).setCell ⟨wr.heap.size, 0, none⟩ (.int .u8 ((xs.toNat : Int) % 8))).setCell ⟨wr.heap.size, 1, none⟩ (.int .u32 (xa % 65000))).setCell ⟨wr.heap.size, 2, none⟩ (.slice (some ⟨w1.heap.size, 0, none⟩) 1 1)).alloc (.cells #[.int .u8 (k : Int)] 5)) := ((((bel1.setCell hsz _).setCell hsz _).setCell hsz _).setCell hsz _).alloc (by simp; omega) _
          have hsW : wr.heap.size + 1 ≤ (((((w1.setCell ⟨wr.heap.size, 2, none⟩ (.slice A4 n4 c4)).setCell ⟨wr.heap.size, 0, none⟩ (.int .u8 ((xs.toNat : Int) % 8))).setCell ⟨wr.heap.size, 1, none⟩ (.int .u32 (xa % 65000))).setCell ⟨wr.heap.size, 2, none⟩ (.slice (some ⟨w1.heap.size, 0, none⟩) 1 1)).alloc (.cells #[.int .u8 (k : Int)] 5)).heap.size := by simp; omega
          clear f00 f01 f02 d0 d1 d2 hne hszX hneA rdk
          generalize (((((w1.setCell ⟨wr.heap.size, 2, none⟩ (.slice A4 n4 c4)).setCell ⟨wr.heap.size, 0, none⟩ (.int .u8 ((xs.toNat : Int) % 8))).setCell ⟨wr.heap.size, 1, none⟩ (.int .u32 (xa % 65000))).setCell ⟨wr.heap.size, 2, none⟩ (.slice (some ⟨w1.heap.size, 0, none⟩) 1 1)).alloc (.cells #[.int .u8 (k : Int)] 5)) = w2 at *
          have tm : xa % 65000 ≤ 100000 := by omega
          have tm0 : 0 ≤ xa % 65000 := by omega
          have tm' : decide (xa % 65000 ≤ 100000) = true := by simp; omega
          clear hQz
          generalize (UInt8.ofNat (xs.toNat % 8)) = sd at *
          generalize xa % 65000 = pl at *
          have hsdl : (sd.toNat : Int) < 256 := by have := sd.toNat_lt; omega
          go_wp2_with (first
            | (at_builtin
               refine wpList_push (shW .u8 .u32) _ rfl (.tmp 40) (.tmp 42) 37 rfl w.heap.size 44 i0 _ 32 Try.underlying37 hi hz0 hz1 hz2 rfl _ A1 n1 c1 rs1 _ rfl tw.one _ _ _ _ _ ⟨sd, pl, (some ⟨w1.heap.size, 0, none⟩), 1, 1⟩ ⟨sd, pl, [UInt8.ofNat k]⟩ rfl rfl rfl ⟨rfl, rfl, rd5⟩ (fun b h => ⟨h.2.1, h.2.2.1⟩) (by simp only [maxLen]; omega) (by omega) (by omega) ?_
               intro g6 c6 w6 hown6 hg6 hat6 hlt6
               have hL6 : w6.heap[wr.heap.size]? = w2.heap[wr.heap.size]? := hg6.block _ (by omega) oL1
               have X0 : w6.cell? ⟨wr.heap.size, 0, none⟩ = some (.int .u8 (sd.toNat : Int)) := (World.cell?_of_block (a := ⟨wr.heap.size, 0, none⟩) hL6).trans W0
               have X1 : w6.cell? ⟨wr.heap.size, 1, none⟩ = some (.int .u32 (pl)) := (World.cell?_of_block (a := ⟨wr.heap.size, 1, none⟩) hL6).trans W1
               have X2 : w6.cell? ⟨wr.heap.size, 2, none⟩ = some (.slice (some ⟨w1.heap.size, 0, none⟩) 1 1) := (World.cell?_of_block (a := ⟨wr.heap.size, 2, none⟩) hL6).trans W2
               have hz6 := hg6.size
               have sub6 : ∀ b, SF w.heap.size w2 A1 A2 b → SF w.heap.size w6 (some ⟨g6, 0, none⟩) A2 b := fun b h => ⟨h.1, by have := h.2.1; omega, off_pushed hat6 (by have := h.2.1; omega) h.2.2.1, h.2.2.2⟩
               have kp6 : Kp (SF w.heap.size w2 A1 A2) w2 w6 := Kp.grown hg6 (fun b h => ⟨h.2.1, h.2.2.1⟩)
               have two6 : OwnX (shW .i64 .i64) w6 w.heap.size 69 (SF w.heap.size w6 (some ⟨g6, 0, none⟩) A2) A2 n1 c2 rs2 ((fewN true (ws.take k)).map refW) := tw.two.keep (fun j hj' => hg6.block j (tw.two.lt j hj').2 (fun e => tw.sep j hj' e)) kp6 sub6
               have one6 := hown6.sub sub6
               have rd6 := rd5.keep kp6 sub6
               have off6 : ∀ j, A2.map (·.block) = some j → Off (some ⟨g6, 0, none⟩) j := fun j hj' => off_pushed hat6 (by have := (tw.two.lt j hj').2; omega) (tw.sep j hj')
               have bel6 := belW.grown hg6 (by omega) (fun j hj' => (tw.one.lt j hj').1)
               clear W0 W1 W2 hL6)
            | (at_builtin
               refine wpList_push (shW .i64 .i64) _ rfl (.tmp 44) (.tmp 55) 39 rfl w.heap.size 69 j0 _ 40 Try.underlying39 hj hy0 hy1 hy2 rfl _ A2 n1 c2 rs2 _ rfl two6 _ _ _ _ _ ⟨sd, pl, (some ⟨w1.heap.size, 0, none⟩), 1, 1⟩ ⟨sd, pl, [UInt8.ofNat k]⟩ rfl rfl rfl ⟨rfl, rfl, rd6⟩ (fun b h => ⟨h.2.1, h.2.2.2⟩) (by simp only [maxLen]; omega) (by omega) (by omega) ?_
               intro g7 c7 w7 hown7 hg7 hat7 hlt7))
          have hz7 := hg7.size
          have sub7 : ∀ b, SF w.heap.size w6 (some ⟨g6, 0, none⟩) A2 b → SF w.heap.size w7 (some ⟨g6, 0, none⟩) (some ⟨g7, 0, none⟩) b := fun b h => ⟨h.1, by have := h.2.1; omega, h.2.2.1, off_pushed hat7 (by have := h.2.1; omega) h.2.2.2⟩
          have g6l : g6 < w6.heap.size := hlt6
          have off6' : Off A2 g6 := fun e => off6 g6 e.symm rfl
          have tw7 : Two w7 w.heap.size (some ⟨g6, 0, none⟩) (n1 + 1) c6 (rs1 ++ [⟨sd, pl, (some ⟨w1.heap.size, 0, none⟩), 1, 1⟩]) (some ⟨g7, 0, none⟩) (n1 + 1) c7 (rs2 ++ [⟨sd, pl, (some ⟨w1.heap.size, 0, none⟩), 1, 1⟩]) (fewN true (ws.take k) ++ [⟨sd, pl, [UInt8.ofNat k]⟩]) :=
            ⟨one6.keep (fun j hj' => by
                have : j = g6 := by simpa using hj'.symm
                subst this
                exact hg7.block j g6l off6') (Kp.grown hg7 (fun b h => ⟨h.2.1, h.2.2.2⟩)) sub7,
              by rw [List.map_append, List.map_cons, List.map_nil, HRF.out]; exact hown7.sub sub7,
              fun j hj' => by
                have : j = g7 := by simpa using hj'.symm
                subst this
                rcases hat7 with e | e
                · exact off6 j e
                · rw [off_some]; omega⟩
          go_roundw
          case rel =>
            refine ⟨k + 1, _, n1 + 1, c6, rs1 ++ [⟨sd, pl, (some ⟨w1.heap.size, 0, none⟩), 1, 1⟩], _, c7, rs2 ++ [⟨sd, pl, (some ⟨w1.heap.size, 0, none⟩), 1, 1⟩], by omega, by omega, by omega, by go_num, rfl, rfl, ?_, bel6.grown hg7 (by omega) (fun j hj' => (two6.lt j hj').1)⟩
            rw [HT.out, HFX.out]
            exact tw7
          case measure => simp [intOf]; omega
        · have t4 : ((n4 : Int) == 0) = false := by rw [beq_eq_false_iff_ne]; omega
          go_upto_region 13 with (fail)
          have hQz : Hid (((UInt8.ofNat (xs.toNat % 8)).toNat : Int) = (xs.toNat : Int) % 8) := by show _ = _; rw [UInt8.toNat_ofNat']; omega
          have HFX : Hid (fixW true k ⟨xs, xa, xd⟩ = ⟨UInt8.ofNat (xs.toNat % 8), xa % 65000, xd.take 60⟩) := by
            show _ = _; unfold fixW; rw [if_pos rfl, if_neg (by show ¬ (xd.take 60).length = 0; rw [ho4.len]; exact h4)]
          have HRF : Hid (refW ⟨UInt8.ofNat (xs.toNat % 8), xa % 65000, xd.take 60⟩ = ⟨UInt8.ofNat (xs.toNat % 8), xa % 65000, xd.take 60⟩) := by
            show _ = _; unfold refW; simp only; rw [show min (xa % 65000) 100000 = xa % 65000 from by omega]
          have W0 : (((w1.setCell ⟨wr.heap.size, 2, none⟩ (.slice A4 n4 c4)).setCell ⟨wr.heap.size, 0, none⟩ (.int .u8 ((xs.toNat : Int) % 8))).setCell ⟨wr.heap.size, 1, none⟩ (.int .u32 (xa % 65000))).cell? ⟨wr.heap.size, 0, none⟩ = some (.int .u8 ((UInt8.ofNat (xs.toNat % 8)).toNat : Int)) := by rw [World.cell?_setCell_other _ _ _ _ (hne _ _ (by omega)), hQz.out]; exact World.cell?_setCell_same _ _ _ ((World.cell?_setCell_other _ _ _ _ (hne _ _ (by omega))).trans d0)
          have W1 : (((w1.setCell ⟨wr.heap.size, 2, none⟩ (.slice A4 n4 c4)).setCell ⟨wr.heap.size, 0, none⟩ (.int .u8 ((xs.toNat : Int) % 8))).setCell ⟨wr.heap.size, 1, none⟩ (.int .u32 (xa % 65000))).cell? ⟨wr.heap.size, 1, none⟩ = some (.int .u32 (xa % 65000)) := World.cell?_setCell_same _ _ _ (((World.cell?_setCell_other _ _ _ _ (hne _ _ (by omega))).trans (World.cell?_setCell_other _ _ _ _ (hne _ _ (by omega)))).trans d1)
          have W2 : (((w1.setCell ⟨wr.heap.size, 2, none⟩ (.slice A4 n4 c4)).setCell ⟨wr.heap.size, 0, none⟩ (.int .u8 ((xs.toNat : Int) % 8))).setCell ⟨wr.heap.size, 1, none⟩ (.int .u32 (xa % 65000))).cell? ⟨wr.heap.size, 2, none⟩ = some (.slice A4 n4 c4) := by rw [World.cell?_setCell_other _ _ _ _ (hne _ _ (by omega)), World.cell?_setCell_other _ _ _ _ (hne _ _ (by omega))]; exact World.cell?_setCell_same _ _ _ d2
          have tw : Two (((w1.setCell ⟨wr.heap.size, 2, none⟩ (.slice A4 n4 c4)).setCell ⟨wr.heap.size, 0, none⟩ (.int .u8 ((xs.toNat : Int) % 8))).setCell ⟨wr.heap.size, 1, none⟩ (.int .u32 (xa % 65000))) w.heap.size A1 n1 c1 rs1 A2 n1 c2 rs2 (fewN true (ws.take k)) := htw.keep (((kpA.trans (Kp.setCell (fun b h => by show b ≠ wr.heap.size; have : b < wr.heap.size := h; omega) _)).trans (Kp.setCell (fun b h => by show b ≠ wr.heap.size; have : b < wr.heap.size := h; omega) _)).trans (Kp.setCell (fun b h => by show b ≠ wr.heap.size; have : b < wr.heap.size := h; omega) _)) (by simp; omega)
          have rd5 : Rdp bv (((w1.setCell ⟨wr.heap.size, 2, none⟩ (.slice A4 n4 c4)).setCell ⟨wr.heap.size, 0, none⟩ (.int .u8 ((xs.toNat : Int) % 8))).setCell ⟨wr.heap.size, 1, none⟩ (.int .u32 (xa % 65000))) (SF w.heap.size (((w1.setCell ⟨wr.heap.size, 2, none⟩ (.slice A4 n4 c4)).setCell ⟨wr.heap.size, 0, none⟩ (.int .u8 ((xs.toNat : Int) % 8))).setCell ⟨wr.heap.size, 1, none⟩ (.int .u32 (xa % 65000))) A1 A2) A4 n4 c4 (xd.take 60) := ho4.rdp.keep (((Kp.setCell (fun b h => by show b ≠ wr.heap.size; have := h.1; omega) _).trans (Kp.setCell (fun b h => by show b ≠ wr.heap.size; have := h.1; omega) _)).trans (Kp.setCell (fun b h => by show b ≠ wr.heap.size; have := h.1; omega) _)) (fun b h => ⟨by have := h.1; omega, by simpa using h.2, hof1 b (by have := h.1; omega), hof2 b (by have := h.1; omega)⟩)
          have belW : Below w.heap.size w (((w1.setCell ⟨wr.heap.size, 2, none⟩ (.slice A4 n4 c4)).setCell ⟨wr.heap.size, 0, none⟩ (.int .u8 ((xs.toNat : Int) % 8))).setCell ⟨wr.heap.size, 1, none⟩ (.int .u32 (xa % 65000))) := ((bel1.setCell hsz _).setCell hsz _).setCell hsz _
          have hsW : wr.heap.size + 1 ≤ (((w1.setCell ⟨wr.heap.size, 2, none⟩ (.slice A4 n4 c4)).setCell ⟨wr.heap.size, 0, none⟩ (.int .u8 ((xs.toNat : Int) % 8))).setCell ⟨wr.heap.size, 1, none⟩ (.int .u32 (xa % 65000))).heap.size := by simp; omega
          clear f00 f01 f02 d0 d1 d2 hne 
          generalize (((w1.setCell ⟨wr.heap.size, 2, none⟩ (.slice A4 n4 c4)).setCell ⟨wr.heap.size, 0, none⟩ (.int .u8 ((xs.toNat : Int) % 8))).setCell ⟨wr.heap.size, 1, none⟩ (.int .u32 (xa % 65000))) = w2 at *
          have tm : xa % 65000 ≤ 100000 := by omega
          have tm0 : 0 ≤ xa % 65000 := by omega
          have tm' : decide (xa % 65000 ≤ 100000) = true := by simp; omega
          clear hQz
          generalize (UInt8.ofNat (xs.toNat % 8)) = sd at *
          generalize xa % 65000 = pl at *
          have hsdl : (sd.toNat : Int) < 256 := by have := sd.toNat_lt; omega
          go_wp2_with (first
            | (at_builtin
               refine wpList_push (shW .u8 .u32) _ rfl (.tmp 40) (.tmp 42) 37 rfl w.heap.size 44 i0 _ 32 Try.underlying37 hi hz0 hz1 hz2 rfl _ A1 n1 c1 rs1 _ rfl tw.one _ _ _ _ _ ⟨sd, pl, A4, n4, c4⟩ ⟨sd, pl, xd.take 60⟩ rfl rfl rfl ⟨rfl, rfl, rd5⟩ (fun b h => ⟨h.2.1, h.2.2.1⟩) (by simp only [maxLen]; omega) (by omega) (by omega) ?_
               intro g6 c6 w6 hown6 hg6 hat6 hlt6
               have hL6 : w6.heap[wr.heap.size]? = w2.heap[wr.heap.size]? := hg6.block _ (by omega) oL1
               have X0 : w6.cell? ⟨wr.heap.size, 0, none⟩ = some (.int .u8 (sd.toNat : Int)) := (World.cell?_of_block (a := ⟨wr.heap.size, 0, none⟩) hL6).trans W0
               have X1 : w6.cell? ⟨wr.heap.size, 1, none⟩ = some (.int .u32 (pl)) := (World.cell?_of_block (a := ⟨wr.heap.size, 1, none⟩) hL6).trans W1
               have X2 : w6.cell? ⟨wr.heap.size, 2, none⟩ = some (.slice A4 n4 c4) := (World.cell?_of_block (a := ⟨wr.heap.size, 2, none⟩) hL6).trans W2
               have hz6 := hg6.size
               have sub6 : ∀ b, SF w.heap.size w2 A1 A2 b → SF w.heap.size w6 (some ⟨g6, 0, none⟩) A2 b := fun b h => ⟨h.1, by have := h.2.1; omega, off_pushed hat6 (by have := h.2.1; omega) h.2.2.1, h.2.2.2⟩
               have kp6 : Kp (SF w.heap.size w2 A1 A2) w2 w6 := Kp.grown hg6 (fun b h => ⟨h.2.1, h.2.2.1⟩)
               have two6 : OwnX (shW .i64 .i64) w6 w.heap.size 69 (SF w.heap.size w6 (some ⟨g6, 0, none⟩) A2) A2 n1 c2 rs2 ((fewN true (ws.take k)).map refW) := tw.two.keep (fun j hj' => hg6.block j (tw.two.lt j hj').2 (fun e => tw.sep j hj' e)) kp6 sub6
               have one6 := hown6.sub sub6
               have rd6 := rd5.keep kp6 sub6
               have off6 : ∀ j, A2.map (·.block) = some j → Off (some ⟨g6, 0, none⟩) j := fun j hj' => off_pushed hat6 (by have := (tw.two.lt j hj').2; omega) (tw.sep j hj')
               have bel6 := belW.grown hg6 (by omega) (fun j hj' => (tw.one.lt j hj').1)
               clear W0 W1 W2 hL6)
            | (at_builtin
               refine wpList_push (shW .i64 .i64) _ rfl (.tmp 44) (.tmp 55) 39 rfl w.heap.size 69 j0 _ 40 Try.underlying39 hj hy0 hy1 hy2 rfl _ A2 n1 c2 rs2 _ rfl two6 _ _ _ _ _ ⟨sd, pl, A4, n4, c4⟩ ⟨sd, pl, xd.take 60⟩ rfl rfl rfl ⟨rfl, rfl, rd6⟩ (fun b h => ⟨h.2.1, h.2.2.2⟩) (by simp only [maxLen]; omega) (by omega) (by omega) ?_
               intro g7 c7 w7 hown7 hg7 hat7 hlt7))
          have hz7 := hg7.size
          have sub7 : ∀ b, SF w.heap.size w6 (some ⟨g6, 0, none⟩) A2 b → SF w.heap.size w7 (some ⟨g6, 0, none⟩) (some ⟨g7, 0, none⟩) b := fun b h => ⟨h.1, by have := h.2.1; omega, h.2.2.1, off_pushed hat7 (by have := h.2.1; omega) h.2.2.2⟩
          have g6l : g6 < w6.heap.size := hlt6
          have off6' : Off A2 g6 := fun e => off6 g6 e.symm rfl
          have tw7 : Two w7 w.heap.size (some ⟨g6, 0, none⟩) (n1 + 1) c6 (rs1 ++ [⟨sd, pl, A4, n4, c4⟩]) (some ⟨g7, 0, none⟩) (n1 + 1) c7 (rs2 ++ [⟨sd, pl, A4, n4, c4⟩]) (fewN true (ws.take k) ++ [⟨sd, pl, xd.take 60⟩]) :=
            ⟨one6.keep (fun j hj' => by
                have : j = g6 := by simpa using hj'.symm
                subst this
                exact hg7.block j g6l off6') (Kp.grown hg7 (fun b h => ⟨h.2.1, h.2.2.2⟩)) sub7,
              by rw [List.map_append, List.map_cons, List.map_nil, HRF.out]; exact hown7.sub sub7,
              fun j hj' => by
                have : j = g7 := by simpa using hj'.symm
                subst this
                rcases hat7 with e | e
                · exact off6 j e
                · rw [off_some]; omega⟩
          go_roundw
          case rel =>
            refine ⟨k + 1, _, n1 + 1, c6, rs1 ++ [⟨sd, pl, A4, n4, c4⟩], _, c7, rs2 ++ [⟨sd, pl, A4, n4, c4⟩], by omega, by omega, by omega, by go_num, rfl, rfl, ?_, bel6.grown hg7 (by omega) (fun j hj' => (two6.lt j hj').1)⟩
            rw [HT.out, HFX.out]
            exact tw7
          case measure => simp [intOf]; omega
      · have HE := Lib.hid (fewN_stop true ws k (by omega))
        have t8 : decide ((8 : Int) ≤ k) = true := by simp; omega
        generalize ws[k] = x at *
        obtain ⟨xs, xa, xd⟩ := x
        simp only at hc0 hc1
        go_wp2
        go_ret2
        rw [HE.out] at htw
        exact ⟨_, _, _, _, _, _, _, rfl, htw.after ((Below.refl _ _).alloc (Nat.le_refl _) _) (Nat.le_refl _), hb.alloc hsz _⟩
    · go_wp2
      go_ret2
      rw [List.take_of_length_le (by rw [HL.out]; omega)] at htw
      exact ⟨_, _, _, _, _, _, _, rfl, htw, hb⟩

end Go.Proofs.Ytkgccoghdalniaa
