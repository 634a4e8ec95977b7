/- The contracts of package scroll's reader: mark. No law is claimed here. -/
import Derived.Test.YtkgccoghdalniaaScrR3
namespace Go.Proofs.Ytkgccoghdalniaa
open Go.RowKit

theorem Try.infoGt : (Try.prog.info? 52).map (fun i => (i.zero, i.size, i.bytes)) = some (some (.agg #[.int .u32 0, .slice none 0 0]), 2, 32) := by kernel_rfl

theorem numAt_c (b off n c B : Nat) (xs : List UInt8) (k : Nat) (w : World) (hr : Rd bv w B (some ⟨b, off, none⟩) n c xs) (hk : k + 4 ≤ n) (hk2 : k ≤ 100) :
    Calls Try.prog 43 #[.slice (some ⟨b, off, none⟩) n c, .int .i64 (k : Int)] w fun e w' => e = .returned (.int .u32 (numC xs k : Int)) ∧ Still w w' := numAt_any b off n c B xs k w hr hk hk2

/-- what mark answers where it ends a group -/
def RetYes (base R : Nat) (gs : List Gm) (num : Int) (ws : List Wm) (w : World) (e : Ending) (w' : World) : Prop :=
  e = .returned (.bool true) ∧ (∃ Ag ng cg rgs, RdrX w' base R Ag ng cg rgs (gs ++ [⟨num, ws⟩]) 0 none 0 0 [] []) ∧ Below base w w'
/-- what mark answers -/
def RetMk (base R : Nat) (Ag : Option Addr) (ng cg : Nat) (rgs : List RawG) (gs : List Gm) (num : Int) (ws : List Wm) (w : World) (y : Bool) (e : Ending) (w' : World) : Prop :=
  e = .returned (.bool y) ∧ (∃ Aw nw cw rws, RdrX w' base R Ag ng cg rgs gs num Aw nw cw rws ws) ∧ Below base w w'

set_option maxRecDepth 100000 in
set_option maxHeartbeats 8000000 in
theorem mark_zero (R b off c B base : Nat) (xs : List UInt8) (w : World) (hr : Rd bv w B (some ⟨b, off, none⟩) 9 c xs)
    (Ag : Option Addr) (ng cg : Nat) (rgs : List RawG) (gs : List Gm) (num : Int) (Aw : Option Addr) (nw cw : Nat) (rws : List RawW) (ws : List Wm) (rx : RdrX w base R Ag ng cg rgs gs num Aw nw cw rws ws)
    (hbS : SS w R Ag Aw b) (hnw : nw ≤ 1000000) (hbase : base ≤ w.heap.size)
    (h0 : nw = 0) :
    Calls Try.prog 36 #[.pointer (some ⟨R, 0, none⟩), .slice (some ⟨b, off, none⟩) 9 c] w (RetMk base R Ag ng cg rgs gs 0 [] w false) := by
  have t0 : ((nw : Int) == 0) = true := by rw [h0]; rfl
  clear h0
  have hcap := hr.cap
  have hbR : b ≠ R := hbS.2.1
  have hbl : b < w.heap.size := hbS.1
  obtain ⟨i0, hi, hz0, hz1, hz2⟩ := info_parts Try.infoGt
  have k1 := rx.c1
  have k2 := rx.c2
  have f1 := rx.fz 1
  have f2 := rx.fz 2
  have hRw : R < w.heap.size := rx.hi
  have bA : Below w.heap.size w (w.alloc (.cells #[.int .u32 num, .slice Aw nw cw] 52)) := (Below.refl _ _).alloc (Nat.le_refl _) _
  have rxA := rx.below bA
  have kA := rxA.c2
  have rdXw : RdX (shW .u8 .u32) w (SS w R Ag none) Aw nw cw ws := rx.wO.rd (fun b h => ⟨h.1, h.2.1, h.2.2.1, off_none _⟩) (fun k hk => ⟨(rx.wO.lt k hk).2, fun e => by subst e; exact rx.oW hk.symm, rx.oGW k hk, off_none _⟩)
  go_enter Try.func36, Try.ntmps36
  go_wp2_with (go_at_call 44; refine (rdnext_any R Aw nw cw _ kA hnw).mono ?_; rintro e w' ⟨rfl, rfl⟩)
  have hX : ((w.setCell ⟨R, 1, none⟩ (.int .u32 0)).setCell ⟨R, 2, none⟩ (.slice none 0 0)).heap.size = w.heap.size := by simp
  have bX : Below ((w.setCell ⟨R, 1, none⟩ (.int .u32 0)).setCell ⟨R, 2, none⟩ (.slice none 0 0)).heap.size ((w.setCell ⟨R, 1, none⟩ (.int .u32 0)).setCell ⟨R, 2, none⟩ (.slice none 0 0)) (((w.setCell ⟨R, 1, none⟩ (.int .u32 0)).setCell ⟨R, 2, none⟩ (.slice none 0 0)).alloc (.cells #[.int .u32 num, .slice Aw nw cw] 52)) := (Below.refl _ _).alloc (Nat.le_refl _) _
  have rx5 := (rx.reset 0).below bX
  have bel5 : Below base w (((w.setCell ⟨R, 1, none⟩ (.int .u32 0)).setCell ⟨R, 2, none⟩ (.slice none 0 0)).alloc (.cells #[.int .u32 num, .slice Aw nw cw] 52)) := (((Below.refl _ _).setCell rx.lo _).setCell rx.lo _).trans (bX.mono (by rw [hX]; exact hbase))
  have l0 : (((w.setCell ⟨R, 1, none⟩ (.int .u32 0)).setCell ⟨R, 2, none⟩ (.slice none 0 0)).alloc (.cells #[.int .u32 num, .slice Aw nw cw] 52)).cell? ⟨w.heap.size, 0, none⟩ = some (.int .u32 num) := by rw [← hX, cell_of_row _ _ _ _ _ _ (heap_alloc_new _ _)]; rfl
  have l1 : (((w.setCell ⟨R, 1, none⟩ (.int .u32 0)).setCell ⟨R, 2, none⟩ (.slice none 0 0)).alloc (.cells #[.int .u32 num, .slice Aw nw cw] 52)).cell? ⟨w.heap.size, 1, none⟩ = some (.slice Aw nw cw) := by rw [← hX, cell_of_row _ _ _ _ _ _ (heap_alloc_new _ _)]; rfl
  have kpX : Kp (SS w R Ag none) w (((w.setCell ⟨R, 1, none⟩ (.int .u32 0)).setCell ⟨R, 2, none⟩ (.slice none 0 0)).alloc (.cells #[.int .u32 num, .slice Aw nw cw] 52)) := ((Kp.setCell (fun b h => h.2.1) _).trans (Kp.setCell (fun b h => h.2.1) _)).trans (Kp.below bX (fun b h => by rw [hX]; exact h.1))
  have hs5 : w.heap.size + 1 ≤ (((w.setCell ⟨R, 1, none⟩ (.int .u32 0)).setCell ⟨R, 2, none⟩ (.slice none 0 0)).alloc (.cells #[.int .u32 num, .slice Aw nw cw] 52)).heap.size := by simp
  have rdX5 : RdX (shW .u8 .u32) (((w.setCell ⟨R, 1, none⟩ (.int .u32 0)).setCell ⟨R, 2, none⟩ (.slice none 0 0)).alloc (.cells #[.int .u32 num, .slice Aw nw cw] 52)) (SS (((w.setCell ⟨R, 1, none⟩ (.int .u32 0)).setCell ⟨R, 2, none⟩ (.slice none 0 0)).alloc (.cells #[.int .u32 num, .slice Aw nw cw] 52)) R Ag none) Aw nw cw ws := rdXw.keep kpX (fun b h => ⟨by have := h.1; omega, h.2⟩)
  have rd5 : Rd bv (((w.setCell ⟨R, 1, none⟩ (.int .u32 0)).setCell ⟨R, 2, none⟩ (.slice none 0 0)).alloc (.cells #[.int .u32 num, .slice Aw nw cw] 52)) B (some ⟨b, off, none⟩) 9 c xs := hr.keepB (kpX b ⟨hbl, hbR, hbS.2.2.1, off_none _⟩)
  clear hX bX kpX k1 k2 f1 f2 bA rxA kA rdXw
  generalize (((w.setCell ⟨R, 1, none⟩ (.int .u32 0)).setCell ⟨R, 2, none⟩ (.slice none 0 0)).alloc (.cells #[.int .u32 num, .slice Aw nw cw] 52)) = w5 at *
  go_quiet (first
    | (go_at_call_of 43 (Value.int .i64 1); exact quiet_still (numAt_c b off 9 c B xs 1 _ (rd5.drewN _) (by omega) (by omega)))
    | (go_at_call_of 43 (Value.int .i64 5); exact quiet_still (numAt_c b off 9 c B xs 5 _ (rd5.drewN _) (by omega) (by omega))))
  go_wp2
  go_ret
  exact ⟨rfl, ⟨_, _, _, _, rx5.below (Still.below ⟨_, rfl⟩ _)⟩, bel5.trans (Still.below ⟨_, rfl⟩ _)⟩

set_option maxRecDepth 100000 in
set_option maxHeartbeats 8000000 in
theorem mark_num (R b off c B base : Nat) (xs : List UInt8) (w : World) (hr : Rd bv w B (some ⟨b, off, none⟩) 9 c xs)
    (Ag : Option Addr) (ng cg : Nat) (rgs : List RawG) (gs : List Gm) (num : Int) (Aw : Option Addr) (nw cw : Nat) (rws : List RawW) (ws : List Wm) (rx : RdrX w base R Ag ng cg rgs gs num Aw nw cw rws ws)
    (hbS : SS w R Ag Aw b) (hnw : nw ≤ 1000000) (hbase : base ≤ w.heap.size)
    (h0 : nw ≠ 0) (hg : (numC xs 1 : Int) ≠ num) :
    Calls Try.prog 36 #[.pointer (some ⟨R, 0, none⟩), .slice (some ⟨b, off, none⟩) 9 c] w (RetMk base R Ag ng cg rgs gs 0 [] w false) := by
  have t0 : ((nw : Int) == 0) = false := by rw [beq_eq_false_iff_ne]; omega
  have t1 : ((numC xs 1 : Int) != num) = true := by rw [bne_iff_ne]; exact hg
  clear h0 hg
  have hcap := hr.cap
  have hbR : b ≠ R := hbS.2.1
  have hbl : b < w.heap.size := hbS.1
  obtain ⟨i0, hi, hz0, hz1, hz2⟩ := info_parts Try.infoGt
  have k1 := rx.c1
  have k2 := rx.c2
  have f1 := rx.fz 1
  have f2 := rx.fz 2
  have hRw : R < w.heap.size := rx.hi
  have bA : Below w.heap.size w (w.alloc (.cells #[.int .u32 num, .slice Aw nw cw] 52)) := (Below.refl _ _).alloc (Nat.le_refl _) _
  have rxA := rx.below bA
  have kA := rxA.c2
  have rdXw : RdX (shW .u8 .u32) w (SS w R Ag none) Aw nw cw ws := rx.wO.rd (fun b h => ⟨h.1, h.2.1, h.2.2.1, off_none _⟩) (fun k hk => ⟨(rx.wO.lt k hk).2, fun e => by subst e; exact rx.oW hk.symm, rx.oGW k hk, off_none _⟩)
  go_enter Try.func36, Try.ntmps36
  go_wp2_with (go_at_call 44; refine (rdnext_any R Aw nw cw _ kA hnw).mono ?_; rintro e w' ⟨rfl, rfl⟩)
  have hX : ((w.setCell ⟨R, 1, none⟩ (.int .u32 0)).setCell ⟨R, 2, none⟩ (.slice none 0 0)).heap.size = w.heap.size := by simp
  have bX : Below ((w.setCell ⟨R, 1, none⟩ (.int .u32 0)).setCell ⟨R, 2, none⟩ (.slice none 0 0)).heap.size ((w.setCell ⟨R, 1, none⟩ (.int .u32 0)).setCell ⟨R, 2, none⟩ (.slice none 0 0)) (((w.setCell ⟨R, 1, none⟩ (.int .u32 0)).setCell ⟨R, 2, none⟩ (.slice none 0 0)).alloc (.cells #[.int .u32 num, .slice Aw nw cw] 52)) := (Below.refl _ _).alloc (Nat.le_refl _) _
  have rx5 := (rx.reset 0).below bX
  have bel5 : Below base w (((w.setCell ⟨R, 1, none⟩ (.int .u32 0)).setCell ⟨R, 2, none⟩ (.slice none 0 0)).alloc (.cells #[.int .u32 num, .slice Aw nw cw] 52)) := (((Below.refl _ _).setCell rx.lo _).setCell rx.lo _).trans (bX.mono (by rw [hX]; exact hbase))
  have l0 : (((w.setCell ⟨R, 1, none⟩ (.int .u32 0)).setCell ⟨R, 2, none⟩ (.slice none 0 0)).alloc (.cells #[.int .u32 num, .slice Aw nw cw] 52)).cell? ⟨w.heap.size, 0, none⟩ = some (.int .u32 num) := by rw [← hX, cell_of_row _ _ _ _ _ _ (heap_alloc_new _ _)]; rfl
  have l1 : (((w.setCell ⟨R, 1, none⟩ (.int .u32 0)).setCell ⟨R, 2, none⟩ (.slice none 0 0)).alloc (.cells #[.int .u32 num, .slice Aw nw cw] 52)).cell? ⟨w.heap.size, 1, none⟩ = some (.slice Aw nw cw) := by rw [← hX, cell_of_row _ _ _ _ _ _ (heap_alloc_new _ _)]; rfl
  have kpX : Kp (SS w R Ag none) w (((w.setCell ⟨R, 1, none⟩ (.int .u32 0)).setCell ⟨R, 2, none⟩ (.slice none 0 0)).alloc (.cells #[.int .u32 num, .slice Aw nw cw] 52)) := ((Kp.setCell (fun b h => h.2.1) _).trans (Kp.setCell (fun b h => h.2.1) _)).trans (Kp.below bX (fun b h => by rw [hX]; exact h.1))
  have hs5 : w.heap.size + 1 ≤ (((w.setCell ⟨R, 1, none⟩ (.int .u32 0)).setCell ⟨R, 2, none⟩ (.slice none 0 0)).alloc (.cells #[.int .u32 num, .slice Aw nw cw] 52)).heap.size := by simp
  have rdX5 : RdX (shW .u8 .u32) (((w.setCell ⟨R, 1, none⟩ (.int .u32 0)).setCell ⟨R, 2, none⟩ (.slice none 0 0)).alloc (.cells #[.int .u32 num, .slice Aw nw cw] 52)) (SS (((w.setCell ⟨R, 1, none⟩ (.int .u32 0)).setCell ⟨R, 2, none⟩ (.slice none 0 0)).alloc (.cells #[.int .u32 num, .slice Aw nw cw] 52)) R Ag none) Aw nw cw ws := rdXw.keep kpX (fun b h => ⟨by have := h.1; omega, h.2⟩)
  have rd5 : Rd bv (((w.setCell ⟨R, 1, none⟩ (.int .u32 0)).setCell ⟨R, 2, none⟩ (.slice none 0 0)).alloc (.cells #[.int .u32 num, .slice Aw nw cw] 52)) B (some ⟨b, off, none⟩) 9 c xs := hr.keepB (kpX b ⟨hbl, hbR, hbS.2.2.1, off_none _⟩)
  clear hX bX kpX k1 k2 f1 f2 bA rxA kA rdXw
  generalize (((w.setCell ⟨R, 1, none⟩ (.int .u32 0)).setCell ⟨R, 2, none⟩ (.slice none 0 0)).alloc (.cells #[.int .u32 num, .slice Aw nw cw] 52)) = w5 at *
  go_quiet (first
    | (go_at_call_of 43 (Value.int .i64 1); exact quiet_still (numAt_c b off 9 c B xs 1 _ (rd5.drewN _) (by omega) (by omega)))
    | (go_at_call_of 43 (Value.int .i64 5); exact quiet_still (numAt_c b off 9 c B xs 5 _ (rd5.drewN _) (by omega) (by omega))))
  go_wp2
  go_ret
  exact ⟨rfl, ⟨_, _, _, _, rx5.below (Still.below ⟨_, rfl⟩ _)⟩, bel5.trans (Still.below ⟨_, rfl⟩ _)⟩

set_option maxRecDepth 100000 in
set_option maxHeartbeats 8000000 in
theorem mark_cnt (R b off c B base : Nat) (xs : List UInt8) (w : World) (hr : Rd bv w B (some ⟨b, off, none⟩) 9 c xs)
    (Ag : Option Addr) (ng cg : Nat) (rgs : List RawG) (gs : List Gm) (num : Int) (Aw : Option Addr) (nw cw : Nat) (rws : List RawW) (ws : List Wm) (rx : RdrX w base R Ag ng cg rgs gs num Aw nw cw rws ws)
    (hbS : SS w R Ag Aw b) (hnw : nw ≤ 1000000) (hbase : base ≤ w.heap.size)
    (h0 : nw ≠ 0) (hg : (numC xs 1 : Int) = num) (hn5 : numC xs 5 ≠ nw) :
    Calls Try.prog 36 #[.pointer (some ⟨R, 0, none⟩), .slice (some ⟨b, off, none⟩) 9 c] w (RetMk base R Ag ng cg rgs gs 0 [] w false) := by
  have t0 : ((nw : Int) == 0) = false := by rw [beq_eq_false_iff_ne]; omega
  have t1 : ((numC xs 1 : Int) != num) = false := by rw [← hg]; simp
  have t2 : ((numC xs 5 : Int) != (nw : Int)) = true := by rw [bne_iff_ne]; omega
  clear h0 hg hn5
  have hcap := hr.cap
  have hbR : b ≠ R := hbS.2.1
  have hbl : b < w.heap.size := hbS.1
  obtain ⟨i0, hi, hz0, hz1, hz2⟩ := info_parts Try.infoGt
  have k1 := rx.c1
  have k2 := rx.c2
  have f1 := rx.fz 1
  have f2 := rx.fz 2
  have hRw : R < w.heap.size := rx.hi
  have bA : Below w.heap.size w (w.alloc (.cells #[.int .u32 num, .slice Aw nw cw] 52)) := (Below.refl _ _).alloc (Nat.le_refl _) _
  have rxA := rx.below bA
  have kA := rxA.c2
  have rdXw : RdX (shW .u8 .u32) w (SS w R Ag none) Aw nw cw ws := rx.wO.rd (fun b h => ⟨h.1, h.2.1, h.2.2.1, off_none _⟩) (fun k hk => ⟨(rx.wO.lt k hk).2, fun e => by subst e; exact rx.oW hk.symm, rx.oGW k hk, off_none _⟩)
  go_enter Try.func36, Try.ntmps36
  go_wp2_with (go_at_call 44; refine (rdnext_any R Aw nw cw _ kA hnw).mono ?_; rintro e w' ⟨rfl, rfl⟩)
  have hX : ((w.setCell ⟨R, 1, none⟩ (.int .u32 0)).setCell ⟨R, 2, none⟩ (.slice none 0 0)).heap.size = w.heap.size := by simp
  have bX : Below ((w.setCell ⟨R, 1, none⟩ (.int .u32 0)).setCell ⟨R, 2, none⟩ (.slice none 0 0)).heap.size ((w.setCell ⟨R, 1, none⟩ (.int .u32 0)).setCell ⟨R, 2, none⟩ (.slice none 0 0)) (((w.setCell ⟨R, 1, none⟩ (.int .u32 0)).setCell ⟨R, 2, none⟩ (.slice none 0 0)).alloc (.cells #[.int .u32 num, .slice Aw nw cw] 52)) := (Below.refl _ _).alloc (Nat.le_refl _) _
  have rx5 := (rx.reset 0).below bX
  have bel5 : Below base w (((w.setCell ⟨R, 1, none⟩ (.int .u32 0)).setCell ⟨R, 2, none⟩ (.slice none 0 0)).alloc (.cells #[.int .u32 num, .slice Aw nw cw] 52)) := (((Below.refl _ _).setCell rx.lo _).setCell rx.lo _).trans (bX.mono (by rw [hX]; exact hbase))
  have l0 : (((w.setCell ⟨R, 1, none⟩ (.int .u32 0)).setCell ⟨R, 2, none⟩ (.slice none 0 0)).alloc (.cells #[.int .u32 num, .slice Aw nw cw] 52)).cell? ⟨w.heap.size, 0, none⟩ = some (.int .u32 num) := by rw [← hX, cell_of_row _ _ _ _ _ _ (heap_alloc_new _ _)]; rfl
  have l1 : (((w.setCell ⟨R, 1, none⟩ (.int .u32 0)).setCell ⟨R, 2, none⟩ (.slice none 0 0)).alloc (.cells #[.int .u32 num, .slice Aw nw cw] 52)).cell? ⟨w.heap.size, 1, none⟩ = some (.slice Aw nw cw) := by rw [← hX, cell_of_row _ _ _ _ _ _ (heap_alloc_new _ _)]; rfl
  have kpX : Kp (SS w R Ag none) w (((w.setCell ⟨R, 1, none⟩ (.int .u32 0)).setCell ⟨R, 2, none⟩ (.slice none 0 0)).alloc (.cells #[.int .u32 num, .slice Aw nw cw] 52)) := ((Kp.setCell (fun b h => h.2.1) _).trans (Kp.setCell (fun b h => h.2.1) _)).trans (Kp.below bX (fun b h => by rw [hX]; exact h.1))
  have hs5 : w.heap.size + 1 ≤ (((w.setCell ⟨R, 1, none⟩ (.int .u32 0)).setCell ⟨R, 2, none⟩ (.slice none 0 0)).alloc (.cells #[.int .u32 num, .slice Aw nw cw] 52)).heap.size := by simp
  have rdX5 : RdX (shW .u8 .u32) (((w.setCell ⟨R, 1, none⟩ (.int .u32 0)).setCell ⟨R, 2, none⟩ (.slice none 0 0)).alloc (.cells #[.int .u32 num, .slice Aw nw cw] 52)) (SS (((w.setCell ⟨R, 1, none⟩ (.int .u32 0)).setCell ⟨R, 2, none⟩ (.slice none 0 0)).alloc (.cells #[.int .u32 num, .slice Aw nw cw] 52)) R Ag none) Aw nw cw ws := rdXw.keep kpX (fun b h => ⟨by have := h.1; omega, h.2⟩)
  have rd5 : Rd bv (((w.setCell ⟨R, 1, none⟩ (.int .u32 0)).setCell ⟨R, 2, none⟩ (.slice none 0 0)).alloc (.cells #[.int .u32 num, .slice Aw nw cw] 52)) B (some ⟨b, off, none⟩) 9 c xs := hr.keepB (kpX b ⟨hbl, hbR, hbS.2.2.1, off_none _⟩)
  clear hX bX kpX k1 k2 f1 f2 bA rxA kA rdXw
  generalize (((w.setCell ⟨R, 1, none⟩ (.int .u32 0)).setCell ⟨R, 2, none⟩ (.slice none 0 0)).alloc (.cells #[.int .u32 num, .slice Aw nw cw] 52)) = w5 at *
  go_quiet (first
    | (go_at_call_of 43 (Value.int .i64 1); exact quiet_still (numAt_c b off 9 c B xs 1 _ (rd5.drewN _) (by omega) (by omega)))
    | (go_at_call_of 43 (Value.int .i64 5); exact quiet_still (numAt_c b off 9 c B xs 5 _ (rd5.drewN _) (by omega) (by omega))))
  go_wp2
  go_ret
  exact ⟨rfl, ⟨_, _, _, _, rx5.below (Still.below ⟨_, rfl⟩ _)⟩, bel5.trans (Still.below ⟨_, rfl⟩ _)⟩

set_option maxRecDepth 100000 in
set_option maxHeartbeats 8000000 in
theorem mark_yes (R b off c B base : Nat) (xs : List UInt8) (w : World) (hr : Rd bv w B (some ⟨b, off, none⟩) 9 c xs)
    (Ag : Option Addr) (ng cg : Nat) (rgs : List RawG) (gs : List Gm) (num : Int) (Aw : Option Addr) (nw cw : Nat) (rws : List RawW) (ws : List Wm) (rx : RdrX w base R Ag ng cg rgs gs num Aw nw cw rws ws)
    (hbS : SS w R Ag Aw b) (hnw : nw ≤ 1000000) (hng : ng ≤ 1000000) (hbase : base ≤ w.heap.size)
    (h0 : nw ≠ 0) (hg : (numC xs 1 : Int) = num) (hn5 : numC xs 5 = nw) :
    Calls Try.prog 36 #[.pointer (some ⟨R, 0, none⟩), .slice (some ⟨b, off, none⟩) 9 c] w (RetYes base R gs num ws w) := by
  have t0 : ((nw : Int) == 0) = false := by rw [beq_eq_false_iff_ne]; omega
  have t1 : ((numC xs 1 : Int) != num) = false := by rw [← hg]; simp
  have t2 : ((numC xs 5 : Int) != (nw : Int)) = false := by rw [← hn5]; simp
  clear h0 hg hn5
  have hcap := hr.cap
  have hbR : b ≠ R := hbS.2.1
  have hbl : b < w.heap.size := hbS.1
  obtain ⟨i0, hi, hz0, hz1, hz2⟩ := info_parts Try.infoGt
  have k1 := rx.c1
  have k2 := rx.c2
  have f1 := rx.fz 1
  have f2 := rx.fz 2
  have hRw : R < w.heap.size := rx.hi
  have bA : Below w.heap.size w (w.alloc (.cells #[.int .u32 num, .slice Aw nw cw] 52)) := (Below.refl _ _).alloc (Nat.le_refl _) _
  have rxA := rx.below bA
  have kA := rxA.c2
  have rdXw : RdX (shW .u8 .u32) w (SS w R Ag none) Aw nw cw ws := rx.wO.rd (fun b h => ⟨h.1, h.2.1, h.2.2.1, off_none _⟩) (fun k hk => ⟨(rx.wO.lt k hk).2, fun e => by subst e; exact rx.oW hk.symm, rx.oGW k hk, off_none _⟩)
  go_enter Try.func36, Try.ntmps36
  go_wp2_with (go_at_call 44; refine (rdnext_any R Aw nw cw _ kA hnw).mono ?_; rintro e w' ⟨rfl, rfl⟩)
  have hX : ((w.setCell ⟨R, 1, none⟩ (.int .u32 0)).setCell ⟨R, 2, none⟩ (.slice none 0 0)).heap.size = w.heap.size := by simp
  have bX : Below ((w.setCell ⟨R, 1, none⟩ (.int .u32 0)).setCell ⟨R, 2, none⟩ (.slice none 0 0)).heap.size ((w.setCell ⟨R, 1, none⟩ (.int .u32 0)).setCell ⟨R, 2, none⟩ (.slice none 0 0)) (((w.setCell ⟨R, 1, none⟩ (.int .u32 0)).setCell ⟨R, 2, none⟩ (.slice none 0 0)).alloc (.cells #[.int .u32 num, .slice Aw nw cw] 52)) := (Below.refl _ _).alloc (Nat.le_refl _) _
  have rx5 := (rx.reset 0).below bX
  have bel5 : Below base w (((w.setCell ⟨R, 1, none⟩ (.int .u32 0)).setCell ⟨R, 2, none⟩ (.slice none 0 0)).alloc (.cells #[.int .u32 num, .slice Aw nw cw] 52)) := (((Below.refl _ _).setCell rx.lo _).setCell rx.lo _).trans (bX.mono (by rw [hX]; exact hbase))
  have l0 : (((w.setCell ⟨R, 1, none⟩ (.int .u32 0)).setCell ⟨R, 2, none⟩ (.slice none 0 0)).alloc (.cells #[.int .u32 num, .slice Aw nw cw] 52)).cell? ⟨w.heap.size, 0, none⟩ = some (.int .u32 num) := by rw [← hX, cell_of_row _ _ _ _ _ _ (heap_alloc_new _ _)]; rfl
  have l1 : (((w.setCell ⟨R, 1, none⟩ (.int .u32 0)).setCell ⟨R, 2, none⟩ (.slice none 0 0)).alloc (.cells #[.int .u32 num, .slice Aw nw cw] 52)).cell? ⟨w.heap.size, 1, none⟩ = some (.slice Aw nw cw) := by rw [← hX, cell_of_row _ _ _ _ _ _ (heap_alloc_new _ _)]; rfl
  have kpX : Kp (SS w R Ag none) w (((w.setCell ⟨R, 1, none⟩ (.int .u32 0)).setCell ⟨R, 2, none⟩ (.slice none 0 0)).alloc (.cells #[.int .u32 num, .slice Aw nw cw] 52)) := ((Kp.setCell (fun b h => h.2.1) _).trans (Kp.setCell (fun b h => h.2.1) _)).trans (Kp.below bX (fun b h => by rw [hX]; exact h.1))
  have hs5 : w.heap.size + 1 ≤ (((w.setCell ⟨R, 1, none⟩ (.int .u32 0)).setCell ⟨R, 2, none⟩ (.slice none 0 0)).alloc (.cells #[.int .u32 num, .slice Aw nw cw] 52)).heap.size := by simp
  have rdX5 : RdX (shW .u8 .u32) (((w.setCell ⟨R, 1, none⟩ (.int .u32 0)).setCell ⟨R, 2, none⟩ (.slice none 0 0)).alloc (.cells #[.int .u32 num, .slice Aw nw cw] 52)) (SS (((w.setCell ⟨R, 1, none⟩ (.int .u32 0)).setCell ⟨R, 2, none⟩ (.slice none 0 0)).alloc (.cells #[.int .u32 num, .slice Aw nw cw] 52)) R Ag none) Aw nw cw ws := rdXw.keep kpX (fun b h => ⟨by have := h.1; omega, h.2⟩)
  have rd5 : Rd bv (((w.setCell ⟨R, 1, none⟩ (.int .u32 0)).setCell ⟨R, 2, none⟩ (.slice none 0 0)).alloc (.cells #[.int .u32 num, .slice Aw nw cw] 52)) B (some ⟨b, off, none⟩) 9 c xs := hr.keepB (kpX b ⟨hbl, hbR, hbS.2.2.1, off_none _⟩)
  clear hX bX kpX k1 k2 f1 f2 bA rxA kA rdXw
  generalize (((w.setCell ⟨R, 1, none⟩ (.int .u32 0)).setCell ⟨R, 2, none⟩ (.slice none 0 0)).alloc (.cells #[.int .u32 num, .slice Aw nw cw] 52)) = w5 at *
  go_quiet (first
    | (go_at_call_of 43 (Value.int .i64 1); exact quiet_still (numAt_c b off 9 c B xs 1 _ (rd5.drewN _) (by omega) (by omega)))
    | (go_at_call_of 43 (Value.int .i64 5); exact quiet_still (numAt_c b off 9 c B xs 5 _ (rd5.drewN _) (by omega) (by omega))))
  rename_i nq
  have st6 : Still w5 (w5.drewN nq) := ⟨nq, rfl⟩
  have rx6 := rx5.below (st6.below _)
  have bel6 := bel5.trans (st6.below _)
  have m0 : (w5.drewN nq).cell? ⟨w.heap.size, 0, none⟩ = some (.int .u32 num) := l0
  have m1 : (w5.drewN nq).cell? ⟨w.heap.size, 1, none⟩ = some (.slice Aw nw cw) := l1
  have rdX6 : RdX (shW .u8 .u32) (w5.drewN nq) (SS (w5.drewN nq) R Ag none) Aw nw cw ws := rdX5.keep (Kp.drewN _ _ _) (fun b h => h)
  have hs6 : w.heap.size + 1 ≤ (w5.drewN nq).heap.size := hs5
  clear st6 rx5 bel5 l0 l1 rdX5 hs5 rd5
  generalize w5.drewN nq = w6 at *
  go_wp2_with fail
  have k0 := rx6.c0
  have rxA := rx6.below ((Below.refl _ _).alloc (Nat.le_refl _) (.cells #[.int .u32 num, .slice Aw nw cw] 52)).drew
  have hnA := news_one (shG .u8 .u32) w6 #[.int .u32 num, .slice Aw nw cw] 52 (0, 0) ⟨num, Aw, nw, cw⟩ _ rfl rfl
  have hbase6 : base ≤ w6.heap.size := by omega
  have belA : Below base w (w6.alloc (.cells #[.int .u32 num, .slice Aw nw cw] 52)).drew := (bel6.alloc hbase6 _).drew
  have ownA : (w6.alloc (.cells #[.int .u32 num, .slice Aw nw cw] 52)).drew.ownsRow base 52 2 (.slice Ag ng cg) ng (rgs.flatMap (shG .u8 .u32).raw) := rxA.gO.own
  have hszA : (w6.alloc (.cells #[.int .u32 num, .slice Aw nw cw] 52)).drew.heap.size = w6.heap.size + 1 := by simp
  have kA : (w6.alloc (.cells #[.int .u32 num, .slice Aw nw cw] 52)).cell? ⟨R, 0, none⟩ = some (.slice Ag ng cg) := rxA.c0
  have rdXA : RdX (shW .u8 .u32) (w6.alloc (.cells #[.int .u32 num, .slice Aw nw cw] 52)).drew (SS (w6.alloc (.cells #[.int .u32 num, .slice Aw nw cw] 52)).drew R Ag none) Aw nw cw ws :=
    rdX6.keep (Kp.below ((Below.refl _ _).alloc (Nat.le_refl _) _).drew (fun b h => h.1)) (fun b h => ⟨by rw [hszA]; have := h.1; omega, h.2⟩)
  have HSA := Lib.hid hszA
  have HNA := Lib.hid hnA
  clear hszA hnA
  go_region_law (refine step_append_lies _ rfl (.tmp 36) (.tmp 38) 28 rfl base 52 i0 _ 2 32 Try.underlying28 hi hz0 hz1 hz2 rfl (by omega) (.slice Ag ng cg) ng _ rfl ownA ⟨w6.heap.size, 0, none⟩ 1 1 ((shG .u8 .u32).raw ⟨num, Aw, nw, cw⟩) rfl rfl HNA.out ((shG .u8 .u32).one _) (by omega) (by simp only [maxLen]; omega) (by omega) (by rw [HSA.out]; omega) (w6.heap.size + 1) HSA.out ?_
                 intro g6 c6 w7 hown6 hg6 hat6 hlt6
                 have kk : w7.cell? ⟨R, 0, none⟩ = some (.slice Ag ng cg) := (World.cell?_of_block (a := ⟨R, 0, none⟩) (hg6.block R rxA.hi (by rw [ownBlock_slice]; exact rxA.oG))).trans rxA.c0
                 have ff : w7.frozen? ⟨R, 0, none⟩ = false := (World.frozen?_of_block (a := ⟨R, 0, none⟩) (hg6.block R rxA.hi (by rw [ownBlock_slice]; exact rxA.oG))).trans (rxA.fz 0))
  all_goals
    go_wp2
    go_ret
    rw [ownBlock_slice] at hg6 hat6
    refine ⟨rfl, ⟨_, _, _, _, rxA.pushG (x := ⟨num, ws⟩) ⟨rfl, rdXA⟩ hown6 hg6 (by rw [HSA.out]; exact hat6)⟩, ?_⟩
    exact ((belA.grown hg6 (by rw [HSA.out]; omega) (fun k hk => (rxA.gO.lt k hk).1))).setCell rx.lo _

end Go.Proofs.Ytkgccoghdalniaa
