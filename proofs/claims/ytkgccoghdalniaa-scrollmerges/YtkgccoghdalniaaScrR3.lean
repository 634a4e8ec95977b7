/- The contracts of package scroll's reader: record, a write that is right. No law is claimed here. -/
import Derived.Test.YtkgccoghdalniaaScrR2
namespace Go.Proofs.Ytkgccoghdalniaa
open Go.RowKit

theorem Try.infoWt : (Try.prog.info? 44).map (fun i => (i.zero, i.size, i.bytes)) = some (some (.agg #[.int .u8 0, .int .u32 0, .slice none 0 0]), 3, 32) := by kernel_rfl

theorem Rd.toP {α : Type} {f : α → Value} {w : World} {B b off n c : Nat} {xs : List α} {S : Nat → Prop} (h : Rd f w B (some ⟨b, off, none⟩) n c xs) (hS : S b) : Rdp f w S (some ⟨b, off, none⟩) n c xs :=
  ⟨h.len, h.cap, fun j hj => ⟨b, off, rfl, hS, (rd_cell h j hj).2⟩⟩

theorem Rd.keepB {α : Type} {f : α → Value} {w w' : World} {B b off n c : Nat} {xs : List α} (h : Rd f w B (some ⟨b, off, none⟩) n c xs) (hk : w'.heap[b]? = w.heap[b]?) : Rd f w' B (some ⟨b, off, none⟩) n c xs :=
  ⟨h.len, h.cap, fun j hj => ⟨b, off, rfl, (rd_cell h j hj).1, (World.cell?_of_block (a := ⟨b, off + j, none⟩) hk).trans (rd_cell h j hj).2⟩⟩

/-- what record, mark answer: the reader goes on -/
def RetRec (base R : Nat) (Ag : Option Addr) (ng cg : Nat) (rgs : List RawG) (gs : List Gm) (num : Int) (ws : List Wm) (w : World) (e : Ending) (w' : World) : Prop :=
  e = .returned (.bool true) ∧ (∃ Aw nw cw rws, RdrX w' base R Ag ng cg rgs gs num Aw nw cw rws ws) ∧ Below base w w'

set_option maxRecDepth 100000 in
set_option maxHeartbeats 8000000 in
theorem record_on (R b off n c B base : Nat) (xs : List UInt8) (w : World) (hr : Rd bv w B (some ⟨b, off, none⟩) n c xs) (hl : 15 ≤ n) (hB : B ≤ w.heap.size) (hn : n ≤ 1000000)
    (hgood : rightB ((xs.getD 9 0).toNat : Int) (numC xs 10 : Int) (n - 14) = true)
    (Ag : Option Addr) (ng cg : Nat) (rgs : List RawG) (gs : List Gm) (num : Int) (Aw : Option Addr) (nw cw : Nat) (rws : List RawW) (ws : List Wm) (rx : RdrX w base R Ag ng cg rgs gs num Aw nw cw rws ws)
    (hbS : SS w R Ag Aw b) (hnw : nw ≤ 1000000) (hbase : base ≤ w.heap.size)
    (hg : (numC xs 1 : Int) = num) (hi5 : numC xs 5 = nw) :
    Calls Try.prog 35 #[.pointer (some ⟨R, 0, none⟩), .slice (some ⟨b, off, none⟩) n c] w (RetRec base R Ag ng cg rgs gs num (ws ++ [recW xs]) w) := by
  have H1 : Hid ((takeN ((xs.drop 1).take 4) : Int) = num) := hg
  have H5 : Hid ((takeN ((xs.drop 5).take 4) : Int) = (nw : Int)) := by show _ = _; rw [← hi5]; rfl
  clear hg hi5
  have t1 : (num != num) = false := by simp
  have t2 : ((nw : Int) != (nw : Int)) = false := by simp
  have t3 : ((nw : Int) == (nw : Int)) = true := by simp
  have hcap := hr.cap
  have hlen := hr.len
  obtain ⟨hbB, hc9⟩ := rd_cell hr 9 (by omega)
  have e9 : xs.getD 9 0 = xs[9] := by rw [List.getD_eq_getElem?_getD, List.getElem?_eq_getElem (by omega)]; rfl
  rw [e9] at hgood
  have h10 := numC_lt xs 10
  have HW : Hid (recW xs = ⟨xs[9], (numC xs 10 : Nat), xs.drop 14⟩) := by show _ = _; unfold recW; rw [e9]
  have H10 : Hid ((takeN ((xs.drop 10).take 4) : Int) = ((numC xs 10 : Nat) : Int)) := rfl
  generalize numC xs 10 = z10 at *
  obtain ⟨a10, HZ, ha0, ha1⟩ : ∃ z : Int, Hid ((z10 : Int) = z) ∧ 0 ≤ z ∧ z < 4294967296 := ⟨_, rfl, by omega, by omega⟩
  rw [HZ.out] at H10 hgood HW
  generalize xs[9] = x9 at *
  generalize recW xs = rw0 at *
  obtain rfl := HW.out
  have HB := Lib.hid hgood
  unfold bv at hc9
  have hx9 := x9.toNat_lt
  clear hlen e9 hgood h10 HZ HW
  have i9 : (9 : Int) < n := by omega
  have i14 : (14 : Int) ≤ c := by omega
  have n14 : ¬ c = 14 := by omega
  have n14' : 14 ≤ c := by omega
  have i14n : (14 : Int) ≤ n := by omega
  have i14n' : 14 ≤ n := by omega
  have hbl : b < w.heap.size := by omega
  have rdD : Rd bv w B (some ⟨b, off + 14, none⟩) (n - 14) (c - 14) (xs.drop 14) := hr.drop 14 (by omega)
  obtain ⟨i0, hi, hz0, hz1, hz2⟩ := info_parts Try.infoWt
  go_enter Try.func35, Try.ntmps35
  go_wp2_with fail
  have ds := setCell_drewN
  have da := alloc_drewN
  go_region_held3 (fun w' => w'.cell? ⟨b, off + 9, none⟩ = some (.int .u8 (x9.toNat : Int))) (first | exact hc9 | exact (World.cell?_alloc_lt w _ _ hbl).trans hc9) (first
    | (go_at_call 43; refine (numAt_any b off n c B xs 10 _ (by first | exact hr | exact hr.drew | exact (hr.alloc hB _) | exact (hr.alloc hB _).drew) (by omega) (by omega)).mono ?_; rintro e w1 ⟨rfl, q, rfl⟩; rw [H10.out]))
  all_goals
    clear ds da
    go_wp2_with fail
    refine (wright_any _ a10 _ _ _ _ (by omega) (by omega) ha0 ha1 (by omega)).mono ?_
    rintro e w2 ⟨rfl, hb2⟩
    rw [HB.out]
    have hbx : Below (w.heap.size + 1) (w.alloc (.cells #[.int .u8 (x9.toNat : Int), .int .u32 a10, .slice (some ⟨b, off + 14, none⟩) (n - 14) (c - 14)] 44)) w2 := Below.trans (Still.below ⟨_, rfl⟩ _) (hb2.mono (by simp))
    have bel2 : Below w.heap.size w w2 := ((Below.refl _ _).alloc (Nat.le_refl _) _).trans (hbx.mono (by omega))
    have hs2 : w.heap.size + 1 ≤ w2.heap.size := by have := hbx.size; simp at this; omega
    clear hb2
    go_wp2_with fail
    refine (numAt_any b off n c B xs 1 _ (hr.belowLe bel2 hB) (by omega) (by omega)).mono ?_
    rintro e w3 ⟨rfl, hst3⟩
    rw [H1.out]
    go_wp2_with fail
    refine (numAt_any b off n c B xs 5 _ ((hr.belowLe bel2 hB).still hst3) (by omega) (by omega)).mono ?_
    rintro e w4 ⟨rfl, hst4⟩
    rw [H5.out]
    have hby : Below (w.heap.size + 1) (w.alloc (.cells #[.int .u8 (x9.toNat : Int), .int .u32 a10, .slice (some ⟨b, off + 14, none⟩) (n - 14) (c - 14)] 44)) w4 := hbx.trans ((hst3.trans hst4).below _)
    have bel4 : Below w.heap.size w w4 := bel2.trans ((hst3.trans hst4).below _)
    have hs4 : w.heap.size + 1 ≤ w4.heap.size := by have := ((hst3.trans hst4).below 0).size; omega
    have rx4 := rx.below bel4
    have l0 : w4.cell? ⟨w.heap.size, 0, none⟩ = some (.int .u8 (x9.toNat : Int)) := box_cell hby 0
    have l1 : w4.cell? ⟨w.heap.size, 1, none⟩ = some (.int .u32 a10) := box_cell hby 1
    have l2 : w4.cell? ⟨w.heap.size, 2, none⟩ = some (.slice (some ⟨b, off + 14, none⟩) (n - 14) (c - 14)) := box_cell hby 2
    have rdD4 := rdD.belowLe bel4 hB
    have hbase4 : base ≤ w4.heap.size := by omega
    clear hst3 hst4 hbx bel2 hby
    have k1 := rx4.c1
    have k2 := rx4.c2
    have hRw : R < w.heap.size := rx.hi
    go_wp2_with (go_at_call 44; refine (rdnext_any R Aw nw cw _ k2 hnw).mono ?_; rintro e w' ⟨rfl, rfl⟩)
    have rx5 := rx4
    have bel5 := bel4.mono hbase
    have hbS5 := hbS.2
    have hs5 := hs4
    have rdD5 := rdD4
    have hbase5 := hbase4
    clear rx4
    have rxA := rx5.below ((Below.refl _ _).alloc (Nat.le_refl _) (.cells #[.int .u8 (x9.toNat : Int), .int .u32 a10, .slice (some ⟨b, off + 14, none⟩) (n - 14) (c - 14)] 44)).drew
    have rdA : Rd bv (w4.alloc (.cells #[.int .u8 (x9.toNat : Int), .int .u32 a10, .slice (some ⟨b, off + 14, none⟩) (n - 14) (c - 14)] 44)).drew B (some ⟨b, off + 14, none⟩) (n - 14) (c - 14) (xs.drop 14) := (rdD5.alloc (by omega) _).drew
    have hnA := news_one (shW .u8 .u32) w4 #[.int .u8 (x9.toNat : Int), .int .u32 a10, .slice (some ⟨b, off + 14, none⟩) (n - 14) (c - 14)] 44 (0, 0) ⟨x9, a10, some ⟨b, off + 14, none⟩, n - 14, c - 14⟩ _ rfl rfl
    have belA : Below base w (w4.alloc (.cells #[.int .u8 (x9.toNat : Int), .int .u32 a10, .slice (some ⟨b, off + 14, none⟩) (n - 14) (c - 14)] 44)).drew := (bel5.alloc hbase5 _).drew
    have hSA : SS (w4.alloc (.cells #[.int .u8 (x9.toNat : Int), .int .u32 a10, .slice (some ⟨b, off + 14, none⟩) (n - 14) (c - 14)] 44)).drew R Ag Aw b := ⟨Nat.lt_of_lt_of_le hbl belA.size, hbS5⟩
    have ownA : (w4.alloc (.cells #[.int .u8 (x9.toNat : Int), .int .u32 a10, .slice (some ⟨b, off + 14, none⟩) (n - 14) (c - 14)] 44)).drew.ownsRow base 44 3 (.slice Aw nw cw) nw (rws.flatMap (shW .u8 .u32).raw) := rxA.wO.own
    have hszA : (w4.alloc (.cells #[.int .u8 (x9.toNat : Int), .int .u32 a10, .slice (some ⟨b, off + 14, none⟩) (n - 14) (c - 14)] 44)).drew.heap.size = w4.heap.size + 1 := by simp
    have kA : (w4.alloc (.cells #[.int .u8 (x9.toNat : Int), .int .u32 a10, .slice (some ⟨b, off + 14, none⟩) (n - 14) (c - 14)] 44)).cell? ⟨R, 2, none⟩ = some (.slice Aw nw cw) := rxA.c2
    have HSA := Lib.hid hszA
    have HNA := Lib.hid hnA
    clear hszA hnA
    go_region_law (refine step_append_lies _ rfl (.tmp 50) (.tmp 52) 37 rfl base 44 i0 _ 3 32 Try.underlying37 hi hz0 hz1 hz2 rfl (by omega) (.slice Aw nw cw) nw _ rfl ownA ⟨w4.heap.size, 0, none⟩ 1 1 ((shW .u8 .u32).raw ⟨x9, a10, some ⟨b, off + 14, none⟩, n - 14, c - 14⟩) rfl rfl HNA.out ((shW .u8 .u32).one _) (by omega) (by simp only [maxLen]; omega) (by omega) (by rw [HSA.out]; omega) (w4.heap.size + 1) HSA.out ?_
                   intro g6 c6 w6 hown6 hg6 hat6 hlt6
                   have kk : w6.cell? ⟨R, 2, none⟩ = some (.slice Aw nw cw) := (World.cell?_of_block (a := ⟨R, 2, none⟩) (hg6.block R rxA.hi (by rw [ownBlock_slice]; exact rxA.oW))).trans rxA.c2
                   have ff : w6.frozen? ⟨R, 2, none⟩ = false := (World.frozen?_of_block (a := ⟨R, 2, none⟩) (hg6.block R rxA.hi (by rw [ownBlock_slice]; exact rxA.oW))).trans (rxA.fz 2))
    all_goals
      go_wp2
      go_ret
      rw [ownBlock_slice] at hg6 hat6
      refine ⟨rfl, ⟨_, _, _, _, rxA.pushW (x := ⟨x9, a10, xs.drop 14⟩) ⟨rfl, rfl, rdA.toP hSA⟩ hown6 hg6 (by rw [HSA.out]; exact hat6) hlt6⟩, ?_⟩
      exact (((belA).grown hg6 (by rw [HSA.out]; omega) (fun k hk => (rxA.wO.lt k hk).1))).setCell rx.lo _

set_option maxRecDepth 100000 in
set_option maxHeartbeats 8000000 in
theorem record_drop1 (R b off n c B base : Nat) (xs : List UInt8) (w : World) (hr : Rd bv w B (some ⟨b, off, none⟩) n c xs) (hl : 15 ≤ n) (hB : B ≤ w.heap.size) (hn : n ≤ 1000000)
    (hgood : rightB ((xs.getD 9 0).toNat : Int) (numC xs 10 : Int) (n - 14) = true)
    (Ag : Option Addr) (ng cg : Nat) (rgs : List RawG) (gs : List Gm) (num : Int) (Aw : Option Addr) (nw cw : Nat) (rws : List RawW) (ws : List Wm) (rx : RdrX w base R Ag ng cg rgs gs num Aw nw cw rws ws)
    (hbS : SS w R Ag Aw b) (_hnw : nw ≤ 1000000) (hbase : base ≤ w.heap.size)
    (hg : (numC xs 1 : Int) ≠ num) (hz5 : numC xs 5 ≠ 0) :
    Calls Try.prog 35 #[.pointer (some ⟨R, 0, none⟩), .slice (some ⟨b, off, none⟩) n c] w (RetRec base R Ag ng cg rgs gs (numC xs 1 : Int) [] w) := by
  have h1 := numC_lt xs 1
  obtain ⟨g1, H1, hg0, hg2⟩ : ∃ z : Int, Hid ((takeN ((xs.drop 1).take 4) : Int) = z) ∧ 0 ≤ z ∧ z < 4294967296 := ⟨_, rfl, by show _ ≤ ((numC xs 1 : Nat) : Int); omega, by show ((numC xs 1 : Nat) : Int) < _; omega⟩
  have e1 : (numC xs 1 : Int) = g1 := H1.out
  rw [e1] at hg ⊢
  have h5 := numC_lt xs 5
  obtain ⟨i5, H5, hi0, hi2⟩ : ∃ z : Int, Hid ((takeN ((xs.drop 5).take 4) : Int) = z) ∧ 0 ≤ z ∧ z < 4294967296 := ⟨_, rfl, by show _ ≤ ((numC xs 5 : Nat) : Int); omega, by show ((numC xs 5 : Nat) : Int) < _; omega⟩
  have e5 : (numC xs 5 : Int) = i5 := H5.out
  clear h1 h5 e1
  have t1 : (g1 != num) = true := by rw [bne_iff_ne]; exact hg
  have t3 : (i5 == 0) = false := by rw [beq_eq_false_iff_ne]; omega
  clear hg hz5 e5
  have hcap := hr.cap
  have hlen := hr.len
  obtain ⟨hbB, hc9⟩ := rd_cell hr 9 (by omega)
  have e9 : xs.getD 9 0 = xs[9] := by rw [List.getD_eq_getElem?_getD, List.getElem?_eq_getElem (by omega)]; rfl
  rw [e9] at hgood
  have h10 := numC_lt xs 10
  have HW : Hid (recW xs = ⟨xs[9], (numC xs 10 : Nat), xs.drop 14⟩) := by show _ = _; unfold recW; rw [e9]
  have H10 : Hid ((takeN ((xs.drop 10).take 4) : Int) = ((numC xs 10 : Nat) : Int)) := rfl
  generalize numC xs 10 = z10 at *
  obtain ⟨a10, HZ, ha0, ha1⟩ : ∃ z : Int, Hid ((z10 : Int) = z) ∧ 0 ≤ z ∧ z < 4294967296 := ⟨_, rfl, by omega, by omega⟩
  rw [HZ.out] at H10 hgood HW
  generalize xs[9] = x9 at *
  generalize recW xs = rw0 at *
  obtain rfl := HW.out
  have HB := Lib.hid hgood
  unfold bv at hc9
  have hx9 := x9.toNat_lt
  clear hlen e9 hgood h10 HZ HW
  have i9 : (9 : Int) < n := by omega
  have i14 : (14 : Int) ≤ c := by omega
  have n14 : ¬ c = 14 := by omega
  have n14' : 14 ≤ c := by omega
  have i14n : (14 : Int) ≤ n := by omega
  have i14n' : 14 ≤ n := by omega
  have hbl : b < w.heap.size := by omega
  have rdD : Rd bv w B (some ⟨b, off + 14, none⟩) (n - 14) (c - 14) (xs.drop 14) := hr.drop 14 (by omega)
  obtain ⟨i0, hi, hz0, hz1, hz2⟩ := info_parts Try.infoWt
  go_enter Try.func35, Try.ntmps35
  go_wp2_with fail
  have ds := setCell_drewN
  have da := alloc_drewN
  go_region_held3 (fun w' => w'.cell? ⟨b, off + 9, none⟩ = some (.int .u8 (x9.toNat : Int))) (first | exact hc9 | exact (World.cell?_alloc_lt w _ _ hbl).trans hc9) (first
    | (go_at_call 43; refine (numAt_any b off n c B xs 10 _ (by first | exact hr | exact hr.drew | exact (hr.alloc hB _) | exact (hr.alloc hB _).drew) (by omega) (by omega)).mono ?_; rintro e w1 ⟨rfl, q, rfl⟩; rw [H10.out]))
  all_goals
    clear ds da
    go_wp2_with fail
    refine (wright_any _ a10 _ _ _ _ (by omega) (by omega) ha0 ha1 (by omega)).mono ?_
    rintro e w2 ⟨rfl, hb2⟩
    rw [HB.out]
    have hbx : Below (w.heap.size + 1) (w.alloc (.cells #[.int .u8 (x9.toNat : Int), .int .u32 a10, .slice (some ⟨b, off + 14, none⟩) (n - 14) (c - 14)] 44)) w2 := Below.trans (Still.below ⟨_, rfl⟩ _) (hb2.mono (by simp))
    have bel2 : Below w.heap.size w w2 := ((Below.refl _ _).alloc (Nat.le_refl _) _).trans (hbx.mono (by omega))
    have hs2 : w.heap.size + 1 ≤ w2.heap.size := by have := hbx.size; simp at this; omega
    clear hb2
    go_wp2_with fail
    refine (numAt_any b off n c B xs 1 _ (hr.belowLe bel2 hB) (by omega) (by omega)).mono ?_
    rintro e w3 ⟨rfl, hst3⟩
    rw [H1.out]
    go_wp2_with fail
    refine (numAt_any b off n c B xs 5 _ ((hr.belowLe bel2 hB).still hst3) (by omega) (by omega)).mono ?_
    rintro e w4 ⟨rfl, hst4⟩
    rw [H5.out]
    have hby : Below (w.heap.size + 1) (w.alloc (.cells #[.int .u8 (x9.toNat : Int), .int .u32 a10, .slice (some ⟨b, off + 14, none⟩) (n - 14) (c - 14)] 44)) w4 := hbx.trans ((hst3.trans hst4).below _)
    have bel4 : Below w.heap.size w w4 := bel2.trans ((hst3.trans hst4).below _)
    have hs4 : w.heap.size + 1 ≤ w4.heap.size := by have := ((hst3.trans hst4).below 0).size; omega
    have rx4 := rx.below bel4
    have l0 : w4.cell? ⟨w.heap.size, 0, none⟩ = some (.int .u8 (x9.toNat : Int)) := box_cell hby 0
    have l1 : w4.cell? ⟨w.heap.size, 1, none⟩ = some (.int .u32 a10) := box_cell hby 1
    have l2 : w4.cell? ⟨w.heap.size, 2, none⟩ = some (.slice (some ⟨b, off + 14, none⟩) (n - 14) (c - 14)) := box_cell hby 2
    have rdD4 := rdD.belowLe bel4 hB
    have hbase4 : base ≤ w4.heap.size := by omega
    clear hst3 hst4 hbx bel2 hby
    have k1 := rx4.c1
    have k2 := rx4.c2
    have hRw : R < w.heap.size := rx.hi
    have f1 := rx4.fz 1
    have f2 := rx4.fz 2
    go_wp2_with fail
    have rx5 := rx4.reset g1
    have bel5 : Below base w ((w4.setCell ⟨R, 1, none⟩ (.int .u32 g1)).setCell ⟨R, 2, none⟩ (.slice none 0 0)) := ((bel4.mono hbase).setCell rx.lo _).setCell rx.lo _
    have hne : ∀ i j, (⟨R, i, none⟩ : Addr) ≠ ⟨w.heap.size, j, none⟩ := fun i j e => by injection e with e1 e2; omega
    have m0 : ((w4.setCell ⟨R, 1, none⟩ (.int .u32 g1)).setCell ⟨R, 2, none⟩ (.slice none 0 0)).cell? ⟨w.heap.size, 0, none⟩ = some (.int .u8 (x9.toNat : Int)) := by rw [World.cell?_setCell_other _ _ _ _ (hne _ _), World.cell?_setCell_other _ _ _ _ (hne _ _)]; exact l0
    have m1 : ((w4.setCell ⟨R, 1, none⟩ (.int .u32 g1)).setCell ⟨R, 2, none⟩ (.slice none 0 0)).cell? ⟨w.heap.size, 1, none⟩ = some (.int .u32 a10) := by rw [World.cell?_setCell_other _ _ _ _ (hne _ _), World.cell?_setCell_other _ _ _ _ (hne _ _)]; exact l1
    have m2 : ((w4.setCell ⟨R, 1, none⟩ (.int .u32 g1)).setCell ⟨R, 2, none⟩ (.slice none 0 0)).cell? ⟨w.heap.size, 2, none⟩ = some (.slice (some ⟨b, off + 14, none⟩) (n - 14) (c - 14)) := by rw [World.cell?_setCell_other _ _ _ _ (hne _ _), World.cell?_setCell_other _ _ _ _ (hne _ _)]; exact l2
    have hbR : b ≠ R := hbS.2.1
    have rdD5 : Rd bv ((w4.setCell ⟨R, 1, none⟩ (.int .u32 g1)).setCell ⟨R, 2, none⟩ (.slice none 0 0)) B (some ⟨b, off + 14, none⟩) (n - 14) (c - 14) (xs.drop 14) :=
      rdD4.keepB (by rw [Below.heap_setCell _ _ _ _ hbR, Below.heap_setCell _ _ _ _ hbR])
    have hbS5 : b ≠ R ∧ Off Ag b ∧ Off none b := ⟨hbR, hbS.2.2.1, off_none _⟩
    have hs5 : w.heap.size + 1 ≤ ((w4.setCell ⟨R, 1, none⟩ (.int .u32 g1)).setCell ⟨R, 2, none⟩ (.slice none 0 0)).heap.size := by simpa using hs4
    have hbase5 : base ≤ ((w4.setCell ⟨R, 1, none⟩ (.int .u32 g1)).setCell ⟨R, 2, none⟩ (.slice none 0 0)).heap.size := by simpa using hbase4
    clear rx4 k1 k2 l0 l1 l2 bel4 rdD4 hne hs4 hbase4 f1 f2
    generalize (w4.setCell ⟨R, 1, none⟩ (.int .u32 g1)).setCell ⟨R, 2, none⟩ (.slice none 0 0) = w5 at *
    have k5 := rx5.c2
    refine (rdnext_any R none 0 0 _ k5 (by omega)).mono ?_
    rintro e w' ⟨rfl, rfl⟩
    go_wp2
    go_ret
    exact ⟨rfl, ⟨_, _, _, _, rx5⟩, bel5⟩

set_option maxRecDepth 100000 in
set_option maxHeartbeats 8000000 in
theorem record_drop2 (R b off n c B base : Nat) (xs : List UInt8) (w : World) (hr : Rd bv w B (some ⟨b, off, none⟩) n c xs) (hl : 15 ≤ n) (hB : B ≤ w.heap.size) (hn : n ≤ 1000000)
    (hgood : rightB ((xs.getD 9 0).toNat : Int) (numC xs 10 : Int) (n - 14) = true)
    (Ag : Option Addr) (ng cg : Nat) (rgs : List RawG) (gs : List Gm) (num : Int) (Aw : Option Addr) (nw cw : Nat) (rws : List RawW) (ws : List Wm) (rx : RdrX w base R Ag ng cg rgs gs num Aw nw cw rws ws)
    (hbS : SS w R Ag Aw b) (hnw : nw ≤ 1000000) (hbase : base ≤ w.heap.size)
    (hg : (numC xs 1 : Int) = num) (hi5 : (numC xs 5 : Int) ≠ nw) (hz5 : numC xs 5 ≠ 0) :
    Calls Try.prog 35 #[.pointer (some ⟨R, 0, none⟩), .slice (some ⟨b, off, none⟩) n c] w (RetRec base R Ag ng cg rgs gs (numC xs 1 : Int) [] w) := by
  have h1 := numC_lt xs 1
  obtain ⟨g1, H1, hg0, hg2⟩ : ∃ z : Int, Hid ((takeN ((xs.drop 1).take 4) : Int) = z) ∧ 0 ≤ z ∧ z < 4294967296 := ⟨_, rfl, by show _ ≤ ((numC xs 1 : Nat) : Int); omega, by show ((numC xs 1 : Nat) : Int) < _; omega⟩
  have e1 : (numC xs 1 : Int) = g1 := H1.out
  rw [e1] at hg ⊢
  have h5 := numC_lt xs 5
  obtain ⟨i5, H5, hi0, hi2⟩ : ∃ z : Int, Hid ((takeN ((xs.drop 5).take 4) : Int) = z) ∧ 0 ≤ z ∧ z < 4294967296 := ⟨_, rfl, by show _ ≤ ((numC xs 5 : Nat) : Int); omega, by show ((numC xs 5 : Nat) : Int) < _; omega⟩
  have e5 : (numC xs 5 : Int) = i5 := H5.out
  clear h1 h5 e1
  have t1 : (g1 != num) = false := by rw [hg]; simp
  have t3 : (i5 == 0) = false := by rw [beq_eq_false_iff_ne]; omega
  have t2 : (i5 != (nw : Int)) = true := by rw [bne_iff_ne]; omega
  clear hg hz5 e5 hi5
  have hcap := hr.cap
  have hlen := hr.len
  obtain ⟨hbB, hc9⟩ := rd_cell hr 9 (by omega)
  have e9 : xs.getD 9 0 = xs[9] := by rw [List.getD_eq_getElem?_getD, List.getElem?_eq_getElem (by omega)]; rfl
  rw [e9] at hgood
  have h10 := numC_lt xs 10
  have HW : Hid (recW xs = ⟨xs[9], (numC xs 10 : Nat), xs.drop 14⟩) := by show _ = _; unfold recW; rw [e9]
  have H10 : Hid ((takeN ((xs.drop 10).take 4) : Int) = ((numC xs 10 : Nat) : Int)) := rfl
  generalize numC xs 10 = z10 at *
  obtain ⟨a10, HZ, ha0, ha1⟩ : ∃ z : Int, Hid ((z10 : Int) = z) ∧ 0 ≤ z ∧ z < 4294967296 := ⟨_, rfl, by omega, by omega⟩
  rw [HZ.out] at H10 hgood HW
  generalize xs[9] = x9 at *
  generalize recW xs = rw0 at *
  obtain rfl := HW.out
  have HB := Lib.hid hgood
  unfold bv at hc9
  have hx9 := x9.toNat_lt
  clear hlen e9 hgood h10 HZ HW
  have i9 : (9 : Int) < n := by omega
  have i14 : (14 : Int) ≤ c := by omega
  have n14 : ¬ c = 14 := by omega
  have n14' : 14 ≤ c := by omega
  have i14n : (14 : Int) ≤ n := by omega
  have i14n' : 14 ≤ n := by omega
  have hbl : b < w.heap.size := by omega
  have rdD : Rd bv w B (some ⟨b, off + 14, none⟩) (n - 14) (c - 14) (xs.drop 14) := hr.drop 14 (by omega)
  obtain ⟨i0, hi, hz0, hz1, hz2⟩ := info_parts Try.infoWt
  go_enter Try.func35, Try.ntmps35
  go_wp2_with fail
  have ds := setCell_drewN
  have da := alloc_drewN
  go_region_held3 (fun w' => w'.cell? ⟨b, off + 9, none⟩ = some (.int .u8 (x9.toNat : Int))) (first | exact hc9 | exact (World.cell?_alloc_lt w _ _ hbl).trans hc9) (first
    | (go_at_call 43; refine (numAt_any b off n c B xs 10 _ (by first | exact hr | exact hr.drew | exact (hr.alloc hB _) | exact (hr.alloc hB _).drew) (by omega) (by omega)).mono ?_; rintro e w1 ⟨rfl, q, rfl⟩; rw [H10.out]))
  all_goals
    clear ds da
    go_wp2_with fail
    refine (wright_any _ a10 _ _ _ _ (by omega) (by omega) ha0 ha1 (by omega)).mono ?_
    rintro e w2 ⟨rfl, hb2⟩
    rw [HB.out]
    have hbx : Below (w.heap.size + 1) (w.alloc (.cells #[.int .u8 (x9.toNat : Int), .int .u32 a10, .slice (some ⟨b, off + 14, none⟩) (n - 14) (c - 14)] 44)) w2 := Below.trans (Still.below ⟨_, rfl⟩ _) (hb2.mono (by simp))
    have bel2 : Below w.heap.size w w2 := ((Below.refl _ _).alloc (Nat.le_refl _) _).trans (hbx.mono (by omega))
    have hs2 : w.heap.size + 1 ≤ w2.heap.size := by have := hbx.size; simp at this; omega
    clear hb2
    go_wp2_with fail
    refine (numAt_any b off n c B xs 1 _ (hr.belowLe bel2 hB) (by omega) (by omega)).mono ?_
    rintro e w3 ⟨rfl, hst3⟩
    rw [H1.out]
    go_wp2_with fail
    refine (numAt_any b off n c B xs 5 _ ((hr.belowLe bel2 hB).still hst3) (by omega) (by omega)).mono ?_
    rintro e w4 ⟨rfl, hst4⟩
    rw [H5.out]
    have hby : Below (w.heap.size + 1) (w.alloc (.cells #[.int .u8 (x9.toNat : Int), .int .u32 a10, .slice (some ⟨b, off + 14, none⟩) (n - 14) (c - 14)] 44)) w4 := hbx.trans ((hst3.trans hst4).below _)
    have bel4 : Below w.heap.size w w4 := bel2.trans ((hst3.trans hst4).below _)
    have hs4 : w.heap.size + 1 ≤ w4.heap.size := by have := ((hst3.trans hst4).below 0).size; omega
    have rx4 := rx.below bel4
    have l0 : w4.cell? ⟨w.heap.size, 0, none⟩ = some (.int .u8 (x9.toNat : Int)) := box_cell hby 0
    have l1 : w4.cell? ⟨w.heap.size, 1, none⟩ = some (.int .u32 a10) := box_cell hby 1
    have l2 : w4.cell? ⟨w.heap.size, 2, none⟩ = some (.slice (some ⟨b, off + 14, none⟩) (n - 14) (c - 14)) := box_cell hby 2
    have rdD4 := rdD.belowLe bel4 hB
    have hbase4 : base ≤ w4.heap.size := by omega
    clear hst3 hst4 hbx bel2 hby
    have k1 := rx4.c1
    have k2 := rx4.c2
    have hRw : R < w.heap.size := rx.hi
    have f1 := rx4.fz 1
    have f2 := rx4.fz 2
    go_wp2_with (go_at_call 44; refine (rdnext_any R Aw nw cw _ k2 hnw).mono ?_; rintro e w' ⟨rfl, rfl⟩)
    have rx5 := rx4.reset g1
    have bel5 : Below base w ((w4.setCell ⟨R, 1, none⟩ (.int .u32 g1)).setCell ⟨R, 2, none⟩ (.slice none 0 0)) := ((bel4.mono hbase).setCell rx.lo _).setCell rx.lo _
    have hne : ∀ i j, (⟨R, i, none⟩ : Addr) ≠ ⟨w.heap.size, j, none⟩ := fun i j e => by injection e with e1 e2; omega
    have m0 : ((w4.setCell ⟨R, 1, none⟩ (.int .u32 g1)).setCell ⟨R, 2, none⟩ (.slice none 0 0)).cell? ⟨w.heap.size, 0, none⟩ = some (.int .u8 (x9.toNat : Int)) := by rw [World.cell?_setCell_other _ _ _ _ (hne _ _), World.cell?_setCell_other _ _ _ _ (hne _ _)]; exact l0
    have m1 : ((w4.setCell ⟨R, 1, none⟩ (.int .u32 g1)).setCell ⟨R, 2, none⟩ (.slice none 0 0)).cell? ⟨w.heap.size, 1, none⟩ = some (.int .u32 a10) := by rw [World.cell?_setCell_other _ _ _ _ (hne _ _), World.cell?_setCell_other _ _ _ _ (hne _ _)]; exact l1
    have m2 : ((w4.setCell ⟨R, 1, none⟩ (.int .u32 g1)).setCell ⟨R, 2, none⟩ (.slice none 0 0)).cell? ⟨w.heap.size, 2, none⟩ = some (.slice (some ⟨b, off + 14, none⟩) (n - 14) (c - 14)) := by rw [World.cell?_setCell_other _ _ _ _ (hne _ _), World.cell?_setCell_other _ _ _ _ (hne _ _)]; exact l2
    have hbR : b ≠ R := hbS.2.1
    have rdD5 : Rd bv ((w4.setCell ⟨R, 1, none⟩ (.int .u32 g1)).setCell ⟨R, 2, none⟩ (.slice none 0 0)) B (some ⟨b, off + 14, none⟩) (n - 14) (c - 14) (xs.drop 14) :=
      rdD4.keepB (by rw [Below.heap_setCell _ _ _ _ hbR, Below.heap_setCell _ _ _ _ hbR])
    have hbS5 : b ≠ R ∧ Off Ag b ∧ Off none b := ⟨hbR, hbS.2.2.1, off_none _⟩
    have hs5 : w.heap.size + 1 ≤ ((w4.setCell ⟨R, 1, none⟩ (.int .u32 g1)).setCell ⟨R, 2, none⟩ (.slice none 0 0)).heap.size := by simpa using hs4
    have hbase5 : base ≤ ((w4.setCell ⟨R, 1, none⟩ (.int .u32 g1)).setCell ⟨R, 2, none⟩ (.slice none 0 0)).heap.size := by simpa using hbase4
    clear rx4 k1 k2 l0 l1 l2 bel4 rdD4 hne hs4 hbase4 f1 f2
    generalize (w4.setCell ⟨R, 1, none⟩ (.int .u32 g1)).setCell ⟨R, 2, none⟩ (.slice none 0 0) = w5 at *
    have k5 := rx5.c2
    refine (rdnext_any R none 0 0 _ k5 (by omega)).mono ?_
    rintro e w' ⟨rfl, rfl⟩
    go_wp2
    go_ret
    exact ⟨rfl, ⟨_, _, _, _, rx5⟩, bel5⟩

set_option maxRecDepth 100000 in
set_option maxHeartbeats 8000000 in
theorem record_new1 (R b off n c B base : Nat) (xs : List UInt8) (w : World) (hr : Rd bv w B (some ⟨b, off, none⟩) n c xs) (hl : 15 ≤ n) (hB : B ≤ w.heap.size) (hn : n ≤ 1000000)
    (hgood : rightB ((xs.getD 9 0).toNat : Int) (numC xs 10 : Int) (n - 14) = true)
    (Ag : Option Addr) (ng cg : Nat) (rgs : List RawG) (gs : List Gm) (num : Int) (Aw : Option Addr) (nw cw : Nat) (rws : List RawW) (ws : List Wm) (rx : RdrX w base R Ag ng cg rgs gs num Aw nw cw rws ws)
    (hbS : SS w R Ag Aw b) (_hnw : nw ≤ 1000000) (hbase : base ≤ w.heap.size)
    (hg : (numC xs 1 : Int) ≠ num) (hz5 : numC xs 5 = 0) :
    Calls Try.prog 35 #[.pointer (some ⟨R, 0, none⟩), .slice (some ⟨b, off, none⟩) n c] w (RetRec base R Ag ng cg rgs gs (numC xs 1 : Int) [recW xs] w) := by
  have h1 := numC_lt xs 1
  obtain ⟨g1, H1, hg0, hg2⟩ : ∃ z : Int, Hid ((takeN ((xs.drop 1).take 4) : Int) = z) ∧ 0 ≤ z ∧ z < 4294967296 := ⟨_, rfl, by show _ ≤ ((numC xs 1 : Nat) : Int); omega, by show ((numC xs 1 : Nat) : Int) < _; omega⟩
  have e1 : (numC xs 1 : Int) = g1 := H1.out
  rw [e1] at hg ⊢
  have h5 := numC_lt xs 5
  obtain ⟨i5, H5, hi0, hi2⟩ : ∃ z : Int, Hid ((takeN ((xs.drop 5).take 4) : Int) = z) ∧ 0 ≤ z ∧ z < 4294967296 := ⟨_, rfl, by show _ ≤ ((numC xs 5 : Nat) : Int); omega, by show ((numC xs 5 : Nat) : Int) < _; omega⟩
  have e5 : (numC xs 5 : Int) = i5 := H5.out
  clear h1 h5 e1
  have t1 : (g1 != num) = true := by rw [bne_iff_ne]; exact hg
  obtain rfl : i5 = 0 := by omega
  clear hg hz5 e5
  have hcap := hr.cap
  have hlen := hr.len
  obtain ⟨hbB, hc9⟩ := rd_cell hr 9 (by omega)
  have e9 : xs.getD 9 0 = xs[9] := by rw [List.getD_eq_getElem?_getD, List.getElem?_eq_getElem (by omega)]; rfl
  rw [e9] at hgood
  have h10 := numC_lt xs 10
  have HW : Hid (recW xs = ⟨xs[9], (numC xs 10 : Nat), xs.drop 14⟩) := by show _ = _; unfold recW; rw [e9]
  have H10 : Hid ((takeN ((xs.drop 10).take 4) : Int) = ((numC xs 10 : Nat) : Int)) := rfl
  generalize numC xs 10 = z10 at *
  obtain ⟨a10, HZ, ha0, ha1⟩ : ∃ z : Int, Hid ((z10 : Int) = z) ∧ 0 ≤ z ∧ z < 4294967296 := ⟨_, rfl, by omega, by omega⟩
  rw [HZ.out] at H10 hgood HW
  generalize xs[9] = x9 at *
  generalize recW xs = rw0 at *
  obtain rfl := HW.out
  have HB := Lib.hid hgood
  unfold bv at hc9
  have hx9 := x9.toNat_lt
  clear hlen e9 hgood h10 HZ HW
  have i9 : (9 : Int) < n := by omega
  have i14 : (14 : Int) ≤ c := by omega
  have n14 : ¬ c = 14 := by omega
  have n14' : 14 ≤ c := by omega
  have i14n : (14 : Int) ≤ n := by omega
  have i14n' : 14 ≤ n := by omega
  have hbl : b < w.heap.size := by omega
  have rdD : Rd bv w B (some ⟨b, off + 14, none⟩) (n - 14) (c - 14) (xs.drop 14) := hr.drop 14 (by omega)
  obtain ⟨i0, hi, hz0, hz1, hz2⟩ := info_parts Try.infoWt
  go_enter Try.func35, Try.ntmps35
  go_wp2_with fail
  have ds := setCell_drewN
  have da := alloc_drewN
  go_region_held3 (fun w' => w'.cell? ⟨b, off + 9, none⟩ = some (.int .u8 (x9.toNat : Int))) (first | exact hc9 | exact (World.cell?_alloc_lt w _ _ hbl).trans hc9) (first
    | (go_at_call 43; refine (numAt_any b off n c B xs 10 _ (by first | exact hr | exact hr.drew | exact (hr.alloc hB _) | exact (hr.alloc hB _).drew) (by omega) (by omega)).mono ?_; rintro e w1 ⟨rfl, q, rfl⟩; rw [H10.out]))
  all_goals
    clear ds da
    go_wp2_with fail
    refine (wright_any _ a10 _ _ _ _ (by omega) (by omega) ha0 ha1 (by omega)).mono ?_
    rintro e w2 ⟨rfl, hb2⟩
    rw [HB.out]
    have hbx : Below (w.heap.size + 1) (w.alloc (.cells #[.int .u8 (x9.toNat : Int), .int .u32 a10, .slice (some ⟨b, off + 14, none⟩) (n - 14) (c - 14)] 44)) w2 := Below.trans (Still.below ⟨_, rfl⟩ _) (hb2.mono (by simp))
    have bel2 : Below w.heap.size w w2 := ((Below.refl _ _).alloc (Nat.le_refl _) _).trans (hbx.mono (by omega))
    have hs2 : w.heap.size + 1 ≤ w2.heap.size := by have := hbx.size; simp at this; omega
    clear hb2
    go_wp2_with fail
    refine (numAt_any b off n c B xs 1 _ (hr.belowLe bel2 hB) (by omega) (by omega)).mono ?_
    rintro e w3 ⟨rfl, hst3⟩
    rw [H1.out]
    go_wp2_with fail
    refine (numAt_any b off n c B xs 5 _ ((hr.belowLe bel2 hB).still hst3) (by omega) (by omega)).mono ?_
    rintro e w4 ⟨rfl, hst4⟩
    rw [H5.out]
    have hby : Below (w.heap.size + 1) (w.alloc (.cells #[.int .u8 (x9.toNat : Int), .int .u32 a10, .slice (some ⟨b, off + 14, none⟩) (n - 14) (c - 14)] 44)) w4 := hbx.trans ((hst3.trans hst4).below _)
    have bel4 : Below w.heap.size w w4 := bel2.trans ((hst3.trans hst4).below _)
    have hs4 : w.heap.size + 1 ≤ w4.heap.size := by have := ((hst3.trans hst4).below 0).size; omega
    have rx4 := rx.below bel4
    have l0 : w4.cell? ⟨w.heap.size, 0, none⟩ = some (.int .u8 (x9.toNat : Int)) := box_cell hby 0
    have l1 : w4.cell? ⟨w.heap.size, 1, none⟩ = some (.int .u32 a10) := box_cell hby 1
    have l2 : w4.cell? ⟨w.heap.size, 2, none⟩ = some (.slice (some ⟨b, off + 14, none⟩) (n - 14) (c - 14)) := box_cell hby 2
    have rdD4 := rdD.belowLe bel4 hB
    have hbase4 : base ≤ w4.heap.size := by omega
    clear hst3 hst4 hbx bel2 hby
    have k1 := rx4.c1
    have k2 := rx4.c2
    have hRw : R < w.heap.size := rx.hi
    have f1 := rx4.fz 1
    have f2 := rx4.fz 2
    go_wp2_with fail
    have rx5 := rx4.reset g1
    have bel5 : Below base w ((w4.setCell ⟨R, 1, none⟩ (.int .u32 g1)).setCell ⟨R, 2, none⟩ (.slice none 0 0)) := ((bel4.mono hbase).setCell rx.lo _).setCell rx.lo _
    have hne : ∀ i j, (⟨R, i, none⟩ : Addr) ≠ ⟨w.heap.size, j, none⟩ := fun i j e => by injection e with e1 e2; omega
    have m0 : ((w4.setCell ⟨R, 1, none⟩ (.int .u32 g1)).setCell ⟨R, 2, none⟩ (.slice none 0 0)).cell? ⟨w.heap.size, 0, none⟩ = some (.int .u8 (x9.toNat : Int)) := by rw [World.cell?_setCell_other _ _ _ _ (hne _ _), World.cell?_setCell_other _ _ _ _ (hne _ _)]; exact l0
    have m1 : ((w4.setCell ⟨R, 1, none⟩ (.int .u32 g1)).setCell ⟨R, 2, none⟩ (.slice none 0 0)).cell? ⟨w.heap.size, 1, none⟩ = some (.int .u32 a10) := by rw [World.cell?_setCell_other _ _ _ _ (hne _ _), World.cell?_setCell_other _ _ _ _ (hne _ _)]; exact l1
    have m2 : ((w4.setCell ⟨R, 1, none⟩ (.int .u32 g1)).setCell ⟨R, 2, none⟩ (.slice none 0 0)).cell? ⟨w.heap.size, 2, none⟩ = some (.slice (some ⟨b, off + 14, none⟩) (n - 14) (c - 14)) := by rw [World.cell?_setCell_other _ _ _ _ (hne _ _), World.cell?_setCell_other _ _ _ _ (hne _ _)]; exact l2
    have hbR : b ≠ R := hbS.2.1
    have rdD5 : Rd bv ((w4.setCell ⟨R, 1, none⟩ (.int .u32 g1)).setCell ⟨R, 2, none⟩ (.slice none 0 0)) B (some ⟨b, off + 14, none⟩) (n - 14) (c - 14) (xs.drop 14) :=
      rdD4.keepB (by rw [Below.heap_setCell _ _ _ _ hbR, Below.heap_setCell _ _ _ _ hbR])
    have hbS5 : b ≠ R ∧ Off Ag b ∧ Off none b := ⟨hbR, hbS.2.2.1, off_none _⟩
    have hs5 : w.heap.size + 1 ≤ ((w4.setCell ⟨R, 1, none⟩ (.int .u32 g1)).setCell ⟨R, 2, none⟩ (.slice none 0 0)).heap.size := by simpa using hs4
    have hbase5 : base ≤ ((w4.setCell ⟨R, 1, none⟩ (.int .u32 g1)).setCell ⟨R, 2, none⟩ (.slice none 0 0)).heap.size := by simpa using hbase4
    clear rx4 k1 k2 l0 l1 l2 bel4 rdD4 hne hs4 hbase4 f1 f2
    generalize (w4.setCell ⟨R, 1, none⟩ (.int .u32 g1)).setCell ⟨R, 2, none⟩ (.slice none 0 0) = w5 at *
    have k5 := rx5.c2
    refine (rdnext_any R none 0 0 _ k5 (by omega)).mono ?_
    rintro e w' ⟨rfl, rfl⟩
    go_wp2_with fail
    have rxA := rx5.below ((Below.refl _ _).alloc (Nat.le_refl _) (.cells #[.int .u8 (x9.toNat : Int), .int .u32 a10, .slice (some ⟨b, off + 14, none⟩) (n - 14) (c - 14)] 44)).drew
    have rdA : Rd bv (w5.alloc (.cells #[.int .u8 (x9.toNat : Int), .int .u32 a10, .slice (some ⟨b, off + 14, none⟩) (n - 14) (c - 14)] 44)).drew B (some ⟨b, off + 14, none⟩) (n - 14) (c - 14) (xs.drop 14) := (rdD5.alloc (by omega) _).drew
    have hnA := news_one (shW .u8 .u32) w5 #[.int .u8 (x9.toNat : Int), .int .u32 a10, .slice (some ⟨b, off + 14, none⟩) (n - 14) (c - 14)] 44 (0, 0) ⟨x9, a10, some ⟨b, off + 14, none⟩, n - 14, c - 14⟩ _ rfl rfl
    have belA : Below base w (w5.alloc (.cells #[.int .u8 (x9.toNat : Int), .int .u32 a10, .slice (some ⟨b, off + 14, none⟩) (n - 14) (c - 14)] 44)).drew := (bel5.alloc hbase5 _).drew
    have hSA : SS (w5.alloc (.cells #[.int .u8 (x9.toNat : Int), .int .u32 a10, .slice (some ⟨b, off + 14, none⟩) (n - 14) (c - 14)] 44)).drew R Ag none b := ⟨Nat.lt_of_lt_of_le hbl belA.size, hbS5⟩
    have ownA : (w5.alloc (.cells #[.int .u8 (x9.toNat : Int), .int .u32 a10, .slice (some ⟨b, off + 14, none⟩) (n - 14) (c - 14)] 44)).drew.ownsRow base 44 3 (.slice none 0 0) 0 (([] : List RawW).flatMap (shW .u8 .u32).raw) := rxA.wO.own
    have hszA : (w5.alloc (.cells #[.int .u8 (x9.toNat : Int), .int .u32 a10, .slice (some ⟨b, off + 14, none⟩) (n - 14) (c - 14)] 44)).drew.heap.size = w5.heap.size + 1 := by simp
    have kA : (w5.alloc (.cells #[.int .u8 (x9.toNat : Int), .int .u32 a10, .slice (some ⟨b, off + 14, none⟩) (n - 14) (c - 14)] 44)).cell? ⟨R, 2, none⟩ = some (.slice none 0 0) := rxA.c2
    have HSA := Lib.hid hszA
    have HNA := Lib.hid hnA
    clear hszA hnA
    go_region_law (refine step_append_lies _ rfl (.tmp 50) (.tmp 52) 37 rfl base 44 i0 _ 3 32 Try.underlying37 hi hz0 hz1 hz2 rfl (by omega) (.slice none 0 0) 0 _ rfl ownA ⟨w5.heap.size, 0, none⟩ 1 1 ((shW .u8 .u32).raw ⟨x9, a10, some ⟨b, off + 14, none⟩, n - 14, c - 14⟩) rfl rfl HNA.out ((shW .u8 .u32).one _) (by omega) (by simp only [maxLen]; omega) (by omega) (by rw [HSA.out]; omega) (w5.heap.size + 1) HSA.out ?_
                   intro g6 c6 w6 hown6 hg6 hat6 hlt6
                   have kk : w6.cell? ⟨R, 2, none⟩ = some (.slice none 0 0) := (World.cell?_of_block (a := ⟨R, 2, none⟩) (hg6.block R rxA.hi (by rw [ownBlock_slice]; exact rxA.oW))).trans rxA.c2
                   have ff : w6.frozen? ⟨R, 2, none⟩ = false := (World.frozen?_of_block (a := ⟨R, 2, none⟩) (hg6.block R rxA.hi (by rw [ownBlock_slice]; exact rxA.oW))).trans (rxA.fz 2))
    all_goals
      go_wp2
      go_ret
      rw [ownBlock_slice] at hg6 hat6
      refine ⟨rfl, ⟨_, _, _, _, rxA.pushW (x := ⟨x9, a10, xs.drop 14⟩) ⟨rfl, rfl, rdA.toP hSA⟩ hown6 hg6 (by rw [HSA.out]; exact hat6) hlt6⟩, ?_⟩
      exact (((belA).grown hg6 (by rw [HSA.out]; omega) (fun k hk => (rxA.wO.lt k hk).1))).setCell rx.lo _

set_option maxRecDepth 100000 in
set_option maxHeartbeats 8000000 in
theorem record_new2 (R b off n c B base : Nat) (xs : List UInt8) (w : World) (hr : Rd bv w B (some ⟨b, off, none⟩) n c xs) (hl : 15 ≤ n) (hB : B ≤ w.heap.size) (hn : n ≤ 1000000)
    (hgood : rightB ((xs.getD 9 0).toNat : Int) (numC xs 10 : Int) (n - 14) = true)
    (Ag : Option Addr) (ng cg : Nat) (rgs : List RawG) (gs : List Gm) (num : Int) (Aw : Option Addr) (nw cw : Nat) (rws : List RawW) (ws : List Wm) (rx : RdrX w base R Ag ng cg rgs gs num Aw nw cw rws ws)
    (hbS : SS w R Ag Aw b) (hnw : nw ≤ 1000000) (hbase : base ≤ w.heap.size)
    (hg : (numC xs 1 : Int) = num) (hi5 : (numC xs 5 : Int) ≠ nw) (hz5 : numC xs 5 = 0) :
    Calls Try.prog 35 #[.pointer (some ⟨R, 0, none⟩), .slice (some ⟨b, off, none⟩) n c] w (RetRec base R Ag ng cg rgs gs (numC xs 1 : Int) [recW xs] w) := by
  have h1 := numC_lt xs 1
  obtain ⟨g1, H1, hg0, hg2⟩ : ∃ z : Int, Hid ((takeN ((xs.drop 1).take 4) : Int) = z) ∧ 0 ≤ z ∧ z < 4294967296 := ⟨_, rfl, by show _ ≤ ((numC xs 1 : Nat) : Int); omega, by show ((numC xs 1 : Nat) : Int) < _; omega⟩
  have e1 : (numC xs 1 : Int) = g1 := H1.out
  rw [e1] at hg ⊢
  have h5 := numC_lt xs 5
  obtain ⟨i5, H5, hi0, hi2⟩ : ∃ z : Int, Hid ((takeN ((xs.drop 5).take 4) : Int) = z) ∧ 0 ≤ z ∧ z < 4294967296 := ⟨_, rfl, by show _ ≤ ((numC xs 5 : Nat) : Int); omega, by show ((numC xs 5 : Nat) : Int) < _; omega⟩
  have e5 : (numC xs 5 : Int) = i5 := H5.out
  clear h1 h5 e1
  have t1 : (g1 != num) = false := by rw [hg]; simp
  obtain rfl : i5 = 0 := by omega
  have t2 : ((0 : Int) != (nw : Int)) = true := by rw [bne_iff_ne]; omega
  clear hg hz5 e5 hi5
  have hcap := hr.cap
  have hlen := hr.len
  obtain ⟨hbB, hc9⟩ := rd_cell hr 9 (by omega)
  have e9 : xs.getD 9 0 = xs[9] := by rw [List.getD_eq_getElem?_getD, List.getElem?_eq_getElem (by omega)]; rfl
  rw [e9] at hgood
  have h10 := numC_lt xs 10
  have HW : Hid (recW xs = ⟨xs[9], (numC xs 10 : Nat), xs.drop 14⟩) := by show _ = _; unfold recW; rw [e9]
  have H10 : Hid ((takeN ((xs.drop 10).take 4) : Int) = ((numC xs 10 : Nat) : Int)) := rfl
  generalize numC xs 10 = z10 at *
  obtain ⟨a10, HZ, ha0, ha1⟩ : ∃ z : Int, Hid ((z10 : Int) = z) ∧ 0 ≤ z ∧ z < 4294967296 := ⟨_, rfl, by omega, by omega⟩
  rw [HZ.out] at H10 hgood HW
  generalize xs[9] = x9 at *
  generalize recW xs = rw0 at *
  obtain rfl := HW.out
  have HB := Lib.hid hgood
  unfold bv at hc9
  have hx9 := x9.toNat_lt
  clear hlen e9 hgood h10 HZ HW
  have i9 : (9 : Int) < n := by omega
  have i14 : (14 : Int) ≤ c := by omega
  have n14 : ¬ c = 14 := by omega
  have n14' : 14 ≤ c := by omega
  have i14n : (14 : Int) ≤ n := by omega
  have i14n' : 14 ≤ n := by omega
  have hbl : b < w.heap.size := by omega
  have rdD : Rd bv w B (some ⟨b, off + 14, none⟩) (n - 14) (c - 14) (xs.drop 14) := hr.drop 14 (by omega)
  obtain ⟨i0, hi, hz0, hz1, hz2⟩ := info_parts Try.infoWt
  go_enter Try.func35, Try.ntmps35
  go_wp2_with fail
  have ds := setCell_drewN
  have da := alloc_drewN
  go_region_held3 (fun w' => w'.cell? ⟨b, off + 9, none⟩ = some (.int .u8 (x9.toNat : Int))) (first | exact hc9 | exact (World.cell?_alloc_lt w _ _ hbl).trans hc9) (first
    | (go_at_call 43; refine (numAt_any b off n c B xs 10 _ (by first | exact hr | exact hr.drew | exact (hr.alloc hB _) | exact (hr.alloc hB _).drew) (by omega) (by omega)).mono ?_; rintro e w1 ⟨rfl, q, rfl⟩; rw [H10.out]))
  all_goals
    clear ds da
    go_wp2_with fail
    refine (wright_any _ a10 _ _ _ _ (by omega) (by omega) ha0 ha1 (by omega)).mono ?_
    rintro e w2 ⟨rfl, hb2⟩
    rw [HB.out]
    have hbx : Below (w.heap.size + 1) (w.alloc (.cells #[.int .u8 (x9.toNat : Int), .int .u32 a10, .slice (some ⟨b, off + 14, none⟩) (n - 14) (c - 14)] 44)) w2 := Below.trans (Still.below ⟨_, rfl⟩ _) (hb2.mono (by simp))
    have bel2 : Below w.heap.size w w2 := ((Below.refl _ _).alloc (Nat.le_refl _) _).trans (hbx.mono (by omega))
    have hs2 : w.heap.size + 1 ≤ w2.heap.size := by have := hbx.size; simp at this; omega
    clear hb2
    go_wp2_with fail
    refine (numAt_any b off n c B xs 1 _ (hr.belowLe bel2 hB) (by omega) (by omega)).mono ?_
    rintro e w3 ⟨rfl, hst3⟩
    rw [H1.out]
    go_wp2_with fail
    refine (numAt_any b off n c B xs 5 _ ((hr.belowLe bel2 hB).still hst3) (by omega) (by omega)).mono ?_
    rintro e w4 ⟨rfl, hst4⟩
    rw [H5.out]
    have hby : Below (w.heap.size + 1) (w.alloc (.cells #[.int .u8 (x9.toNat : Int), .int .u32 a10, .slice (some ⟨b, off + 14, none⟩) (n - 14) (c - 14)] 44)) w4 := hbx.trans ((hst3.trans hst4).below _)
    have bel4 : Below w.heap.size w w4 := bel2.trans ((hst3.trans hst4).below _)
    have hs4 : w.heap.size + 1 ≤ w4.heap.size := by have := ((hst3.trans hst4).below 0).size; omega
    have rx4 := rx.below bel4
    have l0 : w4.cell? ⟨w.heap.size, 0, none⟩ = some (.int .u8 (x9.toNat : Int)) := box_cell hby 0
    have l1 : w4.cell? ⟨w.heap.size, 1, none⟩ = some (.int .u32 a10) := box_cell hby 1
    have l2 : w4.cell? ⟨w.heap.size, 2, none⟩ = some (.slice (some ⟨b, off + 14, none⟩) (n - 14) (c - 14)) := box_cell hby 2
    have rdD4 := rdD.belowLe bel4 hB
    have hbase4 : base ≤ w4.heap.size := by omega
    clear hst3 hst4 hbx bel2 hby
    have k1 := rx4.c1
    have k2 := rx4.c2
    have hRw : R < w.heap.size := rx.hi
    have f1 := rx4.fz 1
    have f2 := rx4.fz 2
    go_wp2_with (go_at_call 44; refine (rdnext_any R Aw nw cw _ k2 hnw).mono ?_; rintro e w' ⟨rfl, rfl⟩)
    have rx5 := rx4.reset g1
    have bel5 : Below base w ((w4.setCell ⟨R, 1, none⟩ (.int .u32 g1)).setCell ⟨R, 2, none⟩ (.slice none 0 0)) := ((bel4.mono hbase).setCell rx.lo _).setCell rx.lo _
    have hne : ∀ i j, (⟨R, i, none⟩ : Addr) ≠ ⟨w.heap.size, j, none⟩ := fun i j e => by injection e with e1 e2; omega
    have m0 : ((w4.setCell ⟨R, 1, none⟩ (.int .u32 g1)).setCell ⟨R, 2, none⟩ (.slice none 0 0)).cell? ⟨w.heap.size, 0, none⟩ = some (.int .u8 (x9.toNat : Int)) := by rw [World.cell?_setCell_other _ _ _ _ (hne _ _), World.cell?_setCell_other _ _ _ _ (hne _ _)]; exact l0
    have m1 : ((w4.setCell ⟨R, 1, none⟩ (.int .u32 g1)).setCell ⟨R, 2, none⟩ (.slice none 0 0)).cell? ⟨w.heap.size, 1, none⟩ = some (.int .u32 a10) := by rw [World.cell?_setCell_other _ _ _ _ (hne _ _), World.cell?_setCell_other _ _ _ _ (hne _ _)]; exact l1
    have m2 : ((w4.setCell ⟨R, 1, none⟩ (.int .u32 g1)).setCell ⟨R, 2, none⟩ (.slice none 0 0)).cell? ⟨w.heap.size, 2, none⟩ = some (.slice (some ⟨b, off + 14, none⟩) (n - 14) (c - 14)) := by rw [World.cell?_setCell_other _ _ _ _ (hne _ _), World.cell?_setCell_other _ _ _ _ (hne _ _)]; exact l2
    have hbR : b ≠ R := hbS.2.1
    have rdD5 : Rd bv ((w4.setCell ⟨R, 1, none⟩ (.int .u32 g1)).setCell ⟨R, 2, none⟩ (.slice none 0 0)) B (some ⟨b, off + 14, none⟩) (n - 14) (c - 14) (xs.drop 14) :=
      rdD4.keepB (by rw [Below.heap_setCell _ _ _ _ hbR, Below.heap_setCell _ _ _ _ hbR])
    have hbS5 : b ≠ R ∧ Off Ag b ∧ Off none b := ⟨hbR, hbS.2.2.1, off_none _⟩
    have hs5 : w.heap.size + 1 ≤ ((w4.setCell ⟨R, 1, none⟩ (.int .u32 g1)).setCell ⟨R, 2, none⟩ (.slice none 0 0)).heap.size := by simpa using hs4
    have hbase5 : base ≤ ((w4.setCell ⟨R, 1, none⟩ (.int .u32 g1)).setCell ⟨R, 2, none⟩ (.slice none 0 0)).heap.size := by simpa using hbase4
    clear rx4 k1 k2 l0 l1 l2 bel4 rdD4 hne hs4 hbase4 f1 f2
    generalize (w4.setCell ⟨R, 1, none⟩ (.int .u32 g1)).setCell ⟨R, 2, none⟩ (.slice none 0 0) = w5 at *
    have k5 := rx5.c2
    refine (rdnext_any R none 0 0 _ k5 (by omega)).mono ?_
    rintro e w' ⟨rfl, rfl⟩
    go_wp2_with fail
    have rxA := rx5.below ((Below.refl _ _).alloc (Nat.le_refl _) (.cells #[.int .u8 (x9.toNat : Int), .int .u32 a10, .slice (some ⟨b, off + 14, none⟩) (n - 14) (c - 14)] 44)).drew
    have rdA : Rd bv (w5.alloc (.cells #[.int .u8 (x9.toNat : Int), .int .u32 a10, .slice (some ⟨b, off + 14, none⟩) (n - 14) (c - 14)] 44)).drew B (some ⟨b, off + 14, none⟩) (n - 14) (c - 14) (xs.drop 14) := (rdD5.alloc (by omega) _).drew
    have hnA := news_one (shW .u8 .u32) w5 #[.int .u8 (x9.toNat : Int), .int .u32 a10, .slice (some ⟨b, off + 14, none⟩) (n - 14) (c - 14)] 44 (0, 0) ⟨x9, a10, some ⟨b, off + 14, none⟩, n - 14, c - 14⟩ _ rfl rfl
    have belA : Below base w (w5.alloc (.cells #[.int .u8 (x9.toNat : Int), .int .u32 a10, .slice (some ⟨b, off + 14, none⟩) (n - 14) (c - 14)] 44)).drew := (bel5.alloc hbase5 _).drew
    have hSA : SS (w5.alloc (.cells #[.int .u8 (x9.toNat : Int), .int .u32 a10, .slice (some ⟨b, off + 14, none⟩) (n - 14) (c - 14)] 44)).drew R Ag none b := ⟨Nat.lt_of_lt_of_le hbl belA.size, hbS5⟩
    have ownA : (w5.alloc (.cells #[.int .u8 (x9.toNat : Int), .int .u32 a10, .slice (some ⟨b, off + 14, none⟩) (n - 14) (c - 14)] 44)).drew.ownsRow base 44 3 (.slice none 0 0) 0 (([] : List RawW).flatMap (shW .u8 .u32).raw) := rxA.wO.own
    have hszA : (w5.alloc (.cells #[.int .u8 (x9.toNat : Int), .int .u32 a10, .slice (some ⟨b, off + 14, none⟩) (n - 14) (c - 14)] 44)).drew.heap.size = w5.heap.size + 1 := by simp
    have kA : (w5.alloc (.cells #[.int .u8 (x9.toNat : Int), .int .u32 a10, .slice (some ⟨b, off + 14, none⟩) (n - 14) (c - 14)] 44)).cell? ⟨R, 2, none⟩ = some (.slice none 0 0) := rxA.c2
    have HSA := Lib.hid hszA
    have HNA := Lib.hid hnA
    clear hszA hnA
    go_region_law (refine step_append_lies _ rfl (.tmp 50) (.tmp 52) 37 rfl base 44 i0 _ 3 32 Try.underlying37 hi hz0 hz1 hz2 rfl (by omega) (.slice none 0 0) 0 _ rfl ownA ⟨w5.heap.size, 0, none⟩ 1 1 ((shW .u8 .u32).raw ⟨x9, a10, some ⟨b, off + 14, none⟩, n - 14, c - 14⟩) rfl rfl HNA.out ((shW .u8 .u32).one _) (by omega) (by simp only [maxLen]; omega) (by omega) (by rw [HSA.out]; omega) (w5.heap.size + 1) HSA.out ?_
                   intro g6 c6 w6 hown6 hg6 hat6 hlt6
                   have kk : w6.cell? ⟨R, 2, none⟩ = some (.slice none 0 0) := (World.cell?_of_block (a := ⟨R, 2, none⟩) (hg6.block R rxA.hi (by rw [ownBlock_slice]; exact rxA.oW))).trans rxA.c2
                   have ff : w6.frozen? ⟨R, 2, none⟩ = false := (World.frozen?_of_block (a := ⟨R, 2, none⟩) (hg6.block R rxA.hi (by rw [ownBlock_slice]; exact rxA.oW))).trans (rxA.fz 2))
    all_goals
      go_wp2
      go_ret
      rw [ownBlock_slice] at hg6 hat6
      refine ⟨rfl, ⟨_, _, _, _, rxA.pushW (x := ⟨x9, a10, xs.drop 14⟩) ⟨rfl, rfl, rdA.toP hSA⟩ hown6 hg6 (by rw [HSA.out]; exact hat6) hlt6⟩, ?_⟩
      exact (((belA).grown hg6 (by rw [HSA.out]; omega) (fun k hk => (rxA.wO.lt k hk).1))).setCell rx.lo _

end Go.Proofs.Ytkgccoghdalniaa
