/- The contracts of package scroll's reader: take; the reader as a plain machine. No law is claimed here. -/
import Derived.Test.YtkgccoghdalniaaScrR4
namespace Go.Proofs.Ytkgccoghdalniaa
open Go.RowKit

structure Rs where
  gs : List Gm
  num : Int
  ws : List Wm
def recordN (s : Rs) (c : List UInt8) : Rs :=
  if (numC c 1 : Int) = s.num ∧ numC c 5 = s.ws.length then ⟨s.gs, s.num, s.ws ++ [recW c]⟩
  else if numC c 5 = 0 then ⟨s.gs, (numC c 1 : Nat), [recW c]⟩ else ⟨s.gs, (numC c 1 : Nat), []⟩
def markN (s : Rs) (c : List UInt8) : Bool × Rs :=
  if s.ws.length ≠ 0 ∧ (numC c 1 : Int) = s.num ∧ numC c 5 = s.ws.length then (true, ⟨s.gs ++ [⟨s.num, s.ws⟩], 0, []⟩) else (false, ⟨s.gs, 0, []⟩)
/-- is it a record of a right write? a mark? -/
def isRec (c : List UInt8) : Bool := decide (14 < c.length) && (c.getD 0 0 == 1)
def isMark (c : List UInt8) : Bool := decide (c.length = 9) && (c.getD 0 0 == 2)
def okRec (c : List UInt8) : Bool := rightB ((c.getD 9 0).toNat : Int) (numC c 10 : Int) (c.length - 14)
def takeS (s : Rs) (c : List UInt8) : Option (Bool × Rs) :=
  if isRec c = true then (if okRec c = true then some (false, recordN s c) else none) else if isMark c = true then some (markN s c) else none

def RdrS (w : World) (base R : Nat) (s : Rs) : Prop := ∃ Ag ng cg rgs Aw nw cw rws, RdrX w base R Ag ng cg rgs s.gs s.num Aw nw cw rws s.ws
def RetB (base R : Nat) (w : World) (y : Bool) (s : Rs) (e : Ending) (w' : World) : Prop := e = .returned (.bool y) ∧ RdrS w' base R s ∧ Below base w w'
def RetTake (base R : Nat) (w : World) (o : Option (Bool × Rs)) (e : Ending) (w' : World) : Prop :=
  match o with
  | none => e = .returned (.tuple #[.bool false, .bool false]) ∧ Below base w w'
  | some (d, s) => e = .returned (.tuple #[.bool d, .bool true]) ∧ RdrS w' base R s ∧ Below base w w'

theorem record_all (R b off n c B base : Nat) (xs : List UInt8) (w : World) (hr : Rd bv w B (some ⟨b, off, none⟩) n c xs) (hl : 15 ≤ n) (hB : B ≤ w.heap.size) (hn : n ≤ 1000000)
    (hgood : rightB ((xs.getD 9 0).toNat : Int) (numC xs 10 : Int) (n - 14) = true)
    (Ag : Option Addr) (ng cg : Nat) (rgs : List RawG) (gs : List Gm) (num : Int) (Aw : Option Addr) (nw cw : Nat) (rws : List RawW) (ws : List Wm) (rx : RdrX w base R Ag ng cg rgs gs num Aw nw cw rws ws)
    (hbS : SS w R Ag Aw b) (hnw : nw ≤ 1000000) (hbase : base ≤ w.heap.size) :
    Calls Try.prog 35 #[.pointer (some ⟨R, 0, none⟩), .slice (some ⟨b, off, none⟩) n c] w (RetB base R w true (recordN ⟨gs, num, ws⟩ xs)) := by
  have hlw := rx.wO.len
  unfold recordN
  simp only
  rw [hlw]
  by_cases h1 : (numC xs 1 : Int) = num ∧ numC xs 5 = nw
  · rw [if_pos h1]
    exact (record_on R b off n c B base xs w hr hl hB hn hgood Ag ng cg rgs gs num Aw nw cw rws ws rx hbS hnw hbase h1.1 h1.2).mono fun e w' ⟨a, ⟨A, m, k, r, q⟩, d⟩ => ⟨a, ⟨Ag, ng, cg, rgs, A, m, k, r, q⟩, d⟩
  · rw [if_neg h1]
    by_cases h5 : numC xs 5 = 0
    · rw [if_pos h5]
      by_cases hg : (numC xs 1 : Int) = num
      · exact (record_new2 R b off n c B base xs w hr hl hB hn hgood Ag ng cg rgs gs num Aw nw cw rws ws rx hbS hnw hbase hg (by omega) h5).mono fun e w' ⟨a, ⟨A, m, k, r, q⟩, d⟩ => ⟨a, ⟨Ag, ng, cg, rgs, A, m, k, r, q⟩, d⟩
      · exact (record_new1 R b off n c B base xs w hr hl hB hn hgood Ag ng cg rgs gs num Aw nw cw rws ws rx hbS hnw hbase hg h5).mono fun e w' ⟨a, ⟨A, m, k, r, q⟩, d⟩ => ⟨a, ⟨Ag, ng, cg, rgs, A, m, k, r, q⟩, d⟩
    · rw [if_neg h5]
      by_cases hg : (numC xs 1 : Int) = num
      · exact (record_drop2 R b off n c B base xs w hr hl hB hn hgood Ag ng cg rgs gs num Aw nw cw rws ws rx hbS hnw hbase hg (by omega) h5).mono fun e w' ⟨a, ⟨A, m, k, r, q⟩, d⟩ => ⟨a, ⟨Ag, ng, cg, rgs, A, m, k, r, q⟩, d⟩
      · exact (record_drop1 R b off n c B base xs w hr hl hB hn hgood Ag ng cg rgs gs num Aw nw cw rws ws rx hbS hnw hbase hg h5).mono fun e w' ⟨a, ⟨A, m, k, r, q⟩, d⟩ => ⟨a, ⟨Ag, ng, cg, rgs, A, m, k, r, q⟩, d⟩

theorem mark_all (R b off c B base : Nat) (xs : List UInt8) (w : World) (hr : Rd bv w B (some ⟨b, off, none⟩) 9 c xs)
    (Ag : Option Addr) (ng cg : Nat) (rgs : List RawG) (gs : List Gm) (num : Int) (Aw : Option Addr) (nw cw : Nat) (rws : List RawW) (ws : List Wm) (rx : RdrX w base R Ag ng cg rgs gs num Aw nw cw rws ws)
    (hbS : SS w R Ag Aw b) (hnw : nw ≤ 1000000) (hng : ng ≤ 1000000) (hbase : base ≤ w.heap.size) :
    Calls Try.prog 36 #[.pointer (some ⟨R, 0, none⟩), .slice (some ⟨b, off, none⟩) 9 c] w (RetB base R w (markN ⟨gs, num, ws⟩ xs).1 (markN ⟨gs, num, ws⟩ xs).2) := by
  have hlw := rx.wO.len
  unfold markN
  simp only
  rw [hlw]
  by_cases h : nw ≠ 0 ∧ (numC xs 1 : Int) = num ∧ numC xs 5 = nw
  · rw [if_pos h]
    exact (mark_yes R b off c B base xs w hr Ag ng cg rgs gs num Aw nw cw rws ws rx hbS hnw hng hbase h.1 h.2.1 h.2.2).mono fun e w' ⟨a, ⟨A, m, k, r, q⟩, d⟩ => ⟨a, ⟨A, m, k, r, _, _, _, _, q⟩, d⟩
  · rw [if_neg h]
    by_cases h0 : nw = 0
    · exact (mark_zero R b off c B base xs w hr Ag ng cg rgs gs num Aw nw cw rws ws rx hbS hnw hbase h0).mono fun e w' ⟨a, ⟨A, m, k, r, q⟩, d⟩ => ⟨a, ⟨Ag, ng, cg, rgs, A, m, k, r, q⟩, d⟩
    · by_cases hg : (numC xs 1 : Int) = num
      · exact (mark_cnt R b off c B base xs w hr Ag ng cg rgs gs num Aw nw cw rws ws rx hbS hnw hbase h0 hg (fun e => h ⟨h0, hg, e⟩)).mono fun e w' ⟨a, ⟨A, m, k, r, q⟩, d⟩ => ⟨a, ⟨Ag, ng, cg, rgs, A, m, k, r, q⟩, d⟩
      · exact (mark_num R b off c B base xs w hr Ag ng cg rgs gs num Aw nw cw rws ws rx hbS hnw hbase h0 hg).mono fun e w' ⟨a, ⟨A, m, k, r, q⟩, d⟩ => ⟨a, ⟨Ag, ng, cg, rgs, A, m, k, r, q⟩, d⟩

set_option maxRecDepth 100000 in
set_option maxHeartbeats 2000000 in
theorem take_short (R : Nat) (A : Option Addr) (n c : Nat) (w : World) (h1 : n ≤ 14) (h2 : n ≠ 9) :
    Calls Try.prog 22 #[.pointer (some ⟨R, 0, none⟩), .slice A n c] w fun e w' => e = .returned (.tuple #[.bool false, .bool false]) ∧ w = w' := by
  have t1 : decide ((14 : Int) < n) = false := by simp; omega
  have t2 : ((n : Int) == 9) = false := by rw [beq_eq_false_iff_ne]; omega
  go_enter Try.func22, Try.ntmps22
  go_wp2
  go_ret2
  exact ⟨rfl, rfl⟩

set_option maxRecDepth 100000 in
set_option maxHeartbeats 2000000 in
theorem take_none (R b off n c B : Nat) (xs : List UInt8) (w : World) (hr : Rd bv w B (some ⟨b, off, none⟩) n c xs) (hn : n ≤ 1000000) (h1 : 14 < n ∧ xs.getD 0 0 ≠ 1 ∨ n = 9 ∧ xs.getD 0 0 ≠ 2) :
    Calls Try.prog 22 #[.pointer (some ⟨R, 0, none⟩), .slice (some ⟨b, off, none⟩) n c] w fun e w' => e = .returned (.tuple #[.bool false, .bool false]) ∧ w = w' := by
  have hl := hr.len
  obtain ⟨_, hc0⟩ := rd_cell hr 0 (by omega)
  have e0 : xs.getD 0 0 = xs[0] := by rw [List.getD_eq_getElem?_getD, List.getElem?_eq_getElem (by omega)]; rfl
  rw [e0] at h1
  generalize xs[0] = x0 at *
  unfold bv at hc0
  rw [Nat.add_zero] at hc0
  have HL := Lib.hid hl
  clear e0 hl
  rcases h1 with ⟨h1, h2⟩ | ⟨h1, h2⟩
  · have t1 : decide ((14 : Int) < n) = true := by simp; omega
    have t0 : (0 : Int) < n := by omega
    have t3 : ((n : Int) == 9) = false := by rw [beq_eq_false_iff_ne]; omega
    have t2 : ((x0.toNat : Int) == 1) = false := by
      rw [beq_eq_false_iff_ne]; intro h; exact h2 (UInt8.toNat_inj.1 (by rw [show (1 : UInt8).toNat = 1 from rfl]; omega))
    clear h2
    go_enter Try.func22, Try.ntmps22
    go_wp2
    go_ret2
    exact ⟨rfl, rfl⟩
  · subst h1
    have t2 : ((x0.toNat : Int) == 2) = false := by
      rw [beq_eq_false_iff_ne]; intro h; exact h2 (UInt8.toNat_inj.1 (by rw [show (2 : UInt8).toNat = 2 from rfl]; omega))
    clear h2
    go_enter Try.func22, Try.ntmps22
    go_wp2
    go_ret2
    exact ⟨rfl, rfl⟩

set_option maxRecDepth 100000 in
set_option maxHeartbeats 2000000 in
theorem take_any (R b off n c B base : Nat) (xs : List UInt8) (w : World) (hr : Rd bv w B (some ⟨b, off, none⟩) n c xs) (hB : B ≤ w.heap.size) (hn : n ≤ 1000000)
    (Ag : Option Addr) (ng cg : Nat) (rgs : List RawG) (gs : List Gm) (num : Int) (Aw : Option Addr) (nw cw : Nat) (rws : List RawW) (ws : List Wm) (rx : RdrX w base R Ag ng cg rgs gs num Aw nw cw rws ws)
    (hbS : SS w R Ag Aw b) (hnw : nw ≤ 1000000) (hng : ng ≤ 1000000) (hbase : base ≤ w.heap.size) :
    Calls Try.prog 22 #[.pointer (some ⟨R, 0, none⟩), .slice (some ⟨b, off, none⟩) n c] w (RetTake base R w (takeS ⟨gs, num, ws⟩ xs)) := by
  have hl := hr.len
  by_cases h15 : 14 < n
  · by_cases hk : xs.getD 0 0 = 1
    · have hR : isRec xs = true := by unfold isRec; rw [hl, hk]; simp; omega
      obtain ⟨_, hc0⟩ := rd_cell hr 0 (by omega)
      have e0 : xs[0] = 1 := by rw [← hk, List.getD_eq_getElem?_getD, List.getElem?_eq_getElem (by omega)]; rfl
      rw [e0, Nat.add_zero] at hc0
      have hc0' : w.cell? ⟨b, off, none⟩ = some (.int .u8 1) := hc0
      clear hc0 e0
      have t1 : decide ((14 : Int) < n) = true := by simp; omega
      have t0 : (0 : Int) < n := by omega
      by_cases hok : okRec xs = true
      · have hT : takeS ⟨gs, num, ws⟩ xs = some (false, recordN ⟨gs, num, ws⟩ xs) := by unfold takeS; rw [if_pos hR, if_pos hok]
        rw [hT]
        unfold okRec at hok
        rw [hl] at hok
        have RA := record_all R b off n c B base xs w hr (by omega) hB hn hok Ag ng cg rgs gs num Aw nw cw rws ws rx hbS hnw hbase
        generalize recordN ⟨gs, num, ws⟩ xs = s at *
        have HL := Lib.hid hl
        have HO := Lib.hid hok
        clear hl hR hok hT hk
        go_enter Try.func22, Try.ntmps22
        go_wp2_with fail
        refine RA.mono ?_
        rintro e w1 ⟨rfl, hs1, hb1⟩
        go_wp2
        go_ret2
        exact ⟨rfl, hs1, hb1⟩
      · have hT : takeS ⟨gs, num, ws⟩ xs = none := by unfold takeS; rw [if_pos hR, if_neg hok]
        rw [hT]
        have hok' : okRec xs = false := by simpa using hok
        unfold okRec at hok'
        rw [hl] at hok'
        have RA := record_bad R b off n c B xs w hr (by omega) hB hn hok'
        have HL := Lib.hid hl
        clear hl hR hok hok' hT hk
        go_enter Try.func22, Try.ntmps22
        go_wp2_with fail
        refine RA.mono ?_
        rintro e w1 ⟨rfl, hb1⟩
        go_wp2
        go_ret2
        exact ⟨rfl, hb1.mono hbase⟩
    · have hT : takeS ⟨gs, num, ws⟩ xs = none := by
        unfold takeS isRec isMark
        rw [hl, if_neg (by simp; exact fun _ => hk), if_neg (by simp; omega)]
      rw [hT]
      exact (take_none R b off n c B xs w hr hn (.inl ⟨h15, hk⟩)).mono fun e w' ⟨a, d⟩ => ⟨a, by rw [← d]; exact Below.refl _ _⟩
  · have hR : ¬ isRec xs = true := by unfold isRec; rw [hl]; simp; omega
    by_cases h9 : n = 9
    · subst h9
      by_cases hk : xs.getD 0 0 = 2
      · have hM : isMark xs = true := by unfold isMark; rw [hl, hk]; rfl
        have hT : takeS ⟨gs, num, ws⟩ xs = some (markN ⟨gs, num, ws⟩ xs) := by unfold takeS; rw [if_neg hR, if_pos hM]
        rw [hT]
        obtain ⟨_, hc0⟩ := rd_cell hr 0 (by omega)
        have e0 : xs[0] = 2 := by rw [← hk, List.getD_eq_getElem?_getD, List.getElem?_eq_getElem (by omega)]; rfl
        rw [e0, Nat.add_zero] at hc0
        have hc0' : w.cell? ⟨b, off, none⟩ = some (.int .u8 2) := hc0
        clear hc0 e0
        have RA := mark_all R b off c B base xs w hr Ag ng cg rgs gs num Aw nw cw rws ws rx hbS hnw hng hbase
        generalize markN ⟨gs, num, ws⟩ xs = s at *
        obtain ⟨d, s⟩ := s
        simp only at RA
        have HL := Lib.hid hl
        clear hl hR hM hT hk
        go_enter Try.func22, Try.ntmps22
        go_wp2_with fail
        refine RA.mono ?_
        rintro e w1 ⟨rfl, hs1, hb1⟩
        go_wp2
        go_ret2
        exact ⟨rfl, hs1, hb1⟩
      · have hT : takeS ⟨gs, num, ws⟩ xs = none := by
          unfold takeS
          rw [if_neg hR, if_neg (by unfold isMark; simp; exact fun _ => hk)]
        rw [hT]
        exact (take_none R b off 9 c B xs w hr hn (.inr ⟨rfl, hk⟩)).mono fun e w' ⟨a, d⟩ => ⟨a, by rw [← d]; exact Below.refl _ _⟩
    · have hT : takeS ⟨gs, num, ws⟩ xs = none := by
        unfold takeS
        rw [if_neg hR, if_neg (by unfold isMark; rw [hl]; simp; exact fun h => absurd h h9)]
      rw [hT]
      exact (take_short R _ n c w (by omega) h9).mono fun e w' ⟨a, d⟩ => ⟨a, by rw [← d]; exact Below.refl _ _⟩

end Go.Proofs.Ytkgccoghdalniaa
