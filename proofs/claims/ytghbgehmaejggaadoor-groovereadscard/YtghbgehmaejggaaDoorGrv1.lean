/- Package groove: room, Full, Places. No law is claimed here. -/
import Derived.Test.YtghbgehmaejggaaDoorBlk7
import Derived.Test.YtghbgehmaejggaaDoorK5
import Derived.Test.YtghbgehmaejggaaDoorSealW
import Derived.Test.YtghbgehmaejggaaDoorMore
namespace Go.Proofs.YtghbgehmaejggaaDoor
open Go.RowKit

/-- the bytes that a block takes -/
def gRoom (b : Bm) : Nat := 124 + b.data.length
def gAt (l : List Bm) (k : Nat) : Nat := 3500 + ((l.take k).map gRoom).sum
def gFull (l : List Bm) : Nat := gAt l l.length
theorem gAt_snoc (l : List Bm) (k : Nat) (h : k < l.length) : gAt l (k + 1) = gAt l k + gRoom l[k] := by
  unfold gAt
  rw [List.take_succ_eq_append_getElem h, List.map_append, List.sum_append]
  simp; omega
theorem gAt_le (l : List Bm) (k : Nat) (h : ∀ x ∈ l, x.data.length ≤ 100000) (hk : k ≤ l.length) : gAt l k ≤ 3500 + k * 100124 := by
  induction k with
  | zero => simp [gAt]
  | succ k ih =>
    have hk' : k < l.length := by omega
    rw [gAt_snoc l k hk']
    have h1 := h l[k] (List.getElem_mem hk')
    have h2 := ih (by omega)
    unfold gRoom
    omega
theorem gAt_mono (l : List Bm) (j k : Nat) (h : j ≤ k) (hk : k ≤ l.length) : gAt l j ≤ gAt l k := by
  induction k with
  | zero => obtain rfl : j = 0 := by omega
            exact Nat.le_refl _
  | succ k ih =>
    rcases Nat.lt_or_ge j (k + 1) with h1 | h1
    · have h2 := ih (by omega) (by omega)
      rw [gAt_snoc l k (by omega)]
      omega
    · obtain rfl : j = k + 1 := by omega
      exact Nat.le_refl _

set_option maxRecDepth 100000 in
set_option maxHeartbeats 1000000 in
theorem room_any (k : Int) (A : Option Addr) (n c : Nat) (w : World) (hn : n ≤ 100000) :
    Calls Tryd.prog 38 #[.agg #[.int .u8 k, .slice A n c]] w fun e w' => e = .returned (.int .i64 ((124 + n : Nat) : Int)) ∧ Ext w w' := by
  have e1 : (2 : Int) + (n : Int) + 2 + 120 = ((124 + n : Nat) : Int) := by omega
  go_enter Tryd.func38, Tryd.ntmps38
  go_wp2
  go_ret
  exact ⟨rfl, (Ext.refl _).alloc _⟩

set_option maxRecDepth 100000 in
set_option maxHeartbeats 1000000 in
theorem full_any (A : Option Addr) (n c : Nat) (S : Nat → Prop) (l : List Bm) (w : World) (hr : RdX shB w S A n c l) (hS : ∀ b, S b → b < w.heap.size) (hn : n ≤ 100000) (hd : Hid (∀ x ∈ l, x.data.length ≤ 100000)) :
    Calls Tryd.prog 26 #[.slice A n c] w fun e w' => e = .returned (.int .i64 (gFull l : Int)) ∧ Below w.heap.size w w' := by
  have HL := Lib.hid hr.len
  have HF : Hid (gFull l = gAt l n) := by show gAt l l.length = _; rw [hr.len]
  rw [HF.out]
  go_enter Tryd.func26, Tryd.ntmps26
  go_wp2
  go_loopw [3, 8] (fun v i wr => ∃ (k z : Nat), k ≤ n ∧ i = .int .i64 k ∧ v = .int .i64 z ∧ Hid (z = gAt l k) ∧ z ≤ 3500 + k * 100124 ∧ Below w.heap.size w wr) (fun _ i _ => n - (intOf i).toNat)
  case atStart => exact ⟨0, 3500, Nat.zero_le _, rfl, rfl, by show _ = _; simp [gAt], by omega, Below.refl _ _⟩
  case round =>
    obtain ⟨k, z, hk, rfl, rfl, hz, hzb, hb⟩ := hrel
    by_cases hlt : k < n
    · have hkx : k < l.length := by rw [HL.out]; exact hlt
      obtain ⟨b, off, A3, n3, c3, rfl, hSb, hc0, hc1, hrd⟩ := rdB_at (hr.keep (Kp.below hb hS) (fun _ h => h)) k hkx
      have hl3 := hrd.len
      have hn3 : n3 ≤ 100000 := by have := hd.out _ (List.getElem_mem hkx); omega
      have HT : Hid (gAt l (k + 1) = z + (124 + n3)) := by show _ = _; rw [gAt_snoc l k hkx, ← hz.out, gRoom, hl3]
      have hbr : b < wr.heap.size := Nat.lt_of_lt_of_le (hS b hSb) hb.size
      have e1 : (z : Int) + ((124 + n3 : Nat) : Int) = ((z + (124 + n3) : Nat) : Int) := by omega
      clear hrd hl3 hz
      generalize l[k].kind = x at *
      go_wp2_with (go_at_call 38; refine (room_any _ _ _ _ _ hn3).mono ?_; rintro e w' ⟨rfl, os, q, rfl⟩)
      go_roundw
      case rel => exact ⟨k + 1, z + (124 + n3), by omega, by go_num, rfl, HT.out.symm, by omega, ext_below (hb.alloc hb.size _) (by simp; have := hb.size; omega) _ _⟩
      case measure => simp [intOf]; omega
    · obtain rfl : k = n := by omega
      rw [hz.out]
      go_wp2
      go_ret
      exact ⟨rfl, hb⟩

end Go.Proofs.YtghbgehmaejggaaDoor
