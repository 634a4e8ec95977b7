/- Package groove: Places. No law is claimed here. -/
import Derived.Test.YtghbgehmaejggaaDoorGrv1
namespace Go.Proofs.YtghbgehmaejggaaDoor
open Go.RowKit

/-- where the kinds of blocks stand -/
def gPl (l : List Bm) (k : Nat) : List Int := (List.range k).map fun j => ((gAt l j + 1 : Nat) : Int)
theorem gPl_snoc (l : List Bm) (k : Nat) : gPl l (k + 1) = gPl l k ++ [((gAt l k + 1 : Nat) : Int)] := by
  unfold gPl; rw [List.range_succ, List.map_append]; rfl
theorem gPl_len (l : List Bm) (k : Nat) : (gPl l k).length = k := by simp [gPl]
theorem grown_cell {w w' : World} {row : Option Nat} {b i : Nat} {v : Value} (hg : w.grownBy w' row) (hc : w.cell? ⟨b, i, none⟩ = some v) (hb : b < w.heap.size) (hne : some b ≠ row) : w'.cell? ⟨b, i, none⟩ = some v :=
  (World.cell?_of_block (a := ⟨b, i, none⟩) (hg.block b hb hne)).trans hc

set_option maxRecDepth 100000 in
set_option maxHeartbeats 1000000 in
theorem places_any (A : Option Addr) (n c : Nat) (S : Nat → Prop) (l : List Bm) (w : World) (hr : RdX shB w S A n c l) (hS : ∀ b, S b → b < w.heap.size) (hn : n ≤ 100000) (hd : Hid (∀ x ∈ l, x.data.length ≤ 100000)) :
    Calls Tryd.prog 27 #[.slice A n c] w (RetL iv 3 w (gPl l n)) := by
  have HL := Lib.hid hr.len
  obtain ⟨i0, hi, hz0, hz1, hz2⟩ := info_parts Tryd.infoInt
  go_enter Tryd.func27, Tryd.ntmps27
  go_wp2
  go_loopw [3, 4, 9] (fun v a i wr => ∃ (k z : Nat) (A' : Option Addr) (n' c' : Nat), k ≤ n ∧ i = .int .i64 k ∧ a = .int .i64 z ∧ v = .slice A' n' c' ∧ n' ≤ k ∧ Hid (z = gAt l k) ∧ z ≤ 3500 + k * 100124 ∧ Own iv wr w.heap.size 3 A' n' c' (gPl l k) ∧ Below w.heap.size w wr) (fun _ _ i _ => n - (intOf i).toNat)
  case atStart => exact ⟨0, 3500, none, 0, 0, Nat.zero_le _, rfl, rfl, rfl, Nat.le_refl _, by show _ = _; simp [gAt], by omega, Own.empty _ _ _ _, Below.refl _ _⟩
  case round =>
    obtain ⟨k, z, A', n', c', hk, rfl, rfl, rfl, hn', hz, hzb, hown, hb⟩ := hrel
    have hsz := hb.size
    by_cases hlt : k < n
    · have hkx : k < l.length := by rw [HL.out]; exact hlt
      obtain ⟨b, off, A3, n3, c3, rfl, hSb, hc0, hc1, hrd⟩ := rdB_at (hr.keep (Kp.below hb hS) (fun _ h => h)) k hkx
      have hl3 := hrd.len
      have hn3 : n3 ≤ 100000 := by have := hd.out _ (List.getElem_mem hkx); omega
      have HT : Hid (gAt l (k + 1) = z + (124 + n3)) := by show _ = _; rw [gAt_snoc l k hkx, ← hz.out, gRoom, hl3]
      have hbr : b < wr.heap.size := Nat.lt_of_lt_of_le (hS b hSb) hb.size
      have e1 : (z : Int) + ((124 + n3 : Nat) : Int) = ((z + (124 + n3) : Nat) : Int) := by omega
      have HP : Hid (gPl l (k + 1) = gPl l k ++ [(z : Int) + 1]) := by show _ = _; rw [gPl_snoc, ← hz.out]; simp
      clear hrd hl3
      generalize l[k].kind = x at *
      have hr1 := Rd.one (f := iv) (wr.alloc (.cells #[.int .u8 (x.toNat : Int), .slice A3 n3 c3] 48)) 3 ((z : Int) + 1)
      have hsA : (wr.alloc (.cells #[.int .u8 (x.toNat : Int), .slice A3 n3 c3] 48)).heap.size = wr.heap.size + 1 := by simp
      rw [hsA] at hr1
      have HR := Lib.hid hr1
      have D0 : ((wr.alloc (.cells #[.int .u8 (x.toNat : Int), .slice A3 n3 c3] 48)).alloc (.cells #[iv ((z : Int) + 1)] 3)).cell? ⟨wr.heap.size, 0, none⟩ = some (.int .u8 (x.toNat : Int)) := by simp [go_sem]
      have D1 : ((wr.alloc (.cells #[.int .u8 (x.toNat : Int), .slice A3 n3 c3] 48)).alloc (.cells #[iv ((z : Int) + 1)] 3)).cell? ⟨wr.heap.size, 1, none⟩ = some (.slice A3 n3 c3) := by simp [go_sem]
      have D2 : wr.heap.size < ((wr.alloc (.cells #[.int .u8 (x.toNat : Int), .slice A3 n3 c3] 48)).alloc (.cells #[iv ((z : Int) + 1)] 3)).heap.size := by simp; omega
      have D3 : some wr.heap.size ≠ Value.ownBlock (.slice A' n' c') := fun e => by have := (hown.lt _ e.symm).2; omega
      clear hr1 hsA
      go_wp2_with (first
        | (at_builtin; refine wpList_app _ oneCell_iv rfl (.tmp 13) (.tmp 16) _ rfl w.heap.size 3 i0 _ 8 Tryd.underlying62 hi hz0 hz1 hz2 rfl A' n' c' _ rfl ((hown.alloc _).alloc _) _ _ 1 1 _ rfl HR.out (by simp only [maxLen]; omega) (by omega) (by simp; omega) ?_
           intro A4 c4 w4 hown4 hb4 hg4
           have d0 := grown_cell hg4 D0 D2 D3
           have d1 := grown_cell hg4 D1 D2 D3)
        | (go_at_call 38; refine (room_any _ _ _ _ _ hn3).mono ?_; rintro e w5 ⟨rfl, x5⟩))
      go_roundw
      case rel =>
        have hb4' : Below w.heap.size w w4 := (hb.alloc hsz _).trans (((Below.refl _ _).alloc (by simp; omega) _).trans hb4)
        exact ⟨k + 1, z + (124 + n3), A4, n' + 1, c4, by omega, by go_num, by congr 1, rfl, by omega, HT.out.symm, by omega, by rw [HP.out]; exact hown4.below x5.below, hb4'.trans (x5.below.mono hb4'.size)⟩
      case measure => simp [intOf]; omega
    · obtain rfl : k = n := by omega
      go_wp2
      go_ret
      exact ⟨A', n', c', rfl, hown, hb⟩

end Go.Proofs.YtghbgehmaejggaaDoor
