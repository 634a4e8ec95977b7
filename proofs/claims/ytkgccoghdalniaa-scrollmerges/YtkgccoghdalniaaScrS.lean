/- The contract of the law package's same, where both are equal. No law is claimed here. -/
import Derived.Test.YtkgccoghdalniaaScrF
namespace Go.Proofs.Ytkgccoghdalniaa
open Go.RowKit

def okS (g : Gm) : Prop := g.ws.length ≤ 1000000 ∧ ∀ x ∈ g.ws, 0 ≤ x.pl ∧ x.pl < 4294967296 ∧ x.data.length ≤ 1000000

set_option maxRecDepth 100000 in
set_option maxHeartbeats 8000000 in
theorem same3_yes (A A2 : Option Addr) (n c m c2 : Nat) (S S2 : Nat → Prop) (gs : List Gm) (w : World) (hr : RdX (shG .u8 .u32) w S A n c gs) (hr2 : RdX (shG .i64 .i64) w S2 A2 m c2 gs) (hS : ∀ b, S b → b < w.heap.size) (hS2 : ∀ b, S2 b → b < w.heap.size) (hn : n ≤ 1000000)
    (ho : Hid (∀ g ∈ gs, okS g)) :
    Calls Try.prog 11 #[.slice A n c, .slice A2 m c2] w fun e w' => e = .returned (.bool true) ∧ Below w.heap.size w w' := by
  have hl := hr.len
  obtain rfl : n = m := by have := hr2.len; omega
  have HL := Lib.hid hl
  clear hl
  have h1 : ((n : Int) != (n : Int)) = false := by simp
  go_enter Try.func11, Try.ntmps11
  go_wp2
  go_loopw [17] (fun i wr => ∃ (k : Nat), k ≤ n ∧ i = .int .i64 k ∧ Below w.heap.size w wr) (fun i _ => n - (intOf i).toNat)
  case atStart => exact ⟨0, Nat.zero_le _, rfl, Below.refl _ _⟩
  case round =>
    obtain ⟨k, hk, rfl, hb⟩ := hrel
    have hsz := hb.size
    by_cases hlt : k < n
    · have hkx : k < gs.length := by rw [HL.out]; exact hlt
      obtain ⟨b, off, A3, n3, c3, rfl, hSb, hc0, hc1, hrw⟩ := rdG_at (hr.keep (Kp.below hb hS) (fun _ h => h)) k hkx
      obtain ⟨b2, off2, A4, n4, c4, rfl, hSb2, hd0, hd1, hrw2⟩ := rdG_at (hr2.keep (Kp.below hb hS2) (fun _ h => h)) k hkx
      have hok := ho.out gs[k] (List.getElem_mem hkx)
      have hb1 := hS b hSb
      have hb2 := hS2 b2 hSb2
      generalize gs[k] = x at *
      obtain ⟨xn, ws⟩ := x
      unfold okS at hok
      simp only at *
      have hl3 := hrw.len
      obtain rfl : n3 = n4 := by have := hrw2.len; omega
      have HL3 := Lib.hid hl3
      have HOK := Lib.hid hok.2
      have hn3 : n3 ≤ 1000000 := by have := hok.1; omega
      clear hl3 hok
      have t1 : (xn != xn) = false := by simp
      have t2 : ((n3 : Int) != (n3 : Int)) = false := by simp
      have hbA := hb.alloc hsz (.cells #[.int .u32 xn, .slice A3 n3 c3] 52)
      have hA1 : (wr.alloc (.cells #[.int .u32 xn, .slice A3 n3 c3] 52)).cell? ⟨b2, off2 + k * 2, none⟩ = some (.int .u32 xn) := (World.cell?_alloc_lt wr _ _ (by show b2 < _; omega)).trans hd0
      have hA2 : (wr.alloc (.cells #[.int .u32 xn, .slice A3 n3 c3] 52)).cell? ⟨b2, off2 + k * 2 + 1, none⟩ = some (.slice A4 n3 c4) := (World.cell?_alloc_lt wr _ _ (by show b2 < _; omega)).trans hd1
      have i1 : (k : Int) < n := by omega
      go_wp2_with fail
      go_quiet (fail)
      rename_i nq
      have belq : Below w.heap.size w ((wr.alloc (.cells #[.int .u32 xn, .slice A3 n3 c3] 52)).drewN nq) := hbA.trans (Still.below ⟨nq, rfl⟩ _)
      have L1 : ((wr.alloc (.cells #[.int .u32 xn, .slice A3 n3 c3] 52)).drewN nq).cell? ⟨wr.heap.size, 1, none⟩ = some (.slice A3 n3 c3) := by
        show (wr.alloc (.cells #[.int .u32 xn, .slice A3 n3 c3] 52)).cell? _ = _
        rw [cell_of_row _ _ _ _ _ _ (heap_alloc_new wr _)]; rfl
      have kpq : Kp (fun b => b < wr.heap.size) wr ((wr.alloc (.cells #[.int .u32 xn, .slice A3 n3 c3] 52)).drewN nq) := (Kp.alloc (fun b h => h) _).trans (Kp.drewN _ _ _)
      have hszq : wr.heap.size ≤ ((wr.alloc (.cells #[.int .u32 xn, .slice A3 n3 c3] 52)).drewN nq).heap.size := by simp
      clear hA1 hA2 hbA
      generalize (wr.alloc (.cells #[.int .u32 xn, .slice A3 n3 c3] 52)).drewN nq = wq at *
      have rw1 := hrw.keep (kpq.sub fun b h => by have := hS b h; omega) (fun _ h => h)
      have rw2 := hrw2.keep (kpq.sub fun b h => by have := hS2 b h; omega) (fun _ h => h)
      have q1 : wq.cell? ⟨b2, off2 + k * 2 + 1, none⟩ = some (.slice A4 n3 c4) := (kpq.cell (by show b2 < wr.heap.size; omega)).trans hd1
      clear hrw hrw2 kpq hc0 hc1 hd0 hd1
      go_wp2
      go_loopw [45] (fun i wx => ∃ (j : Nat), j ≤ n3 ∧ i = .int .i64 j ∧ Below wq.heap.size wq wx) (fun i _ => n3 - (intOf i).toNat)
      case atStart => exact ⟨0, Nat.zero_le _, rfl, Below.refl _ _⟩
      case round =>
        obtain ⟨j, hj, rfl, hbx⟩ := hrel
        have hszx := hbx.size
        by_cases hjt : j < n3
        · have hjx : j < ws.length := by rw [HL3.out]; exact hjt
          obtain ⟨e1, o1, A5, n5, c5, rfl, hSe1, hx0, hx1, hx2, hrd⟩ := rdW_at (rw1.keep (Kp.below hbx (fun b h => by have := hS b h; omega)) (fun _ h => h)) j hjx
          obtain ⟨e2, o2, A6, n6, c6, rfl, hSe2, hy0, hy1, hy2, hrd2⟩ := rdW_at (rw2.keep (Kp.below hbx (fun b h => by have := hS2 b h; omega)) (fun _ h => h)) j hjx
          have hxo := HOK.out ws[j] (List.getElem_mem hjx)
          have he1 := hS e1 hSe1
          have he2 := hS2 e2 hSe2
          have hl5 := hrd.len
          generalize ws[j] = y at *
          obtain ⟨ys, ya, yd⟩ := y
          simp only at *
          obtain ⟨hya0, hya1, hyd⟩ := hxo
          have hys := ys.toNat_lt
          have hys' : (ys.toNat : Int) < 256 := by omega
          have hn5 : n5 ≤ 1000000 := by omega
          clear hl5 hyd hys
          have p1 : wr.cell? ⟨b2, off2 + k * 2 + 1, none⟩ = some (.slice (some ⟨e2, o2, none⟩) n3 c4) := (hbx.cell (p := ⟨b2, off2 + k * 2 + 1, none⟩) (by show b2 < _; omega)).trans q1
          have hAA : w.heap.size ≤ wr.heap.size := by omega
          have z1 := (World.cell?_alloc_lt wr (.cells #[.int .u8 (ys.toNat : Int), .int .u32 ya, .slice A5 n5 c5] 44) ⟨b2, off2 + k * 2 + 1, none⟩ (by show b2 < _; omega)).trans p1
          have z2 := (World.cell?_alloc_lt wr (.cells #[.int .u8 (ys.toNat : Int), .int .u32 ya, .slice A5 n5 c5] 44) ⟨e2, o2 + j * 3, none⟩ (by show e2 < _; omega)).trans hy0
          have z3 := (World.cell?_alloc_lt wr (.cells #[.int .u8 (ys.toNat : Int), .int .u32 ya, .slice A5 n5 c5] 44) ⟨e2, o2 + j * 3 + 1, none⟩ (by show e2 < _; omega)).trans hy1
          have z4 := (World.cell?_alloc_lt wr (.cells #[.int .u8 (ys.toNat : Int), .int .u32 ya, .slice A5 n5 c5] 44) ⟨e2, o2 + j * 3 + 2, none⟩ (by show e2 < _; omega)).trans hy2
          have u1 : ((ys.toNat : Int) != (ys.toNat : Int)) = false := by simp
          have u2 : (ya != ya) = false := by simp
          have i2 : (j : Int) < n3 := by omega
          have v1 := ((hrd.rd hS).alloc hAA (.cells #[.int .u8 (ys.toNat : Int), .int .u32 ya, .slice A5 n5 c5] 44)).alloc (by simp; omega) (.cells #[.int .i64 (ys.toNat : Int), .int .i64 ya, .slice A6 n6 c6] 69)
          have v2 := ((hrd2.rd hS2).alloc hAA (.cells #[.int .u8 (ys.toNat : Int), .int .u32 ya, .slice A5 n5 c5] 44)).alloc (by simp; omega) (.cells #[.int .i64 (ys.toNat : Int), .int .i64 ya, .slice A6 n6 c6] 69)
          go_wp2_with (go_at_call 16; refine (same_yes A5 A6 n5 c5 n6 c6 _ _ yd _ v1 v2 (by omega)).mono ?_; rintro e w9 ⟨rfl, q9, rfl⟩)
          go_roundw
          case rel => exact ⟨j + 1, by omega, by go_num, ((hbx.alloc hszx _).alloc (by simp; omega) _).trans (Still.below ⟨q9, rfl⟩ _)⟩
          case measure => simp [intOf]; omega
        · go_wp2
          go_roundw
          case rel => exact ⟨k + 1, by omega, by go_num, belq.trans (hbx.mono (by omega))⟩
          case measure => simp [intOf]; omega
    · go_wp2
      go_ret
      exact ⟨rfl, hb⟩

end Go.Proofs.Ytkgccoghdalniaa
