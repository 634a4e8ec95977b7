/- Contract of block.Same, where both are equal. No law is claimed here. -/
import Derived.Test.YtdefkajjpilicaaBlk5
namespace Go.Proofs.Ytdefkajjpilicaa
open Go.RowKit

set_option maxRecDepth 100000 in
set_option maxHeartbeats 1000000 in
theorem sameBlock_yes (s : Int) (A A2 : Option Addr) (n c m c2 B B2 : Nat) (xs : List UInt8) (w : World) (hr : Rd bv w B A n c xs) (hr2 : Rd bv w B2 A2 m c2 xs) (hB : B ≤ w.heap.size) (hB2 : B2 ≤ w.heap.size) :
    Calls Try.prog 32 #[.agg #[.int .u8 s, .slice A n c], .agg #[.int .u8 s, .slice A2 m c2]] w fun e w' => e = .returned (.bool true) ∧ Below w.heap.size w w' := by
  have t1 : (s == s) = true := by simp
  go_enter Try.func32, Try.ntmps32
  go_wp2_with (go_at_call 35; refine (equal_yes A A2 n c m c2 B B2 xs _ ((hr.alloc hB _).alloc (by simp; omega) _) ((hr2.alloc hB2 _).alloc (by simp; omega) _)).mono ?_; rintro e w' ⟨rfl, rfl⟩)
  go_ret
  exact ⟨rfl, ((Below.refl _ _).alloc (Nat.le_refl _) _).alloc (by simp) _⟩

set_option maxRecDepth 100000 in
set_option maxHeartbeats 2000000 in
theorem beqFunc_yes (A A2 : Option Addr) (n c m c2 : Nat) (S S2 : Nat → Prop) (l : List Bm) (w : World) (hr : RdX shB w S A n c l) (hr2 : RdX shB w S2 A2 m c2 l) (hS : ∀ b, S b → b < w.heap.size) (hS2 : ∀ b, S2 b → b < w.heap.size) (hn : n ≤ 1000000) :
    Calls Try.prog 31 #[.slice A n c, .slice A2 m c2, .func (.func 32) #[] #[]] w fun e w' => e = .returned (.bool true) ∧ Below w.heap.size w w' := by
  have hl := hr.len
  obtain rfl : n = m := by have := hr2.len; omega
  have HL := Lib.hid hl
  clear hl
  have h1 : ((n : Int) != (n : Int)) = false := by simp
  go_enter Try.func31, Try.ntmps31
  go_wp2
  go_loopw [17] (fun i wr => ∃ (k : Nat), k ≤ n ∧ i = .int .i64 k ∧ Below w.heap.size w wr) (fun i _ => n - (intOf i).toNat)
  case atStart => exact ⟨0, Nat.zero_le _, rfl, Below.refl _ _⟩
  case round =>
    obtain ⟨k, hk, rfl, hb⟩ := hrel
    have hsz := hb.size
    by_cases hlt : k < n
    · have hkx : k < l.length := by rw [HL.out]; exact hlt
      obtain ⟨b, off, A3, n3, c3, rfl, hSb, hc0, hc1, hrd⟩ := rdB_at (hr.keep (Kp.below hb hS) (fun _ h => h)) k hkx
      obtain ⟨b2, off2, A4, n4, c4, rfl, hSb2, hd0, hd1, hrd2⟩ := rdB_at (hr2.keep (Kp.below hb hS2) (fun _ h => h)) k hkx
      have hb1 := hS b hSb
      have hb2 := hS2 b2 hSb2
      generalize l[k] = x at *
      obtain ⟨xs, xd⟩ := x
      simp only at *
      have hbw : b2 < wr.heap.size := by omega
      have q1 := (hrd.rd hS).alloc hsz (.cells #[.int .u8 (xs.toNat : Int), .slice A3 n3 c3] 49)
      have q2 := (hrd2.rd hS2).alloc hsz (.cells #[.int .u8 (xs.toNat : Int), .slice A3 n3 c3] 49)
      have e0 := (World.cell?_alloc_lt wr (.cells #[.int .u8 (xs.toNat : Int), .slice A3 n3 c3] 49) ⟨b2, off2 + k * 2, none⟩ hbw).trans hd0
      have e1 := (World.cell?_alloc_lt wr (.cells #[.int .u8 (xs.toNat : Int), .slice A3 n3 c3] 49) ⟨b2, off2 + k * 2 + 1, none⟩ hbw).trans hd1
      have hsz' : w.heap.size ≤ (wr.alloc (.cells #[.int .u8 (xs.toNat : Int), .slice A3 n3 c3] 49)).heap.size := by simp; omega
      go_wp2_with fail
      refine (sameBlock_yes _ A3 A4 n3 c3 n4 c4 w.heap.size w.heap.size xd _ (q1.alloc hsz' _) (q2.alloc hsz' _) (by simp; omega) (by simp; omega)).mono ?_
      rintro e w5 ⟨rfl, hb5⟩
      go_wp2
      go_roundw
      case rel => exact ⟨k + 1, by omega, by go_num, ((hb.alloc hsz _).alloc hsz' _).trans (hb5.mono (by simp; omega))⟩
      case measure => simp [intOf]; omega
    · go_wp2
      go_ret
      exact ⟨rfl, hb⟩

set_option maxRecDepth 100000 in
set_option maxHeartbeats 2000000 in
theorem bsame_yes (A A2 : Option Addr) (n c m c2 : Nat) (S S2 : Nat → Prop) (l : List Bm) (w : World) (hr : RdX shB w S A n c l) (hr2 : RdX shB w S2 A2 m c2 l) (hS : ∀ b, S b → b < w.heap.size) (hS2 : ∀ b, S2 b → b < w.heap.size) (hn : n ≤ 1000000) :
    Calls Try.prog 21 #[.slice A n c, .slice A2 m c2] w fun e w' => e = .returned (.bool true) ∧ Below w.heap.size w w' := by
  go_enter Try.func21, Try.ntmps21
  go_wp2_with fail
  refine (beqFunc_yes A A2 n c m c2 S S2 l _ hr hr2 hS hS2 hn).mono ?_
  rintro e w5 ⟨rfl, hb5⟩
  go_wp2
  go_ret
  exact ⟨rfl, hb5⟩

end Go.Proofs.Ytdefkajjpilicaa
