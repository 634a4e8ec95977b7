/- The walk of the law SealSums. -/
import Derived.Test.YtodpafiecmipkaaRefW2
namespace Go.Proofs.Ytodpafiecmipkaa
open Go.RowKit

theorem wf_u8' {z : Int} (h : (Lit.int .u8 z).wf = true) : 0 ≤ z ∧ z < 256 := by
  simp [Lit.wf, IntKind.min, IntKind.max, IntKind.signed, IntKind.bits] at h; omega
theorem wf_u16' {z : Int} (h : (Lit.int .u16 z).wf = true) : 0 ≤ z ∧ z < 65536 := by
  simp [Lit.wf, IntKind.min, IntKind.max, IntKind.signed, IntKind.bits] at h; omega

set_option maxHeartbeats 1000000 in
theorem sealSums_walk (A : Option Addr) (n c : Nat) (xs : List UInt8) (s b : Int) (w : World) (hr : Rd bv w w.heap.size A n c xs) (hc : c ≤ maxLen) (ws : (Lit.int .u16 s).wf = true) (wb : (Lit.int .u8 b).wf = true) :
    Calls Try.prog 3 #[.slice A n c, .int .u16 s, .int .u8 b] w fun e w' => e = .returned (.bool true) ∧ Below w.heap.size w w' := by
  have hn : n ≤ 9223372036854775807 := by have := hr.cap; unfold maxLen at hc; omega
  obtain ⟨hs0, hs1⟩ := wf_u16' ws
  obtain ⟨hb0, hb1'⟩ := wf_u8' wb
  clear ws wb
  go_enter Try.func3, Try.ntmps3
  go_wp2_with fail
  refine (awake2_any w).mono ?_
  rintro e w1 ⟨rfl, hb1⟩
  go_wp2_with fail
  refine (cut_any A n c w.heap.size xs 100 w1 (hr.below hb1) hb1.size hn (by omega) (by omega)).mono ?_
  rintro e w2 ⟨A2, n2, c2, rfl, ho2, hb2⟩
  have hn2 : n2 ≤ 100 := by have := ho2.len; simp at this; omega
  generalize List.take (Int.toNat 100) xs = ys at *
  go_wp2_with fail
  refine (slong_any A2 n2 c2 w2.heap.size ys w2 ho2.rd (by omega)).mono ?_
  rintro e w3 ⟨rfl, rfl⟩
  go_wp2_with fail
  refine (rlong_any A2 n2 c2 w2.heap.size ys w2 ho2.rd (Nat.le_refl _) (by omega)).mono ?_
  rintro e w3 ⟨rfl, hb3⟩
  have hr3 : Rd bv w3 w2.heap.size A2 n2 c2 ys := ho2.rd.below hb3
  go_wp2_with fail
  refine (sshort_any A2 n2 c2 w2.heap.size ys w3 hr3 (by omega)).mono ?_
  rintro e w4 ⟨rfl, rfl⟩
  go_wp2_with fail
  refine (rshort_any A2 n2 c2 w2.heap.size ys w3 hr3 hb3.size (by omega)).mono ?_
  rintro e w4 ⟨rfl, hb4⟩
  go_wp2_with fail
  refine (sstep_any s b w4 hs0 hs1 hb0 hb1').mono ?_
  rintro e w5 ⟨rfl, rfl⟩
  go_wp2_with fail
  refine (rstep_any s b w4 hs0 hs1 hb0 hb1').mono ?_
  rintro e w5 ⟨rfl, hb5⟩
  go_wp2
  go_ret
  have h12 := Nat.le_trans hb1.size hb2.size
  have h13 := Nat.le_trans h12 hb3.size
  have h14 := Nat.le_trans h13 hb4.size
  exact ⟨rfl, ((((hb1.trans (hb2.mono hb1.size)).trans (hb3.mono h12)).trans (hb4.mono h13)).trans (hb5.mono h14))⟩

end Go.Proofs.Ytodpafiecmipkaa
