/- The document's example of layer 14; Mirror, Colour, Name, Shade, Row, the document's own (walks). No law is claimed here. -/
import Derived.Test.YthldppdkheclkaaLy2
namespace Go.Proofs.Ythldppdkheclkaa
open Go.RowKit

theorem awake14_val : offL (offL ⟨0, 0, 0, false⟩ 125) 94 = ⟨0, 24943, 5, false⟩ := by apply ls_ext <;> decide +kernel

def mirN (at_ : Int) (up : Bool) : Int := at_ % 1024 + (if up then at_ / 1024 % 2 else at_ / 2048 % 2) * 1024
set_option maxRecDepth 100000 in
set_option maxHeartbeats 1000000 in
theorem mirror_any (a : Int) (up : Bool) (w : World) (ha : 0 ≤ a ∧ a < 65536) :
    Calls Try.prog 73 #[.int .u16 a, .bool up] w fun e w' => e = .returned (.int .u16 (mirN a up)) ∧ w' = w := by
  have k1 := m1023 a ha
  have k2 := m1024 a ha
  have k3 := m2048 a ha
  have y1 := ha.1
  have y2 := ha.2
  clear ha
  cases up
  all_goals
    rcases (by omega : a / 1024 % 2 = 0 ∨ a / 1024 % 2 = 1) with e1 | e1
    all_goals
      rcases (by omega : a / 2048 % 2 = 0 ∨ a / 2048 % 2 = 1) with e2 | e2
      all_goals
        rw [e1] at k2
        rw [e2] at k3
        go_enter Try.func73, Try.ntmps73
        go_wp2
        go_ret
        refine ⟨?_, rfl⟩
        simp [mirN, e1, e2]
        try omega

def colN (a : Int) : Int := if a % 4 = 0 then a % 16 else a % 32
set_option maxRecDepth 100000 in
set_option maxHeartbeats 1000000 in
theorem colour_any (a : Int) (w : World) (ha : 0 ≤ a ∧ a < 65536) :
    Calls Try.prog 74 #[.int .u16 a] w fun e w' => e = .returned (.int .u8 (colN a)) ∧ w' = w := by
  have k1 := m31 a ha
  have y1 := ha.1
  have y2 := ha.2
  have k2 := b3 (a % 32) (by omega)
  have k3 : ∀ n : Fin 32, bits .andNot .u8 (n.val : Int) 16 = (n.val : Int) % 16 := by decide +kernel
  have k4 := k3 ⟨(a % 32).toNat, by omega⟩
  rw [show ((⟨(a % 32).toNat, by omega⟩ : Fin 32).val : Int) = a % 32 from Int.toNat_of_nonneg (by omega)] at k4
  have k5 : a % 32 % 256 = a % 32 := by omega
  clear ha k3
  rcases (by by_cases h : a % 32 % 4 = 0; exact .inl h; exact .inr h : a % 32 % 4 = 0 ∨ ¬ a % 32 % 4 = 0) with e1 | e1
  all_goals
    go_enter Try.func74, Try.ntmps74
    go_wp2
    go_ret
    refine ⟨?_, rfl⟩
    simp [colN]
    try omega

end Go.Proofs.Ythldppdkheclkaa
