/- The law package's awake: true. No law is claimed here. -/
import Derived.Test.YtodpafiecmipkaaSealW2
import Derived.Lib.SlBytesConst
import Derived.Lib.SmallJoins
namespace Go.Proofs.Ytodpafiecmipkaa
open Go.RowKit

set_option maxHeartbeats 400000 in
theorem awake2_any (w : World) : Calls Try.prog 9 #[] w fun e w' => e = .returned (.bool true) ∧ Below w.heap.size w w' := by
  have kc := fun (C : Array Value) (n c : Nat) => Lib.run_convert_bytes_const (P := Try.prog) w 22 5 C n c Try.underlying22 Try.underlying5
  go_enter Try.func9, Try.ntmps9
  go_wp2_with fail
  refine (slong_any _ 9 9 (w.heap.size + 1) [49, 50, 51, 52, 53, 54, 55, 56, 57] _ (Rd.made (f := bv) w _ _ [49, 50, 51, 52, 53, 54, 55, 56, 57] _ _ _ rfl rfl rfl) (by omega)).mono ?_
  rintro e w' ⟨rfl, rfl⟩
  rw [long_check]
  go_wp2
  go_ret
  exact ⟨rfl, (Below.refl _ _).alloc (Nat.le_refl _) _⟩

end Go.Proofs.Ytodpafiecmipkaa
