/- Letters of buttons: what Go's library does of it. No law is claimed here. -/
import Derived.Test.YtahoebnlihgobaaPad3
import Derived.Lib.Bytealg
import Derived.Lib.Builder
import Derived.Lib.UnsafeStr
namespace Go.Proofs.Ytahoebnlihgobaa
open Go.RowKit

set_option maxRecDepth 100000 in
set_option maxHeartbeats 1000000 in
theorem liteIndexByte_any (s : ByteArray) (c : Int) (w : World) :
    Calls Try.prog 35 #[.string s, .int .u8 c] w fun e w' => e = .returned (.int .i64 (Lib.indexByte s.data.toList c.toNat.toUInt8)) ∧ w' = w := by
  have hx : ∀ w, (callFunc 36 #[.string s, .int .u8 c]).run Try.prog w = .ok (.value (.int .i64 (Lib.indexByte s.data.toList c.toNat.toUInt8))) w := fun w => by
    rw [run_callFunc_extern Try.func36 (by kernel_rfl) (by kernel_rfl) (by kernel_rfl) (e := Extern.BytealgIndexByte.indexByte) (by kernel_rfl), Lib.run_indexByteString]
    rfl
  go_enter Try.func35, Try.ntmps35
  go_wp2
  go_ret
  exact ⟨rfl, rfl⟩
set_option maxRecDepth 100000 in
set_option maxHeartbeats 1000000 in
theorem indexByte_any (s : ByteArray) (c : Int) (w : World) :
    Calls Try.prog 29 #[.string s, .int .u8 c] w fun e w' => e = .returned (.int .i64 (Lib.indexByte s.data.toList c.toNat.toUInt8)) ∧ w' = w := by
  go_enter Try.func29, Try.ntmps29
  go_wp2_with (go_at_call 35; refine (liteIndexByte_any _ _ _).mono ?_; rintro e w' ⟨rfl, hq⟩; rw [hq]; clear hq w')
  go_ret
  exact ⟨rfl, rfl⟩
set_option maxRecDepth 100000 in
set_option maxHeartbeats 1000000 in
theorem indexRune_ascii (s : ByteArray) (r : Int) (h0 : 0 ≤ r) (h1 : r < 128) (w : World) :
    Calls Try.prog 26 #[.string s, .int .i32 r] w fun e w' => e = .returned (.int .i64 (Lib.indexByte s.data.toList r.toNat.toUInt8)) ∧ w' = w := by
  have e1 : IntKind.u8.wrap r = r := by unfold IntKind.wrap; simp [IntKind.signed, IntKind.bits]; omega
  go_enter Try.func26, Try.ntmps26
  go_wp2_with (go_at_call 29; refine (indexByte_any _ _ _).mono ?_; rintro e w' ⟨rfl, hq⟩; rw [hq]; clear hq w')
  go_ret
  exact ⟨rfl, rfl⟩
/-- whether a byte stands in a text -/
def hasB (s : ByteArray) (r : Int) : Bool := decide (0 ≤ Lib.indexByte s.data.toList r.toNat.toUInt8)
set_option maxRecDepth 100000 in
set_option maxHeartbeats 1000000 in
theorem containsRune_ascii (s : ByteArray) (r : Int) (h0 : 0 ≤ r) (h1 : r < 128) (w : World) :
    Calls Try.prog 23 #[.string s, .int .i32 r] w fun e w' => e = .returned (.bool (hasB s r)) ∧ w' = w := by
  go_enter Try.func23, Try.ntmps23
  go_wp2_with (go_at_call 26; refine (indexRune_ascii _ _ h0 h1 _).mono ?_; rintro e w' ⟨rfl, hq⟩; rw [hq]; clear hq w')
  go_ret
  exact ⟨rfl, rfl⟩

end Go.Proofs.Ytahoebnlihgobaa
