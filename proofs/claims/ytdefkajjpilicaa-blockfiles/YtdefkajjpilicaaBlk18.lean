/- A file's head, where the document says; too great a file. No law is claimed here. -/
import Derived.Test.YtdefkajjpilicaaBlk11
import Derived.Test.YtdefkajjpilicaaBlk15
import Derived.Test.YtdefkajjpilicaaK5
import Derived.Deep.DeepCutAuto
namespace Go.Proofs.Ytdefkajjpilicaa
open Go.RowKit

/-- a text in its place, with noughts behind -/
def padN (k : Nat) (u : List UInt8) : List UInt8 := (u.take k ++ List.replicate k 0).take k
theorem head_name (number id : UInt8) (nm : List UInt8) (a : Nat) (kind : UInt8) (sz : Nat) : ((headN number id nm a kind sz).drop 2).take 8 = padN 8 nm := by
  apply List.ext_getElem?
  intro i
  unfold padN
  rw [List.getElem?_take, List.getElem?_take]
  split
  · rename_i hi
    have hul : (nm.take 8).length ≤ 8 := by rw [List.length_take]; omega
    unfold headN
    generalize nm.take 8 = u at *
    rw [List.getElem?_drop, List.getElem?_set_ne (by omega), List.getElem?_set_ne (by omega), List.getElem?_set_ne (by omega), List.getElem?_set_ne (by omega), List.getElem?_set_ne (by omega)]
    unfold lay
    rw [List.getElem?_append_right (by simp), show 2 + i - (List.take 2 [number, id, 0, 0, 0, 0, 0, 0, 0, 0, 0, 0, 0, 0, 0]).length = i from by simp]
    by_cases hu : i < u.length
    · rw [List.getElem?_append_left hu, List.getElem?_append_left hu]
    · rw [List.getElem?_append_right (by omega), List.getElem?_append_right (by omega), List.getElem?_drop, List.getElem?_replicate, if_pos (by omega), show 2 + u.length + (i - u.length) = 2 + i from by omega]
      have : i = 0 ∨ i = 1 ∨ i = 2 ∨ i = 3 ∨ i = 4 ∨ i = 5 ∨ i = 6 ∨ i = 7 := by omega
      rcases this with rfl | rfl | rfl | rfl | rfl | rfl | rfl | rfl <;> rfl
  · rfl
theorem lay_low (xs : List UInt8) (k : Nat) (ys : List UInt8) (i : Nat) (hi : i < k) (hk : k ≤ xs.length) : (lay xs k ys)[i]? = xs[i]? := by
  unfold lay
  rw [List.getElem?_append_left (by rw [List.length_take]; omega), List.getElem?_take, if_pos hi]
theorem head_0 (number id : UInt8) (nm : List UInt8) (a : Nat) (kind : UInt8) (sz : Nat) : (headN number id nm a kind sz)[0]? = some number := by
  unfold headN
  rw [List.getElem?_set_ne (by omega), List.getElem?_set_ne (by omega), List.getElem?_set_ne (by omega), List.getElem?_set_ne (by omega), List.getElem?_set_ne (by omega), lay_low _ _ _ _ (by omega) (by simp)]; rfl
theorem head_1 (number id : UInt8) (nm : List UInt8) (a : Nat) (kind : UInt8) (sz : Nat) : (headN number id nm a kind sz)[1]? = some id := by
  unfold headN
  rw [List.getElem?_set_ne (by omega), List.getElem?_set_ne (by omega), List.getElem?_set_ne (by omega), List.getElem?_set_ne (by omega), List.getElem?_set_ne (by omega), lay_low _ _ _ _ (by omega) (by simp)]; rfl
theorem head_lay (number id : UInt8) (nm : List UInt8) : (lay [number, id, 0, 0, 0, 0, 0, 0, 0, 0, 0, 0, 0, 0, 0] 2 (nm.take 8)).length = 15 := by
  rw [lay_len _ _ _ (by simp; omega)]; rfl
theorem head_10 (number id : UInt8) (nm : List UInt8) (a : Nat) (kind : UInt8) (sz : Nat) : (headN number id nm a kind sz)[10]? = some (u8N (a % 256)) := by
  unfold headN
  rw [List.getElem?_set_ne (by omega), List.getElem?_set_ne (by omega), List.getElem?_set_ne (by omega), List.getElem?_set_ne (by omega), List.getElem?_set_self (by rw [head_lay]; omega)]
theorem head_11 (number id : UInt8) (nm : List UInt8) (a : Nat) (kind : UInt8) (sz : Nat) : (headN number id nm a kind sz)[11]? = some (u8N (a / 256)) := by
  unfold headN
  rw [List.getElem?_set_ne (by omega), List.getElem?_set_ne (by omega), List.getElem?_set_ne (by omega), List.getElem?_set_self (by simp [head_lay])]
theorem head_12 (number id : UInt8) (nm : List UInt8) (a : Nat) (kind : UInt8) (sz : Nat) : (headN number id nm a kind sz)[12]? = some (u8N (sz % 256)) := by
  unfold headN
  rw [List.getElem?_set_ne (by omega), List.getElem?_set_ne (by omega), List.getElem?_set_self (by simp [head_lay])]
theorem head_13 (number id : UInt8) (nm : List UInt8) (a : Nat) (kind : UInt8) (sz : Nat) : (headN number id nm a kind sz)[13]? = some (u8N (sz / 256)) := by
  unfold headN
  rw [List.getElem?_set_ne (by omega), List.getElem?_set_self (by simp [head_lay])]
theorem head_14 (number id : UInt8) (nm : List UInt8) (a : Nat) (kind : UInt8) (sz : Nat) : (headN number id nm a kind sz)[14]? = some kind := by
  unfold headN
  rw [List.getElem?_set_self (by simp [head_lay])]
theorem dhead_sign (sign : List UInt8) (side : UInt8) : (dheadN sign side).take 14 = padN 14 sign := by
  apply List.ext_getElem?
  intro i
  unfold padN
  rw [List.getElem?_take, List.getElem?_take]
  split
  · rename_i hi
    have hul : (sign.take 14).length ≤ 14 := by rw [List.length_take]; omega
    unfold dheadN
    generalize sign.take 14 = u at *
    rw [List.getElem?_set_ne (by omega)]
    unfold lay
    rw [List.take_zero, List.nil_append]
    by_cases hu : i < u.length
    · rw [List.getElem?_append_left hu, List.getElem?_append_left hu]
    · rw [List.getElem?_append_right (by omega), List.getElem?_append_right (by omega), List.getElem?_drop, List.getElem?_replicate, List.getElem?_replicate, if_pos (by omega), if_pos (by omega)]
  · rfl
theorem dhead_20 (sign : List UInt8) (side : UInt8) : (dheadN sign side)[20]? = some side := by
  unfold dheadN
  rw [List.getElem?_set_self (by rw [lay_len _ _ _ (by simp; omega)]; simp)]

set_option maxRecDepth 100000 in
set_option maxHeartbeats 1000000 in
/-- too great a file is none -/
theorem file_big (number id kind : Int) (name : ByteArray) (ad : Int) (A : Option Addr) (n c : Nat) (w : World) (hn : 65535 < n) :
    Calls Try.prog 26 #[.int .u8 number, .int .u8 id, .string name, .int .u16 ad, .int .u8 kind, .slice A n c] w fun e w' => e = .returned (.slice none 0 0) ∧ w = w' := by
  have hn' : ((n : Int) > 65535) := by omega
  go_enter Try.func26, Try.ntmps26
  go_wp2
  go_ret
  exact ⟨rfl, rfl⟩

end Go.Proofs.Ytdefkajjpilicaa
