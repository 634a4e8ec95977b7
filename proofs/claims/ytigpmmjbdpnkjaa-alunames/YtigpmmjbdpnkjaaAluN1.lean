/- Names of operations: alu.Name, alu.Find. No law is claimed here. -/
import Derived.Test.YtigpmmjbdpnkjaaRU7
import Derived.Test.YtigpmmjbdpnkjaaBase
namespace Go.Proofs.Ytigpmmjbdpnkjaa
open Go.RowKit

/-- the name of a number -/
def nm (n : Nat) : ByteArray := nameL.getD n { data := #[] }
def nmAll : ByteArray := { data := #[78, 79, 80, 79, 82, 65, 65, 78, 68, 69, 79, 82, 65, 68, 67, 83, 66, 67, 67, 77, 80, 67, 80, 88, 67, 80, 89, 76, 68, 65, 76, 68, 88, 76, 68, 89, 66, 73, 84, 76, 65, 88, 65, 78, 67, 65, 76, 82, 65, 82, 82, 65, 88, 83, 76, 65, 83, 65, 83, 76, 76, 83, 82, 82, 79, 76, 82, 79, 82, 73, 78, 67, 68, 69, 67, 83, 76, 79, 82, 76, 65, 83, 82, 69, 82, 82, 65, 68, 67, 80, 73, 83, 67, 83, 84, 65, 83, 84, 88, 83, 84, 89, 83, 65, 88, 84, 65, 88, 84, 65, 89, 84, 88, 65, 84, 89, 65, 84, 83, 88, 84, 88, 83, 73, 78, 88, 73, 78, 89, 68, 69, 88, 68, 69, 89, 67, 76, 67, 83, 69, 67, 67, 76, 73, 83, 69, 73, 67, 76, 86, 67, 76, 68, 83, 69, 68, 66, 80, 76, 66, 77, 73, 66, 86, 67, 66, 86, 83, 66, 67, 67, 66, 67, 83, 66, 78, 69, 66, 69, 81, 74, 77, 80, 74, 83, 82, 82, 84, 83, 82, 84, 73, 66, 82, 75, 80, 72, 65, 80, 72, 80, 80, 76, 65, 80, 76, 80, 74, 65, 77] }
theorem nm_cut : ∀ n : Fin 70, nmAll.extract (n.val * 3) (n.val * 3 + 3) = nm n.val := by decide +kernel
theorem nm_far : ∀ i j : Fin 70, (nm i.val).toList = (nm j.val).toList → i = j := by decide +kernel
theorem nm_some : ∀ n : Fin 70, ¬ ((nm n.val).toList = []) ∧ (nm n.val).toList.isEmpty = false := by decide +kernel
theorem nm_T : ∀ n : Fin 70, nameT[n.val]? = some (.string (nm n.val)) := fun n => by
  have : nameT = (nameL.map Value.string).toArray := rfl
  rw [this]
  have h : n.val < nameL.length := n.isLt
  simp [nm, List.getD, h]

set_option maxRecDepth 100000 in
set_option maxHeartbeats 1000000 in
theorem alname_any (n : Nat) (hn : n < 70) (w : World) : Calls Try.prog 25 #[.int .u8 (n : Int)] w fun e w' => e = .returned (.string (nm n)) ∧ w' = w := by
  have t1 : ¬ ((69 : Int) < (n : Int)) := by omega
  have b1 : (0 : Int) ≤ n := by omega
  have b2 : (n : Int) < 70 := by omega
  have HC : Hid (nm n = nmAll.extract (n * 3) (n * 3 + 3)) := (nm_cut ⟨n, hn⟩).symm
  rw [HC.out]
  unfold nmAll
  go_enter Try.func25, Try.ntmps25
  go_wp2
  go_ret
  exact ⟨rfl, rfl⟩

set_option maxRecDepth 100000 in
set_option maxHeartbeats 1000000 in
theorem alname_none (n : Int) (hn : 70 ≤ n) (w : World) : Calls Try.prog 25 #[.int .u8 n] w fun e w' => e = .returned (.string { data := #[] }) ∧ w' = w := by
  have t1 : (69 : Int) < n := by omega
  go_enter Try.func25, Try.ntmps25
  go_wp2
  go_ret
  exact ⟨rfl, rfl⟩

set_option maxRecDepth 100000 in
set_option maxHeartbeats 2000000 in
theorem find_hit (z : ByteArray) (k : Nat) (hk : k < 70) (hz : (nm k).toList = z.toList) (w : World) :
    Calls Try.prog 24 #[.string z] w fun e w' => e = .returned (.tuple #[.int .u8 (k : Int), .bool true]) ∧ w' = w := by
  have HN : Hid (∀ j, j < k → ((nm j).toList == z.toList) = false) := fun j hj => by
    rw [beq_eq_false_iff_ne]; intro h
    have := nm_far ⟨j, by omega⟩ ⟨k, hk⟩ (h.trans hz.symm)
    have := congrArg Fin.val this
    simp at this; omega
  have HZ : Hid ((nm k).toList = z.toList) := hz
  clear hz
  go_enter Try.func24, Try.ntmps24
  go_wp2
  go_loopw [4] (fun i wr => ∃ (j : Nat), j ≤ k ∧ i = .int .u8 j ∧ wr = w) (fun i _ => k - (intOf i).toNat)
  case atStart => exact ⟨0, Nat.zero_le _, rfl, rfl⟩
  case round =>
    obtain ⟨j, hj, rfl, rfl⟩ := hrel
    have F := alname_any j (by omega)
    have t1 : (j : Int) ≤ 69 := by omega
    by_cases h : j = k
    · subst h
      have t2 : ((nm j).toList == z.toList) = true := by rw [HZ.out, beq_self_eq_true]
      go_wp2_with (go_at_call 25; refine (F _).mono ?_; rintro e w' ⟨rfl, rfl⟩)
      go_ret2
      exact ⟨rfl, rfl⟩
    · have t2 : ((nm j).toList == z.toList) = false := HN.out j (by omega)
      go_wp2_with (go_at_call 25; refine (F _).mono ?_; rintro e w' ⟨rfl, rfl⟩)
      go_roundw
      case rel => exact ⟨j + 1, by omega, by go_num, trivial⟩
      case measure => simp [intOf]; omega

set_option maxRecDepth 100000 in
set_option maxHeartbeats 2000000 in
theorem find_miss (z : ByteArray) (hz : ∀ j, j < 70 → (nm j).toList ≠ z.toList) (w : World) :
    Calls Try.prog 24 #[.string z] w fun e w' => e = .returned (.tuple #[.int .u8 0, .bool false]) ∧ w' = w := by
  have HN : Hid (∀ j, j < 70 → ((nm j).toList == z.toList) = false) := fun j hj => by
    rw [beq_eq_false_iff_ne]; exact hz j hj
  clear hz
  go_enter Try.func24, Try.ntmps24
  go_wp2
  go_loopw [4] (fun i wr => ∃ (j : Nat), j ≤ 70 ∧ i = .int .u8 j ∧ wr = w) (fun i _ => 70 - (intOf i).toNat)
  case atStart => exact ⟨0, Nat.zero_le _, rfl, rfl⟩
  case round =>
    obtain ⟨j, hj, rfl, rfl⟩ := hrel
    by_cases h : j < 70
    · have F := alname_any j h
      have t1 : (j : Int) ≤ 69 := by omega
      have t2 : ((nm j).toList == z.toList) = false := HN.out j h
      go_wp2_with (go_at_call 25; refine (F _).mono ?_; rintro e w' ⟨rfl, rfl⟩)
      go_roundw
      case rel => exact ⟨j + 1, by omega, by go_num, trivial⟩
      case measure => simp [intOf]; omega
    · have t1 : ¬ ((j : Int) ≤ 69) := by omega
      go_wp2
      go_ret2
      exact ⟨rfl, rfl⟩

end Go.Proofs.Ytigpmmjbdpnkjaa
