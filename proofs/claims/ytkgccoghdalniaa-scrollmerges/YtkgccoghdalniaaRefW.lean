/- Contracts of package kotatsuref02: bits, Long, Step, Short, Lay, Take. No law is claimed here. -/
import Derived.Test.YtkgccoghdalniaaSealA
namespace Go.Proofs.Ytkgccoghdalniaa
open Go.RowKit

def bitsI (xs : List UInt8) : List Int := (bitsN xs).map Int.ofNat
theorem bitsI_snoc (xs : List UInt8) (x : UInt8) : bitsI (xs ++ [x]) = bitsI xs ++ (bitsK 8 x.toNat).map Int.ofNat := by simp [bitsI, bitsN]
theorem bitsI_len (xs : List UInt8) : (bitsI xs).length = 8 * xs.length := by
  induction xs with
  | nil => rfl
  | cons x xs ih => simp [bitsI, bitsN, bitsK_len] at *; omega

def BitsTo (j m : Nat) (done full : List Int) : Prop := done ++ (bitsK (8 - j) m).map Int.ofNat = full
theorem BitsTo.next {j m : Nat} {done full : List Int} (h : BitsTo j m done full) (hj : j < 8) : BitsTo (j + 1) (m / 2) (done ++ [((m % 2 : Nat) : Int)]) full := by
  unfold BitsTo at *
  rw [show 8 - j = (8 - (j + 1)) + 1 from by omega] at h
  rw [← h]
  simp [bitsK]
theorem BitsTo.done {j m : Nat} {done full : List Int} (h : BitsTo j m done full) (hj : ¬ j < 8) : done = full := by
  unfold BitsTo at *
  rw [show 8 - j = 0 from by omega] at h
  simpa [bitsK] using h

set_option maxRecDepth 100000 in
set_option maxHeartbeats 1000000 in
theorem rbits_any (A : Option Addr) (n c B : Nat) (xs : List UInt8) (w : World) (hr : Rd bv w B A n c xs) (hB : B ≤ w.heap.size) (hn : n ≤ 65536) :
    Calls Try.prog 46 #[.slice A n c] w (RetL iv 3 w (bitsI xs)) := by
  have HL := Lib.hid hr.len
  obtain ⟨i0, hi, hz0, hz1, hz2⟩ := info_parts Try.infoInt
  go_enter Try.func46, Try.ntmps46
  go_wp2
  go_loopw [3, 10] (fun v i wr => ∃ (k : Nat) (A' : Option Addr) (n' c' : Nat), k ≤ n ∧ i = .int .i64 k ∧ v = .slice A' n' c' ∧ Own iv wr w.heap.size 3 A' n' c' (bitsI (xs.take k)) ∧ Below w.heap.size w wr)
    (fun _ i _ => n - (intOf i).toNat)
  case atStart => exact ⟨0, none, 0, 0, Nat.zero_le _, rfl, rfl, Own.empty iv w w.heap.size 3, Below.refl _ _⟩
  case round =>
    obtain ⟨k, A', n', c', hk, rfl, rfl, hown, hb⟩ := hrel
    by_cases hlt : k < n
    · have hkx : k < xs.length := by rw [HL.out]; exact hlt
      obtain ⟨b, off, rfl, hbB, hc0⟩ := hr.at_ k hkx
      have hc : wr.cell? ⟨b, off + k, none⟩ = some (bv xs[k]) := (hb.cell (p := ⟨b, off + k, none⟩) (Nat.lt_of_lt_of_le hbB hB)).trans hc0
      have hsz := hb.size
      have HT : Hid (bitsI (xs.take (k + 1)) = bitsI (xs.take k) ++ (bitsK 8 xs[k].toNat).map Int.ofNat) := by rw [List.take_succ_eq_append_getElem hkx]; exact bitsI_snoc _ _
      have hl8 : n' ≤ 524288 := by have := hown.len; rw [bitsI_len] at this; simp at this; omega
      have HK : Hid (n' = 8 * k) := by have := hown.len; rw [bitsI_len] at this; simp at this; show _ = _; omega
      clear hc0
      generalize xs[k] = x at *
      unfold bv at hc
      have hx := x.toNat_lt
      go_wp2
      have HQ : BitsTo 0 x.toNat [] ((bitsK 8 x.toNat).map Int.ofNat) := by simp [BitsTo]
      generalize (bitsK 8 x.toNat).map Int.ofNat = full at *
      obtain ⟨y, HE, hy0, hy1⟩ : ∃ y : Int, Hid (x.toNat = y.toNat) ∧ 0 ≤ y ∧ y < 256 := ⟨x.toNat, rfl, by omega, by omega⟩
      have ey := HE.out
      rw [ey] at HQ ⊢
      rw [Int.toNat_of_nonneg hy0]
      clear hx HE ey hc
      go_loopw [3, 6, 7] (fun v m i wr' => ∃ (j : Nat) (z : Int) (done : List Int) (A2 : Option Addr) (n2 c2 : Nat), j ≤ 8 ∧ i = .int .i64 j ∧ m = .int .i64 z ∧ 0 ≤ z ∧ z < 256 ∧ v = .slice A2 n2 c2 ∧ n2 ≤ n' + j ∧
          Own iv wr' w.heap.size 3 A2 n2 c2 (bitsI (xs.take k) ++ done) ∧ BitsTo j z.toNat done full ∧ Below w.heap.size w wr')
        (fun _ _ i _ => 8 - (intOf i).toNat)
      case atStart => exact ⟨0, y, [], A', n', c', by omega, rfl, rfl, hy0, hy1, rfl, by omega, by simpa using hown, HQ, hb⟩
      case round =>
        obtain ⟨j, z, done, A2, n2, c2, hj, rfl, rfl, hz, hz3, rfl, hn2, hown2, hQ, hb2⟩ := hrel
        have hsz2 := hb2.size
        by_cases hj8 : j < 8
        · go_wp2_with (at_builtin; refine wpList_app _ oneCell_iv rfl (.tmp 20) (.tmp 23) _ rfl w.heap.size 3 i0 _ 8 Try.underlying96 hi hz0 hz1 hz2 rfl A2 n2 c2 _ rfl (hown2.alloc _) _ _ 1 1 [z % 2] rfl (Rd.one _ _ _) (by simp only [maxLen]; omega) (by omega) (by simp; omega) ?_; intro A3 c3 w3 hown3 hb3 _)
          go_roundw
          case rel =>
            have hQ' := hQ.next hj8
            have ez : ((z.toNat % 2 : Nat) : Int) = z % 2 := by omega
            have ez2 : z.toNat / 2 = (z / 2).toNat := by omega
            rw [ez, ez2] at hQ'
            exact ⟨j + 1, z / 2, done ++ [z % 2], A3, n2 + 1, c3, by omega, by go_num, rfl, by omega, by omega, rfl, by omega, by rw [← List.append_assoc]; exact hown3, hQ', hb2.trans (((Below.refl _ _).alloc (by omega) _).trans hb3)⟩
          case measure => simp [intOf]; omega
        · go_wp2
          go_roundw
          case rel =>
            have e := hQ.done hj8
            subst e
            exact ⟨k + 1, A2, n2, c2, by omega, by go_num, rfl, by rw [HT.out]; exact hown2, hb2⟩
          case measure => simp [intOf]; omega
    · go_wp2
      go_ret
      refine ⟨A', n', c', rfl, ?_, hb⟩
      rw [List.take_of_length_le (by rw [HL.out]; omega)] at hown
      exact hown

end Go.Proofs.Ytkgccoghdalniaa
