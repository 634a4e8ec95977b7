/- Package groove: first, pair; bytes.TrimLeft of noughts. No law is claimed here. -/
import Derived.Test.YtghbgehmaejggaaDoorGrv5
namespace Go.Proofs.YtghbgehmaejggaaDoor
open Go.RowKit

/-- without the noughts ahead -/
def trimN (xs : List UInt8) : List UInt8 := xs.dropWhile (· == 0)
theorem trimN_zero (xs : List UInt8) : trimN (0 :: xs) = trimN xs := by simp [trimN]
theorem trimN_other (x : UInt8) (xs : List UInt8) (h : x ≠ 0) : trimN (x :: xs) = x :: xs := by simp [trimN, h]
theorem trimN_len (xs : List UInt8) : (trimN xs).length ≤ xs.length := by unfold trimN; exact (List.dropWhile_suffix _).length_le

set_option maxRecDepth 100000 in
set_option maxHeartbeats 1000000 in
theorem trimByte_any (A : Option Addr) (n c B : Nat) (xs : List UInt8) (w : World) (hr : Rd bv w B A n c xs) (hn : n ≤ 1099511627776) :
    Calls Tryd.prog 32 #[.slice A n c, .int .u8 0] w fun e w' => (∃ A' n' c', e = .returned (.slice A' n' c') ∧ Rd bv w B A' n' c' (trimN xs)) ∧ w' = w := by
  go_enter Tryd.func32, Tryd.ntmps32
  go_wp2
  go_loopw [0] (fun v wr => ∃ (A' : Option Addr) (n' c' : Nat) (ys : List UInt8), v = .slice A' n' c' ∧ n' ≤ n ∧ Rd bv w B A' n' c' ys ∧ Hid (trimN ys = trimN xs) ∧ wr = w) (fun v _ => lenV v)
  case atStart => exact ⟨A, n, c, xs, rfl, Nat.le_refl _, hr, rfl, rfl⟩
  case round =>
    obtain ⟨A', n', c', ys, rfl, hn', hr', hT, rfl⟩ := hrel
    have hl := hr'.len
    have hcap := hr'.cap
    cases ys with
    | nil =>
      have h0 : n' = 0 := by simpa using hl.symm
      subst h0
      go_wp2
      go_ret
      exact ⟨⟨none, 0, 0, rfl, by rw [← hT.out]; exact Rd.nil⟩, rfl⟩
    | cons y ys =>
      have hpos : 0 < n' := by simp at hl; omega
      obtain ⟨b, off, rfl, hb, hc0⟩ := hr'.at_ 0 (by simp)
      simp only [List.getElem_cons_zero, Nat.add_zero] at hc0
      unfold bv at hc0
      have t1 : (0 : Int) < (n' : Int) := by omega
      have t2 : ¬ ((n' : Int) = 0) := by omega
      have t3 : ((n' : Int) == 0) = false := by simpa using t2
      have t4 : 1 ≤ n' := by omega
      have t5 : (1 : Int) ≤ n' := by omega
      have t6 : 1 ≤ c' := by omega
      have hl2 : ys.length = n' - 1 := by simp at hl; omega
      by_cases hy : y = 0
      · subst hy
        have e0 : (((0 : UInt8).toNat : Int)) = 0 := rfl
        rw [e0] at hc0
        have HT : Hid (trimN ys = trimN xs) := by have h := hT.out; rw [trimN_zero] at h; exact h
        by_cases hc1 : c' = 1
        · subst hc1
          have h1 : n' = 1 := by omega
          have hys : ys = [] := List.eq_nil_of_length_eq_zero (by omega)
          subst h1; subst hys
          clear hl hl2 t2 t3
          go_wp2
          go_roundw
          case rel => exact ⟨_, _, _, [], rfl, by omega, Rd.nil, HT, trivial⟩
          case measure => simp [lenV]
        · have hd := hr'.drop 1 (by omega)
          simp only [List.drop_succ_cons, List.drop_zero] at hd
          clear hl hl2
          go_wp2
          go_roundw
          case rel => exact ⟨_, _, _, ys, rfl, by omega, hd, HT, trivial⟩
          case measure => simp [lenV]; omega
      · have hy2 : ¬ ((y.toNat : Int) = 0) := fun e => hy (UInt8.toNat_inj.1 (by simpa using e))
        have hy3 : ((y.toNat : Int) == 0) = false := by simpa using hy2
        have HT : Hid (y :: ys = trimN xs) := by have h := hT.out; rw [trimN_other _ _ hy] at h; exact h
        clear hl hl2
        go_wp2
        go_ret
        exact ⟨⟨_, n', c', rfl, by rw [← HT.out]; exact hr'⟩, rfl⟩

set_option maxRecDepth 100000 in
set_option maxHeartbeats 1000000 in
theorem trim_any (A : Option Addr) (n c B : Nat) (xs : List UInt8) (w : World) (hr : Rd bv w B A n c xs) (hn : n ≤ 1099511627776) :
    Calls Tryd.prog 18 #[.slice A n c, .string { data := #[0] }] w fun e w' => (∃ A' n' c', e = .returned (.slice A' n' c') ∧ Rd bv w B A' n' c' (trimN xs)) ∧ w' = w := by
  by_cases h0 : n = 0
  · subst h0
    have : xs = [] := List.eq_nil_of_length_eq_zero hr.len
    subst this
    go_enter Tryd.func18, Tryd.ntmps18
    go_wp2
    go_ret
    exact ⟨⟨none, 0, 0, rfl, Rd.nil⟩, rfl⟩
  · have t2 : ¬ ((n : Int) = 0) := by omega
    have t3 : ((n : Int) == 0) = false := by simpa using t2
    go_enter Tryd.func18, Tryd.ntmps18
    go_wp2_with (go_at_call 32; refine (trimByte_any A n c B xs w hr hn).mono ?_; rintro e w' ⟨⟨A', n', c', rfl, hr'⟩, hq⟩; rw [hq]; clear hq w')
    go_ret
    exact ⟨⟨A', n', c', rfl, hr'⟩, rfl⟩

/-- two bytes as a number -/
def pairN (x y : UInt8) : Nat := x.toNat + 256 * y.toNat

set_option maxRecDepth 100000 in
set_option maxHeartbeats 1000000 in
theorem pair_any (b off n c B : Nat) (x y : UInt8) (xs : List UInt8) (w : World) (hr : Rd bv w B (some ⟨b, off, none⟩) n c (x :: y :: xs)) (hn : n ≤ 1099511627776) :
    Calls Tryd.prog 37 #[.slice (some ⟨b, off, none⟩) n c] w fun e w' => e = .returned (.int .u16 (pairN x y : Int)) ∧ Still w w' := by
  have hl := hr.len
  have hc1 := (rd_cell hr 0 (by simp)).2
  have hc2 := (rd_cell hr 1 (by simp)).2
  simp only [List.getElem_cons_zero, List.getElem_cons_succ, Nat.add_zero] at hc1 hc2
  unfold bv at hc1 hc2
  have h2 : 2 ≤ n := by simp at hl; omega
  have t1 : (0 : Int) < n := by omega
  have t2 : (1 : Int) < n := by omega
  have t3 : 0 < n := by omega
  have t4 : 1 < n := by omega
  have hx := x.toNat_lt
  have hy := y.toNat_lt
  have HO : bits .or .u16 (x.toNat : Int) ((y.toNat : Int) * 256) = (pairN x y : Int) := by
    rw [show ((y.toNat : Int) * 256) = ((y.toNat * 2 ^ 8 : Nat) : Int) from by omega, or_u16 _ _ (by omega) (by omega), add_or _ _ _ (by omega)]
    unfold pairN; omega
  have HW : IntKind.u16.wrap ((y.toNat : Int) * 256) = (y.toNat : Int) * 256 := by
    rw [show ((y.toNat : Int) * 256) = ((y.toNat * 256 : Nat) : Int) from by omega]; exact wrap_uns .u16 rfl _ (by show y.toNat * 256 < 2 ^ 16; omega)
  clear hl hr
  go_enter Tryd.func37, Tryd.ntmps37
  go_wp2
  go_quiet (fail)
  go_wp2
  go_ret
  exact ⟨by first | rfl | (rw [HO]) | (rw [HW, HO]), _, rfl⟩

end Go.Proofs.YtghbgehmaejggaaDoor
