/- Contracts of package scroll: numberAt, Write.end, Write.Right; bytes.Equal; the reference's Right. No law is claimed here. -/
import Derived.Test.YtkgccoghdalniaaScrW
namespace Go.Proofs.Ytkgccoghdalniaa
open Go.RowKit

set_option maxRecDepth 100000 in
set_option maxHeartbeats 1000000 in
theorem numAt_any (b off n c B : Nat) (xs : List UInt8) (k : Nat) (w : World) (hr : Rd bv w B (some ⟨b, off, none⟩) n c xs) (hk : k + 4 ≤ n) (hk2 : k ≤ 100) :
    Calls Try.prog 43 #[.slice (some ⟨b, off, none⟩) n c, .int .i64 (k : Int)] w fun e w' => e = .returned (.int .u32 (takeN ((xs.drop k).take 4) : Int)) ∧ Still w w' := by
  have hcap := hr.cap
  have hlen := hr.len
  obtain ⟨x0, x1, x2, x3, e4⟩ := four_of (xs.drop k) (by simp; omega)
  have r4 : Rd bv w B (some ⟨b, off + k, none⟩) 4 (c - k) [x0, x1, x2, x3] := e4 ▸ (hr.drop k (by omega)).take 4 (by omega)
  rw [e4]
  clear e4 hr hlen
  have at4 : ∀ j, (h : j < 4) → w.cell? ⟨b, off + k + j, none⟩ = some (bv ([x0, x1, x2, x3][j])) := by
    intro j h
    obtain ⟨b', o', e1, _, hc⟩ := r4.at_ j h
    injection e1 with e1; injection e1 with e1 e2; subst e1; subst e2
    exact hc
  have hc0 := at4 0 (by omega)
  have hc1 := at4 1 (by omega)
  have hc2 := at4 2 (by omega)
  have hc3 := at4 3 (by omega)
  simp only [List.getElem_cons_zero, List.getElem_cons_succ, bv, Nat.add_zero] at hc0 hc1 hc2 hc3
  clear at4 r4
  have h1 : (k : Int) + 4 ≤ (c : Int) := by omega
  have h2 : ¬ c = k := by omega
  have h3 : k + 4 ≤ c := by omega
  have e1 : k + 4 - k = 4 := by omega
  go_enter Try.func43, Try.ntmps43
  go_wp2
  go_quiet (fail)
  go_wp2
  rw [or4 _ _ _ _ x0.toNat_lt x1.toNat_lt x2.toNat_lt x3.toNat_lt]
  go_ret
  exact ⟨rfl, _, rfl⟩

set_option maxRecDepth 100000 in
set_option maxHeartbeats 1000000 in
theorem wend_any (s a : Int) (A : Option Addr) (n c : Nat) (w : World) (ha : 0 ≤ a) (ha2 : a < 4294967296) (hn : n ≤ 1099511627776) :
    Calls Try.prog 28 #[.agg #[.int .u8 s, .int .u32 a, .slice A n c]] w fun e w' => e = .returned (.int .u64 (a + n)) ∧ Below w.heap.size w w' := by
  go_enter Try.func28, Try.ntmps28
  go_wp2
  go_ret
  exact ⟨rfl, (Below.refl _ _).alloc (Nat.le_refl _) _⟩

/-- may the write be? -/
def rightB (s a : Int) (n : Nat) : Bool := decide (s < 8) && decide (a < 65536) && decide (1 ≤ n) && decide (n ≤ 4096) && decide (a + n ≤ 65536)

theorem rightB_true {s a : Int} {n : Nat} : rightB s a n = true ↔ s < 8 ∧ a < 65536 ∧ 1 ≤ n ∧ n ≤ 4096 ∧ a + n ≤ 65536 := by
  unfold rightB; simp only [Bool.and_eq_true, decide_eq_true_eq]; omega
theorem rightB_false {s a : Int} {n : Nat} (h : ¬ (s < 8 ∧ a < 65536 ∧ 1 ≤ n ∧ n ≤ 4096 ∧ a + n ≤ 65536)) : rightB s a n = false := by
  rw [Bool.eq_false_iff]; exact fun e => h (rightB_true.1 e)

set_option maxRecDepth 100000 in
set_option maxHeartbeats 1000000 in
theorem wright_any (s a : Int) (A : Option Addr) (n c : Nat) (w : World) (hs : 0 ≤ s) (hs2 : s < 256) (ha : 0 ≤ a) (ha2 : a < 4294967296) (hn : n ≤ 1099511627776) :
    Calls Try.prog 15 #[.agg #[.int .u8 s, .int .u32 a, .slice A n c]] w fun e w' => e = .returned (.bool (rightB s a n)) ∧ Below w.heap.size w w' := by
  by_cases h1 : s < 8
  · by_cases h2 : a < 65536
    · by_cases h3 : (1 : Int) ≤ n
      · by_cases h4 : (n : Int) ≤ 4096
        · by_cases h5 : a + n ≤ 65536
          · have HR := Lib.hid (rightB_true (s := s) (a := a) (n := n).2 (by omega))
            go_enter Try.func15, Try.ntmps15
            go_wp2_with fail
            refine (wend_any s a A n c _ ha ha2 hn).mono ?_
            rintro e w1 ⟨rfl, hb1⟩
            go_wp2
            go_ret
            rw [HR.out]
            exact ⟨rfl, ((Below.refl _ _).alloc (Nat.le_refl _) _).trans (hb1.mono (by simp))⟩
          · have HR := Lib.hid (rightB_false (s := s) (a := a) (n := n) (by omega))
            have h5' : decide (a + (n : Int) ≤ 65536) = false := by simp; omega
            go_enter Try.func15, Try.ntmps15
            go_wp2_with fail
            refine (wend_any s a A n c _ ha ha2 hn).mono ?_
            rintro e w1 ⟨rfl, hb1⟩
            go_wp2
            go_ret
            rw [HR.out]
            exact ⟨rfl, ((Below.refl _ _).alloc (Nat.le_refl _) _).trans (hb1.mono (by simp))⟩
        · have HR := Lib.hid (rightB_false (s := s) (a := a) (n := n) (by omega))
          go_enter Try.func15, Try.ntmps15
          go_wp2
          go_ret
          rw [HR.out]
          exact ⟨rfl, (Below.refl _ _).alloc (Nat.le_refl _) _⟩
      · have HR := Lib.hid (rightB_false (s := s) (a := a) (n := n) (by omega))
        go_enter Try.func15, Try.ntmps15
        go_wp2
        go_ret
        rw [HR.out]
        exact ⟨rfl, (Below.refl _ _).alloc (Nat.le_refl _) _⟩
    · have HR := Lib.hid (rightB_false (s := s) (a := a) (n := n) (by omega))
      go_enter Try.func15, Try.ntmps15
      go_wp2
      go_ret
      rw [HR.out]
      exact ⟨rfl, (Below.refl _ _).alloc (Nat.le_refl _) _⟩
  · have HR := Lib.hid (rightB_false (s := s) (a := a) (n := n) (by omega))
    go_enter Try.func15, Try.ntmps15
    go_wp2
    go_ret
    rw [HR.out]
    exact ⟨rfl, (Below.refl _ _).alloc (Nat.le_refl _) _⟩

set_option maxRecDepth 100000 in
set_option maxHeartbeats 1000000 in
theorem xright_any (s a : Int) (A : Option Addr) (n c : Nat) (w : World) (hs : 0 ≤ s) (ha : 0 ≤ a) (ha2 : a ≤ 100000) (hn : n ≤ 1099511627776) :
    Calls Try.prog 39 #[.agg #[.int .i64 s, .int .i64 a, .slice A n c]] w fun e w' => e = .returned (.bool (rightB s a n)) ∧ Below w.heap.size w w' := by
  by_cases h : s < 8 ∧ a < 65536 ∧ 1 ≤ n ∧ n ≤ 4096 ∧ a + n ≤ 65536
  · have HR := Lib.hid (rightB_true.2 h)
    obtain ⟨h1, h2, h3, h4, h5⟩ := h
    have h3' : (0 : Int) < n := by omega
    have h4' : (n : Int) ≤ 4096 := by omega
    have h0' : decide ((0 : Int) ≤ s) = true := by simp; omega
    have h0'' : decide ((0 : Int) ≤ a) = true := by simp; omega
    go_enter Try.func39, Try.ntmps39
    go_wp2
    go_ret
    rw [HR.out]
    exact ⟨rfl, (Below.refl _ _).alloc (Nat.le_refl _) _⟩
  · have HR := Lib.hid (rightB_false h)
    have HN := Lib.hid h
    clear h
    go_enter Try.func39, Try.ntmps39
    go_wp2
    all_goals
      go_ret
      rw [HR.out]
      refine ⟨?_, (Below.refl _ _).alloc (Nat.le_refl _) _⟩
      have hN := HN.out
      clear HN HR
      first | rfl | (simp; omega)

end Go.Proofs.Ytkgccoghdalniaa
