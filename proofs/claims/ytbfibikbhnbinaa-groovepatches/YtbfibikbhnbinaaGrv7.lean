/- Patches (walk). No law is claimed here. -/
import Derived.Test.YtbfibikbhnbinaaGrv6
namespace Go.Proofs.Ytbfibikbhnbinaa
open Go.RowKit

theorem rd_none {w : World} {B n c : Nat} {A : Option Addr} {xs : List UInt8} (hn : n = 0) (hx : xs = []) : Rd bv w B A n c xs := by
  subst hn; subst hx; exact Rd.nil
/-- the last region of GroovePatches where the patch fits: what it wants of its three pieces -/
theorem lay_pieces (xs ys : List UInt8) (k : Nat) : xs.take k ++ ys ++ xs.drop (k + ys.length) = lay xs k ys := by simp [lay]

set_option maxRecDepth 100000 in
set_option maxHeartbeats 4000000 in
theorem groovePatches_walk (A : Option Addr) (n c : Nat) (xs : List UInt8) (at_ : Int) (A2 : Option Addr) (n2 c2 : Nat) (ys : List UInt8) (w : World) (hr : Rd bv w w.heap.size A n c xs) (hc : c ≤ maxLen) (_h1 : -9223372036854775808 ≤ at_) (_h2 : at_ ≤ 9223372036854775807) (hr2 : Rd bv w w.heap.size A2 n2 c2 ys) (hc2 : c2 ≤ maxLen) :
    Calls Try.prog 4 #[.slice A n c, .int .i64 at_, .slice A2 n2 c2] w fun e w' => e = .returned (.bool true) ∧ Below w.heap.size w w' := by
  have hn : n ≤ 9223372036854775807 := by have := hr.cap; unfold maxLen at hc; omega
  have hn2 : n2 ≤ 9223372036854775807 := by have := hr2.cap; unfold maxLen at hc2; omega
  go_enter Try.func4, Try.ntmps4
  go_wp2_with fail
  refine (awake7_any w).mono ?_
  rintro e w1 ⟨rfl, hb1⟩
  have hz1 := hb1.size
  go_wp2_with fail
  refine (cut_any A n c w.heap.size xs 60 w1 (hr.below hb1) hz1 hn (by omega) (by omega)).mono ?_
  rintro e w2 ⟨A3, n3, c3, rfl, o3, hb2⟩
  have hb2' := hb1.trans (hb2.mono hz1)
  have hz2 := hb2'.size
  go_wp2_with fail
  refine (cut_any A2 n2 c2 w.heap.size ys 30 w2 (hr2.below hb2') hz2 hn2 (by omega) (by omega)).mono ?_
  rintro e w3 ⟨A4, n4, c4, rfl, o4, hb3⟩
  have hb3' := hb2'.trans (hb3.mono hz2)
  have hz3 := hb3'.size
  have o3' := o3.below hb3
  have L3 : n3 ≤ 60 := by rw [← o3.len]; simp; omega
  have L4 : n4 ≤ 30 := by rw [← o4.len]; simp; omega
  generalize xs.take (60 : Int).toNat = ps at *
  generalize ys.take (30 : Int).toNat = ds at *
  clear hr hr2 hn hn2 hb1 hb2 hb3 hb2' o3 hz1 hz2
  have r3 : RdE bv w3 A3 n3 c3 ps := o3'.rd
  have r4 : RdE bv w3 A4 n4 c4 ds := o4.rd
  go_wp2_with fail
  refine (join1_any w3 _ A3 n3 c3 w3.heap.size ps (by simp) r3 (Nat.le_refl _) (by omega)).mono ?_
  rintro e w4 ⟨A5, n5, c5, rfl, o5, hb4⟩
  have r3b := RdE.below r3 hb4
  have r4b := RdE.below r4 hb4
  have hb4' := hb3'.trans (hb4.mono hz3)
  have r5 : RdE bv w4 A5 n5 c5 ps := o5.rd
  have nil3 : A3 = none → n3 = 0 ∧ c3 = 0 := fun e => by
    subst e
    rcases o3'.own.2 with ⟨hv, hn⟩ | ⟨g', cap, cur, hv, _⟩
    · injection hv with q1 q2 q3; exact ⟨q2, q3⟩
    · injection hv with q1; cases q1
  have off3 : ∀ a, A3 = some a → ∃ g, a = ⟨g, 0, none⟩ := fun a e => by
    subst e
    rcases o3'.own.2 with ⟨hv, hn⟩ | ⟨g', cap, cur, hv, _⟩
    · injection hv with q1; cases q1
    · injection hv with q1; injection q1 with q1; exact ⟨g', q1⟩
  clear o3' o4 o5 r3 r4 hb4 hb3' hz3
  by_cases hno : at_ < 0 ∨ (n3 : Int) - n4 < at_
  · have FP := patch_no A3 A4 n3 c3 n4 c4 at_ w4 L3 L4 hno
    have FS := same_yes A3 A5 n3 c3 n5 c5 _ _ ps w4 r3b r5 (by omega)
    have key : at_ < 0 ∨ (0 ≤ at_ ∧ ¬ at_ ≤ (n3 : Int)) ∨ (0 ≤ at_ ∧ at_ ≤ (n3 : Int) ∧ ¬ (n4 : Int) ≤ (n3 : Int) - at_) := by omega
    clear hno r3b r4b r5 nil3 off3
    rcases key with h0 | ⟨h0, h1⟩ | ⟨h0, h1, h2⟩
    · go_upto_region 9 with (first | (go_at_call 12; refine FP.mono ?_; rintro e w5 ⟨rfl, hq⟩; rw [hq]; clear hq w5) | (go_at_call 10; refine FS.mono ?_; rintro e w6 ⟨rfl, hs6⟩))
      have hb6 := hb4'.trans (hs6.below _)
      go_quiet (fail)
      go_wp2
      go_ret
      exact ⟨rfl, hb6.trans (still_below _ _ _)⟩
    · go_upto_region 9 with (first | (go_at_call 12; refine FP.mono ?_; rintro e w5 ⟨rfl, hq⟩; rw [hq]; clear hq w5) | (go_at_call 10; refine FS.mono ?_; rintro e w6 ⟨rfl, hs6⟩))
      have hb6 := hb4'.trans (hs6.below _)
      go_quiet (fail)
      go_wp2
      go_ret
      exact ⟨rfl, hb6.trans (still_below _ _ _)⟩
    · go_upto_region 9 with (first | (go_at_call 12; refine FP.mono ?_; rintro e w5 ⟨rfl, hq⟩; rw [hq]; clear hq w5) | (go_at_call 10; refine FS.mono ?_; rintro e w6 ⟨rfl, hs6⟩))
      have hb6 := hb4'.trans (hs6.below _)
      go_quiet (fail)
      go_wp2
      go_ret
      exact ⟨rfl, hb6.trans (still_below _ _ _)⟩
  · obtain ⟨k, rfl⟩ : ∃ k : Nat, at_ = (k : Int) := ⟨at_.toNat, by omega⟩
    have hk : k + n4 ≤ n3 := by omega
    have FP := patch_yes A3 A4 n3 c3 n4 c4 w4.heap.size k ps ds w4 r3b r4b (Nat.le_refl _) L3 L4 hk
    have FS := fun (v : World) (hb : Below w4.heap.size w4 v) => same_yes A3 A5 n3 c3 n5 c5 _ _ ps v (RdE.below r3b hb) (RdE.below r5 hb) (by omega)
    have t1 : (k : Int) ≤ n3 := by omega
    have t2 : (n4 : Int) ≤ (n3 : Int) - (k : Int) := by omega
    have HPC : Hid (ps.take k ++ ds ++ ps.drop (k + n4) = lay ps k ds) := by have h := lay_pieces ps ds k; rw [Rd.len r4b] at h; exact h
    have hcap3 := Rd.cap r3b
    have hlen3 := Rd.len r3b
    have HLN := Lib.hid hlen3
    clear hno hlen3
    go_upto_region 9 with (first | (go_at_call 12; refine FP.mono ?_; rintro e w5 ⟨A6, n6, c6, rfl, o6, hb5⟩) | (go_at_call 10; refine (FS _ hb5).mono ?_; rintro e w7 ⟨rfl, hs7⟩))
    have hb7w := hb5.trans (hs7.below _)
    have hb7 : Below w.heap.size w w7 := hb4'.trans (hb7w.mono hb4'.size)
    have p6 : RdE bv w7.drew A6 n6 c6 (lay ps k ds) := RdE.drew (RdE.still (o6.rd : RdE bv w5 A6 n6 c6 (lay ps k ds)) hs7)
    have n6b : n6 ≤ 1000 := by rw [← o6.len, lay_len _ _ _ (by rw [Rd.len r4b, HLN.out]; exact hk), HLN.out]; omega
    have r3c := RdE.below r3b hb7w
    have p1 : RdE bv w7.drew A3 k c3 (ps.take k) := RdE.drew (Rd.take r3c k (by omega))
    have p2 : RdE bv w7.drew A4 n4 c4 ds := RdE.drew (RdE.below r4b hb7w)
    have q1 : (k : Int) ≤ c3 := by omega
    have q2 : k ≤ c3 := by omega
    have q3 : (k : Int) + n4 ≤ n3 := by omega
    have q4 : k + n4 ≤ n3 := hk
    have q5 : ((k : Int) + n4).toNat = k + n4 := by omega
    have q6 : (0 : Int) ≤ (k : Int) + n4 := by omega
    have q7 : IntKind.i64.wrap ((k : Int) + n4) = (k : Int) + n4 := IntWalk.i64_in _ (by omega)
    have q8 : (k : Int) + n4 ≤ c3 := by omega
    have q9 : k + n4 ≤ c3 := by omega
    clear r3b r4b r5 hs7 hb7w hb5 o6 FP FS hb4'
    cases A3 with
    | none =>
      obtain ⟨hn30, hc30⟩ := nil3 rfl
      have hpd : ps.drop (k + n4) = [] := List.drop_of_length_le (by rw [HLN.out]; omega)
      have hcc : c3 = k + n4 := by omega
      clear nil3 off3 hn30 hc30
      have HZ : n3 - (k + n4) = 0 := by omega
      subst hcc
      first | (go_region_held (fun _ => True) (exact trivial) (first
          | (go_at_call 6; refine (join3_any w7.drew _ none A4 none k (k + n4) n4 c4 0 0 _ (ps.take k) ds (ps.drop (k + n4)) (by simp) p1 p2 (rd_none rfl hpd) (Nat.le_refl _) (by omega)).mono ?_; rintro e w8 ⟨A8, n8, c8, rfl, o8, hb8⟩)
          | (go_at_call 10; refine (same_yes A6 A8 n6 c6 n8 c8 _ _ (lay ps k ds) w8 (RdE.below p6 hb8) (by rw [HPC.out] at o8; exact o8.rd) (by omega)).mono ?_; rintro e w9 ⟨rfl, hs9⟩))) | fail
      all_goals
        go_wp2
        go_ret
        exact ⟨rfl, (hb7.drew.trans (hb8.mono hb7.size)).trans (hs9.below _)⟩
    | some a =>
      obtain ⟨g, rfl⟩ := off3 a rfl
      clear nil3 off3
      by_cases hcc : c3 = k + n4
      · have HZ : n3 - (k + n4) = 0 := by omega
        subst hcc
        have hpd : ps.drop (k + n4) = [] := List.drop_of_length_le (by rw [HLN.out]; omega)
        first | (go_region_held (fun _ => True) (exact trivial) (first
            | (go_at_call 6; refine (join3_any w7.drew _ (some ⟨g, 0, none⟩) A4 (some ⟨g, 0, none⟩) k (k + n4) n4 c4 0 0 _ (ps.take k) ds (ps.drop (k + n4)) (by simp) p1 p2 (rd_none rfl hpd) (Nat.le_refl _) (by omega)).mono ?_; rintro e w8 ⟨A8, n8, c8, rfl, o8, hb8⟩)
            | (go_at_call 10; refine (same_yes A6 A8 n6 c6 n8 c8 _ _ (lay ps k ds) w8 (RdE.below p6 hb8) (by rw [HPC.out] at o8; exact o8.rd) (by omega)).mono ?_; rintro e w9 ⟨rfl, hs9⟩))) | fail
        all_goals
          go_wp2
          go_ret
          exact ⟨rfl, (hb7.drew.trans (hb8.mono hb7.size)).trans (hs9.below _)⟩
      · have p3 : RdE bv w7.drew (some ⟨g, k + n4, none⟩) (n3 - (k + n4)) (c3 - (k + n4)) (ps.drop (k + n4)) := (by have h := Rd.drop r3c (k + n4) hk; rw [Nat.zero_add] at h; exact RdE.drew h)
        first | (go_region_held (fun _ => True) (exact trivial) (first
            | (go_at_call 6; refine (join3_any w7.drew _ (some ⟨g, 0, none⟩) A4 (some ⟨g, k + n4, none⟩) k c3 n4 c4 (n3 - (k + n4)) (c3 - (k + n4)) _ (ps.take k) ds (ps.drop (k + n4)) (by simp) p1 p2 p3 (Nat.le_refl _) (by omega)).mono ?_; rintro e w8 ⟨A8, n8, c8, rfl, o8, hb8⟩)
            | (go_at_call 10; refine (same_yes A6 A8 n6 c6 n8 c8 _ _ (lay ps k ds) w8 (RdE.below p6 hb8) (by rw [HPC.out] at o8; exact o8.rd) (by omega)).mono ?_; rintro e w9 ⟨rfl, hs9⟩))) | fail
        all_goals
          go_wp2
          go_ret
          exact ⟨rfl, (hb7.drew.trans (hb8.mono hb7.size)).trans (hs9.below _)⟩

end Go.Proofs.Ytbfibikbhnbinaa
