/- ToneLines' walk. No law is claimed here. -/
import Derived.Test.YtniclofgnmgmfaaDoorTn13
namespace Go.Proofs.YtniclofgnmgmfaaDoor
open Go.RowKit

/-- a triangle behind k clocks of which a were steps, M of them heard -/
structure LI (L p k : Int) (s : TS) (M : Int) : Prop where
  kind : s.kind = 2
  per : s.per = p
  len : 0 < s.len
  lin : s.lin = L
  tim : 0 ≤ s.tim ∧ s.tim ≤ p
  stp : 0 ≤ s.stp ∧ s.stp < 32
  hM : 0 ≤ M
  none : L = 0 → M = 0
  some : 0 < L → ∃ a : Int, 0 ≤ a ∧ k + s.tim = a * (p + 1) ∧ M ≤ a ∧ (0 < M ∨ (a = 0 ∧ s.stp = 0))
theorem out_tri {s : TS} (h : s.kind = 2) : outT s = if s.stp < 16 then 15 - s.stp else s.stp - 16 := by unfold outT; rw [if_pos h]
theorem LI.next {L p k M : Int} {s : TS} (h : LI L p k s M) (hp : 0 ≤ p) (hL : 0 ≤ L) (_hk : 0 ≤ k) :
    (0 ≤ outT s ∧ outT s < 16 ∧ 0 ≤ outT (clockT s) ∧ outT (clockT s) < 16 ∧ outT (clockT s) ≤ outT s + 1 ∧ outT s ≤ outT (clockT s) + 1) ∧
    (outT (clockT s) = outT s → LI L p (k + 1) (clockT s) M) ∧ (outT (clockT s) ≠ outT s → LI L p (k + 1) (clockT s) (M + 1)) := by
  obtain ⟨h1, h2, h3, h4, h5, h6, h7, h8, h9⟩ := h
  have hkind : (clockT s).kind = 2 := by unfold clockT advT; (repeat' split) <;> simp_all
  rw [out_tri h1, out_tri hkind]
  by_cases t0 : 0 < s.tim
  · have e : clockT s = { s with tim := s.tim - 1 } := by unfold clockT; rw [if_pos t0]
    rw [e]
    refine ⟨by simp only; split <;> omega, fun _ => ⟨h1, h2, h3, h4, by simp only; omega, h6, h7, h8, fun hl => ?_⟩, fun hne => absurd rfl hne⟩
    obtain ⟨a, a1, a2, a3, a4⟩ := h9 hl
    exact ⟨a, a1, by simp only; omega, a3, a4⟩
  · have t1 : s.tim = 0 := by omega
    by_cases l0 : 0 < L
    · have e : clockT s = { s with tim := s.per, stp := (s.stp + 1) % 32 } := by
        unfold clockT advT; rw [if_neg t0]; simp only; rw [if_pos h1, if_pos ⟨h3, by omega⟩]
      rw [e]
      obtain ⟨a, a1, a2, a3, a4⟩ := h9 l0
      have e3 : (a + 1) * (p + 1) = a * (p + 1) + (p + 1) := by rw [Int.add_mul, Int.one_mul]
      refine ⟨by simp only; (repeat' split) <;> omega, fun heq => ⟨h1, h2, h3, h4, by simp only; omega, by simp only; omega, h7, h8, fun _ => ⟨a + 1, by omega, ?_, by omega, ?_⟩⟩,
        fun hne => ⟨h1, h2, h3, h4, by simp only; omega, by simp only; omega, by omega, fun hz => by omega, fun _ => ⟨a + 1, by omega, ?_, by omega, .inl (by omega)⟩⟩⟩
      · simp only; omega
      · left
        rcases a4 with a4 | ⟨_, a5⟩
        · exact a4
        · exfalso; simp only [a5] at heq; simp at heq
      · simp only; omega
    · have e : clockT s = { s with tim := s.per } := by
        unfold clockT advT; rw [if_neg t0]; simp only; rw [if_pos h1, if_neg (by omega)]
      rw [e]
      exact ⟨by simp only; split <;> omega, fun _ => ⟨h1, h2, h3, h4, by simp only; omega, h6, h7, h8, fun hl => absurd hl l0⟩, fun hne => absurd rfl hne⟩

def linS (l p : Int) : TS := quaT (putT (putT (putT (enT (newT 2) true) 0 l) 2 p) 3 0)
theorem linS_is (l p : Int) (hl : 128 ≤ l ∧ l < 256) (hp : 0 ≤ p ∧ p < 20) : LI (l - 128) p 0 (linS l p) 0 := by
  have e : linS l p = { newT 2 with en := true, ctl := l, len := 10, per := p, lin := l - 128, pend := true } := by
    unfold linS enT putT put2 put3 quaT linT newT at0 lenL
    simp only [if_true, if_false, show ¬ ((2 : Int) = 0) by decide, show ¬ ((2 : Int) = 1) by decide, show ¬ ((3 : Int) = 0) by decide, show ¬ ((3 : Int) = 1) by decide, show ¬ ((3 : Int) = 2) by decide, show ¬ ((2 : Int) = 3) by decide]
    rw [if_neg (by omega)]
    apply ts_ext <;> first | rfl | (simp only; omega)
  rw [e]
  exact ⟨rfl, rfl, by show (0 : Int) < 10; decide, rfl, ⟨by show (0 : Int) ≤ 0; decide, hp.1⟩, by show (0 : Int) ≤ 0 ∧ (0 : Int) < 32; decide, by decide, fun _ => rfl, fun _ => ⟨0, by decide, by show (0 : Int) + 0 = 0 * _; rw [Int.zero_mul]; rfl, by decide, .inr ⟨rfl, rfl⟩⟩⟩
theorem or128 (c : Int) (h : 0 ≤ c ∧ c < 256) : bits .or .u8 128 c = 128 + c % 128 := by
  have k : ∀ n : Fin 256, bits .or .u8 128 (n.val : Int) = 128 + (n.val : Int) % 128 := by decide +kernel
  have := k ⟨c.toNat, by omega⟩; rwa [show ((⟨c.toNat, by omega⟩ : Fin 256).val : Int) = c from Int.toNat_of_nonneg h.1] at this

set_option maxRecDepth 100000 in
set_option maxHeartbeats 2000000 in
theorem toneLines_walk (l p n : Int) (w : World) (hl : 0 ≤ l ∧ l < 256) (hp : 0 ≤ p ∧ p < 256) (hn : 0 ≤ n ∧ n < 65536) (hg : gl w) :
    Calls Tryd.prog 7 #[.int .u8 l, .int .u8 p, .int .u16 n] w fun e w' => e = .returned (.bool true) ∧ Below w.heap.size w w' := by
  have FA := awake11_any w hg
  have FN2 := fun w (hg : gl w) => tnew_tw 2 w w (by decide) hg (Below.refl _ _)
  have z1 := or128 l hl
  have z2 := l127 l hl
  obtain ⟨P, hP⟩ : ∃ P, p % 20 = P := ⟨_, rfl⟩
  obtain ⟨L, hL⟩ : ∃ L, l % 128 = L := ⟨_, rfl⟩
  obtain ⟨B, hB⟩ : ∃ B, 128 + L = B := ⟨_, rfl⟩
  have bl : 0 ≤ B ∧ B < 256 := by omega
  have bp : 0 ≤ P ∧ P < 20 := by omega
  have bn : 0 ≤ n % 2000 ∧ n % 2000 < 2000 := by omega
  have bL : 0 ≤ L := by omega
  have hI := linS_is B P (by omega) (by omega)
  rw [show B - 128 = L by omega] at hI
  unfold linS at hI
  rw [hL] at z1 z2
  rw [hB] at z1
  generalize newT 2 = s0 at *
  go_enter Tryd.func7, Tryd.ntmps7
  go_upto_region 9 with (first
    | (go_at_call 11; refine FA.mono ?_; rintro e w1 ⟨rfl, b1⟩; have g1 := hg.below b1)
    | (go_at_call 12; refine (FN2 _ g1).mono ?_; rintro e w3 ⟨rfl, hT⟩)
    | (go_at_call 16; refine (hT.en true).mono ?_; clear hT; rintro e w4 ⟨rfl, hT⟩)
    | (go_at_call_of 18 (Value.int IntKind.u8 B); refine (hT.put 0 _ (by decide) bl).mono ?_; clear hT; rintro e w5 ⟨rfl, hT⟩)
    | (go_at_call_of 18 (Value.int IntKind.u8 P); refine (hT.put 2 _ (by decide) (by omega)).mono ?_; clear hT; rintro e w6 ⟨rfl, hT⟩)
    | (go_at_call_of 18 (Value.int IntKind.u8 3); refine (hT.put 3 0 (by decide) (by decide)).mono ?_; clear hT; rintro e w6 ⟨rfl, hT⟩)
    | (go_at_call 20; refine hT.qua.mono ?_; clear hT; rintro e w7 ⟨rfl, hT⟩; have hO := hT.out))
  generalize quaT (putT (putT (putT (enT s0 true) 0 B) 2 P) 3 0) = s1 at *
  go_upto_region 12 with (go_at_call 29; refine hO.mono ?_; clear hO; rintro e w8 ⟨rfl, q, rfl⟩)
  replace hT := hT.drewN q
  clear FN2 FA
  go_loopw [8, 9, 33] (fun mv la i wr => ∃ (k : Nat) (s : TS) (M : Int), (k : Int) ≤ n % 2000 ∧ i = .int .u16 k ∧ mv = .int .i64 M ∧ la = .int .u8 (outT s) ∧ M ≤ k ∧ LI L P k s M ∧ TW w1 w1.heap.size s wr) (fun _ _ i _ => (n % 2000).toNat - (intOf i).toNat)
  case atStart => exact ⟨0, s1, 0, by omega, rfl, rfl, rfl, by decide, hI, hT⟩
  case round =>
    clear hI hT
    obtain ⟨k, s, M, hk, rfl, rfl, rfl, hMk, hI, hT⟩ := hrel
    have hM0 := hI.hM
    by_cases h : (k : Int) < n % 2000
    · obtain ⟨⟨f1, f2, f3, f4, f5, f6⟩, hSame, hDiff⟩ := hI.next bp.1 bL (by omega)
      generalize ho : outT s = o at *
      generalize ho2 : outT (clockT s) = o2 at *
      have y1 : decide (15 < o2) = false := by simp; omega
      have y2 : decide (o + 1 < o2) = false := by simp; omega
      have y3 : decide (o2 + 1 < o) = false := by simp; omega
      have y4 : IntKind.i64.wrap (M + 1) = M + 1 := IntWalk.i64_in _ ⟨by omega, by omega⟩
      rcases (by by_cases e : o2 = o; exact .inl e; exact .inr ⟨e, by simpa using e⟩ : o2 = o ∨ (o2 ≠ o ∧ (o2 != o) = true)) with he | ⟨hn1, he⟩
      · subst he
        go_wp2_with (first
          | (go_at_call 22; refine hT.clock.mono ?_; clear hT; rintro e w9 ⟨rfl, hT⟩; have hO := hT.out; rw [ho2] at hO)
          | (go_at_call 29; refine hO.mono ?_; clear hO; rintro e w10 ⟨rfl, q2, rfl⟩))
        go_roundw
        case rel => exact ⟨k + 1, clockT s, M, by omega, by go_num, rfl, by rw [ho2], by omega, by push_cast; exact hSame trivial, hT.drewN _⟩
        case measure => simp [intOf]; omega
      · go_wp2_with (first
          | (go_at_call 22; refine hT.clock.mono ?_; clear hT; rintro e w9 ⟨rfl, hT⟩; have hO := hT.out; rw [ho2] at hO)
          | (go_at_call 29; refine hO.mono ?_; clear hO; rintro e w10 ⟨rfl, q2, rfl⟩))
        go_roundw
        case rel => exact ⟨k + 1, clockT s, M + 1, by omega, by go_num, rfl, by rw [ho2], by omega, by push_cast; exact hDiff hn1, hT.drewN _⟩
        case measure => simp [intOf]; omega
    · have hkN : (k : Int) = n % 2000 := by omega
      have hend : Below w.heap.size w wr := b1.trans (hT.below.mono b1.size)
      clear h hk
      rw [hkN] at hI
      rcases (by omega : L = 0 ∨ 0 < L) with l0 | l0
      · have hM := hI.none l0
        rw [l0] at z2
        subst hM
        go_wp2
        go_ret
        exact ⟨rfl, hend⟩
      · have l1 : (L == 0) = false := by rw [beq_eq_false_iff_ne]; omega
        obtain ⟨a, a1, a2, a3, a4⟩ := hI.some l0
        have ht := hI.tim
        have e3 : (a - 1) * (1 + P) = a * (P + 1) - (1 + P) := by rw [Int.sub_mul, Int.one_mul, Int.add_comm 1 P]
        have m1 : a - 1 ≤ n % 2000 / (1 + P) := Int.le_ediv_of_mul_le (by omega) (by omega)
        have m2 : n % 2000 < 40 ∨ 0 < M := by
          rcases a4 with a4 | ⟨a4, _⟩
          · exact .inr a4
          · subst a4; left; omega
        have q0 : 0 ≤ n % 2000 / (1 + P) := Int.ediv_nonneg (by omega) (by omega)
        have q1 : n % 2000 / (1 + P) ≤ n % 2000 := Int.ediv_le_self _ (by omega)
        have nz : 1 + P ≠ 0 := by omega
        have y1 : decide (M ≤ 1 + n % 2000 / (1 + P)) = true := by simp; omega
        have t1 : (n % 2000).tdiv (1 + P) = n % 2000 / (1 + P) := Int.tdiv_eq_ediv_of_nonneg (by omega)
        rcases m2 with m2 | m2
        · go_wp2
          go_ret
          exact ⟨rfl, hend⟩
        · go_wp2
          all_goals
            go_ret
            exact ⟨rfl, hend⟩

end Go.Proofs.YtniclofgnmgmfaaDoor
