/- ToneNoises' walk. No law is claimed here. -/
import Derived.Test.YtniclofgnmgmfaaDoorTnNoise2
namespace Go.Proofs.YtniclofgnmgmfaaDoor
open Go.RowKit

theorem nxN_lt (sh : Bool) (x : Nat) (h : x < 32768) : nxN sh x < 32768 := by
  unfold nxN; split <;> omega
theorem itN_lt (sh : Bool) (x : Nat) (h : x < 32768) : ∀ n, itN sh n x < 32768
  | 0 => h
  | n + 1 => nxN_lt sh _ (itN_lt sh x h n)
theorem nx_mod (p x y : Nat) (hp : p ≤ 14) (h : nxN false x % 2 ^ p = nxN false y % 2 ^ p) (h2 : x % 2 = y % 2) : x % 2 ^ (p + 1) = y % 2 ^ (p + 1) := by
  have hd : ∀ z t : Nat, (z + t * 16384) % 2 ^ p = z % 2 ^ p := by
    intro z t
    rw [show (16384 : Nat) = 2 ^ (14 - p) * 2 ^ p by rw [← Nat.pow_add, Nat.sub_add_cancel hp], ← Nat.mul_assoc, Nat.add_mul_mod_self_right]
  unfold nxN at h
  rw [hd, hd] at h
  rw [Nat.pow_succ, Nat.mul_comm, Nat.mod_mul, Nat.mod_mul, h, h2]
theorem par_inj (p : Nat) : ∀ x y, p ≤ 15 → (∀ j, j < p → itN false j x % 2 = itN false j y % 2) → x % 2 ^ p = y % 2 ^ p := by
  induction p with
  | zero => intro x y _ _; simp [Nat.mod_one]
  | succ p ih =>
    intro x y hp h
    have hs : ∀ m z, itN false (m + 1) z = itN false m (nxN false z) := fun m z => by rw [Nat.add_comm]; exact itN_add false 1 m z
    refine nx_mod p x y (by omega) (ih _ _ (by omega) fun j hj => ?_) (h 0 (by omega))
    rw [← hs, ← hs]
    exact h (j + 1) (by omega)
theorem win_par (sh : Bool) (x y : Nat) : ∀ J, winN sh J x = winN sh J y → ∀ j, j < J → itN sh j x % 2 = itN sh j y % 2
  | 0, _, j, hj => by omega
  | J + 1, h, j, hj => by
    have e1 : winN sh (J + 1) x = winN sh J x * 2 + (1 - itN sh J x % 2) := rfl
    have e2 : winN sh (J + 1) y = winN sh J y * 2 + (1 - itN sh J y % 2) := rfl
    rw [e1, e2] at h
    by_cases hj2 : j = J
    · subst hj2; omega
    · exact win_par sh x y J (by omega) j (by omega)
theorem win_ne (y : Nat) (hy : y < 32768) (h : y ≠ 1) : winN false 30 1 ≠ winN false 30 y := by
  intro e
  have h1 := par_inj 15 1 y (by decide) (fun j hj => win_par false 1 y 30 e j (by omega))
  apply h
  have : y % 2 ^ 15 = y := Nat.mod_eq_of_lt hy
  rw [this] at h1
  exact h1.symm
theorem long_2 : itN false 65534 1 = 1 := by
  have := itN_add false 32767 32767 1
  rw [round_long.1, round_long.1] at this
  exact this
theorem short_2 : itN true 186 1 = 1 := by
  have := itN_add true 93 93 1
  rw [round_short, round_short] at this
  exact this
theorem walk11_z {w0 v : World} {m : Nat} {s : TS} {sh : Bool} {b : Nat} (z : Int) (n : Nat) (hz : z = n) (hT : TW w0 m s v) (hI : NJ sh 0 b s) (hn : n ≤ 70000) :
    Calls Tryd.prog 28 #[.pointer (some ⟨m, 0, none⟩), .int .i64 z] v fun e v' => e = .returned (.tuple #[]) ∧ ∃ s', TW w0 m s' v' ∧ NJ sh 0 (itN sh n b) s' := by
  rw [hz]; exact walk11_any n hT hI hn

def noiS (b : Int) : TS := putT (putT (enT (newT 3) true) 0 31) 3 b
theorem noiS_is (b : Int) (hb : 0 ≤ b ∧ b < 256) : NJ false 0 1 (noiS b) ∧ NJ true 0 1 (putT (noiS b) 2 128) := by
  have hl := lenL_pos (b / 8) (by omega)
  have e : noiS b = ⟨3, true, 31, at0 lenL (b / 8), 0, 3, 0, 0, 0, true, 0, 0, false, 0, false, 1, false⟩ := rfl
  have e2 : putT (noiS b) 2 128 = ⟨3, true, 31, at0 lenL (b / 8), 0, 3, 0, 0, 0, true, 0, 0, false, 0, false, 1, true⟩ := rfl
  rw [e2, e]
  exact ⟨⟨rfl, rfl, by show 0 < at0 lenL (b / 8); omega, rfl, rfl, rfl, rfl⟩, ⟨rfl, rfl, by show 0 < at0 lenL (b / 8); omega, rfl, rfl, rfl, rfl⟩⟩

set_option maxRecDepth 100000 in
set_option maxHeartbeats 400000 in
theorem toneNoises_walk (b : Int) (short : Bool) (fewer : Int) (w : World) (hb : 0 ≤ b ∧ b < 256) (hf : 0 ≤ fewer ∧ fewer < 65536) (hg : gl w) :
    Calls Tryd.prog 6 #[.int .u8 b, .bool short, .int .u16 fewer] w fun e w' => e = .returned (.bool true) ∧ Below w.heap.size w w' := by
  have FA := awake11_any w hg
  have FN := fun w (hg : gl w) => tnew_tw 3 w w (by decide) hg (Below.refl _ _)
  obtain ⟨i1, i2⟩ := noiS_is b hb
  unfold noiS at i1 i2
  obtain ⟨c1, hc1⟩ : ∃ c1 : Nat, fewer % 32737 = (c1 : Int) := ⟨(fewer % 32737).toNat, by omega⟩
  have hc : c1 < 32737 := by omega
  generalize newT 3 = s0 at *
  cases short
  · have A1 : Hid (itN false (30 + c1) 1 = itN false c1 (itN false 30 1)) := itN_add false 30 c1 1
    have A2 : Hid (itN false (30 + c1 + 30) 1 = itN false 30 (itN false (30 + c1) 1)) := itN_add false (30 + c1) 30 1
    have A3 : Hid (itN false (65474 - c1) (itN false (30 + c1 + 30) 1) = 1) := by
      have a3 := itN_add false (30 + c1 + 30) (65474 - c1) 1
      rw [show 30 + c1 + 30 + (65474 - c1) = 65534 by omega, long_2] at a3
      exact a3.symm
    have hne := win_ne (itN false (30 + c1) 1) (itN_lt false 1 (by decide) _) (round_long.2 (30 + c1) (by omega) (by omega))
    have hne2 : Hid ((((winN false 30 1 : Nat) : Int) != ((winN false 30 (itN false (30 + c1) 1) : Nat) : Int)) = true) := by
      show (_ != _) = true
      rw [bne_iff_ne]; omega
    clear hne
    go_enter Tryd.func6, Tryd.ntmps6
    go_upto_region 11 with (first
      | (go_at_call 11; refine FA.mono ?_; rintro e w1 ⟨rfl, b1⟩; have g1 := hg.below b1)
      | (go_at_call 12; refine (FN _ g1).mono ?_; rintro e w3 ⟨rfl, hT⟩)
      | (go_at_call 16; refine (hT.en true).mono ?_; clear hT; rintro e w4 ⟨rfl, hT⟩)
      | (go_at_call_of 18 (Value.int IntKind.u8 31); refine (hT.put 0 31 (by decide) (by decide)).mono ?_; clear hT; rintro e w5 ⟨rfl, hT⟩)
      | (go_at_call_of 18 (Value.int IntKind.u8 128); refine (hT.put 2 128 (by decide) (by decide)).mono ?_; clear hT; rintro e w55 ⟨rfl, hT⟩)
      | (go_at_call 18; refine (hT.put 3 b (by decide) hb).mono ?_; clear hT; rintro e w6 ⟨rfl, hT⟩))
    go_upto_region 12 with (go_at_call 27; refine (window11_any hT i1).mono ?_; clear hT; rintro e w7 ⟨rfl, s1, hT, j1⟩)
    go_upto_region 13 with (go_at_call 28; refine (walk11_z _ (c1) (by omega) hT j1 (by omega)).mono ?_; clear hT; rintro e w8 ⟨rfl, s2, hT, j2⟩; rw [← A1.out] at j2)
    go_upto_region 14 with (go_at_call 27; refine (window11_any hT j2).mono ?_; clear hT; rintro e w9 ⟨rfl, s3, hT, j3⟩; rw [← A2.out] at j3)
    go_upto_region 15 with (go_at_call 28; refine (walk11_z _ (65474 - c1) (by omega) hT j3 (by omega)).mono ?_; clear hT; rintro e w10 ⟨rfl, s4, hT, j4⟩; rw [A3.out] at j4)
    have hne3 := hne2.out
    have FW := window11_any hT j4
    clear A1 A2 A3 hne2 j1 j2 j3 j4 hT
    generalize winN false 30 (itN false (30 + c1) 1) = y2 at *
    generalize winN false 30 1 = y1 at *
    go_wp2_with (go_at_call 27; refine FW.mono ?_; clear FW; rintro e w11 ⟨rfl, s5, hT, _⟩)
    go_ret
    exact ⟨rfl, b1.trans (hT.below.mono b1.size)⟩
  · have A1 : Hid (itN true (30 + 30) 1 = itN true 30 (itN true 30 1)) := itN_add true 30 30 1
    have A2 : Hid (itN true (30 + 30 + 30) 1 = itN true 30 (itN true (30 + 30) 1)) := itN_add true (30 + 30) 30 1
    have A3 : Hid (itN true 96 (itN true (30 + 30 + 30) 1) = 1) := by
      have a3 := itN_add true (30 + 30 + 30) 96 1
      rw [show 30 + 30 + 30 + 96 = 186 by omega, short_2] at a3
      exact a3.symm
    go_enter Tryd.func6, Tryd.ntmps6
    go_upto_region 11 with (first
      | (go_at_call 11; refine FA.mono ?_; rintro e w1 ⟨rfl, b1⟩; have g1 := hg.below b1)
      | (go_at_call 12; refine (FN _ g1).mono ?_; rintro e w3 ⟨rfl, hT⟩)
      | (go_at_call 16; refine (hT.en true).mono ?_; clear hT; rintro e w4 ⟨rfl, hT⟩)
      | (go_at_call_of 18 (Value.int IntKind.u8 31); refine (hT.put 0 31 (by decide) (by decide)).mono ?_; clear hT; rintro e w5 ⟨rfl, hT⟩)
      | (go_at_call_of 18 (Value.int IntKind.u8 128); refine (hT.put 2 128 (by decide) (by decide)).mono ?_; clear hT; rintro e w55 ⟨rfl, hT⟩)
      | (go_at_call 18; refine (hT.put 3 b (by decide) hb).mono ?_; clear hT; rintro e w6 ⟨rfl, hT⟩))
    go_upto_region 12 with (go_at_call 27; refine (window11_any hT i2).mono ?_; clear hT; rintro e w7 ⟨rfl, s1, hT, j1⟩)
    go_upto_region 13 with (go_at_call 28; refine (walk11_z _ (30) (by omega) hT j1 (by omega)).mono ?_; clear hT; rintro e w8 ⟨rfl, s2, hT, j2⟩; rw [← A1.out] at j2)
    go_upto_region 14 with (go_at_call 27; refine (window11_any hT j2).mono ?_; clear hT; rintro e w9 ⟨rfl, s3, hT, j3⟩; rw [← A2.out] at j3)
    go_upto_region 15 with (go_at_call 28; refine (walk11_z _ (96) (by omega) hT j3 (by omega)).mono ?_; clear hT; rintro e w10 ⟨rfl, s4, hT, j4⟩; rw [A3.out] at j4)
    have FW := window11_any hT j4
    clear A1 A2 A3 j1 j2 j3 j4 hT
    generalize winN true 30 (itN true (30 + 30) 1) = y2 at *
    generalize winN true 30 1 = y1 at *
    go_wp2_with (go_at_call 27; refine FW.mono ?_; clear FW; rintro e w11 ⟨rfl, s5, hT, _⟩)
    go_ret
    exact ⟨rfl, b1.trans (hT.below.mono b1.size)⟩

end Go.Proofs.YtniclofgnmgmfaaDoor
