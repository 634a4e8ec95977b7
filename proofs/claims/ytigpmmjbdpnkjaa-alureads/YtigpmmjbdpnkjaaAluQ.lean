/- What the document's operations that read make is what package alu's make: flags in another order. Plain lemmas, no law is claimed here. -/
import Derived.Test.YtigpmmjbdpnkjaaAluD
import Derived.Test.YtigpmmjbdpnkjaaAluC
import Derived.Test.YtigpmmjbdpnkjaaAlu3
namespace Go.Proofs.Ytigpmmjbdpnkjaa

theorem wrap_nat64 (n : Nat) (h : n < 256) : IntKind.i64.wrap (n : Int) = (n : Int) := IntWalk.i64_in _ ⟨by omega, by omega⟩
theorem and64 (a m : Int) (ha : 0 ≤ a ∧ a < 256) (hm : 0 ≤ m ∧ m < 256) : bits .and .i64 a m = bits .and .u8 a m := by
  obtain ⟨k, rfl⟩ : ∃ k : Nat, a = (k : Int) := ⟨a.toNat, by omega⟩
  obtain ⟨n, rfl⟩ : ∃ n : Nat, m = (n : Int) := ⟨m.toNat, by omega⟩
  rw [and_u8 k n (by omega) (by omega)]
  show IntKind.i64.wrap ((BitVec.ofInt 64 (k : Int) &&& BitVec.ofInt 64 (n : Int)).toNat : Int) = _
  rw [BitVec.toNat_and, ofInt_nat 64 k (by omega), ofInt_nat 64 n (by omega)]
  exact wrap_nat64 _ (Nat.lt_of_le_of_lt Nat.and_le_left (by omega))
theorem or64 (a m : Int) (ha : 0 ≤ a ∧ a < 256) (hm : 0 ≤ m ∧ m < 256) : bits .or .i64 a m = bits .or .u8 a m := by
  obtain ⟨k, rfl⟩ : ∃ k : Nat, a = (k : Int) := ⟨a.toNat, by omega⟩
  obtain ⟨n, rfl⟩ : ∃ n : Nat, m = (n : Int) := ⟨m.toNat, by omega⟩
  rw [or_u8 k n (by omega) (by omega)]
  show IntKind.i64.wrap ((BitVec.ofInt 64 (k : Int) ||| BitVec.ofInt 64 (n : Int)).toNat : Int) = _
  rw [BitVec.toNat_or, ofInt_nat 64 k (by omega), ofInt_nat 64 n (by omega)]
  exact wrap_nat64 _ (Nat.or_lt_two_pow (n := 8) (by omega) (by omega))
theorem xor64 (a m : Int) (ha : 0 ≤ a ∧ a < 256) (hm : 0 ≤ m ∧ m < 256) : bits .xor .i64 a m = bits .xor .u8 a m := by
  obtain ⟨k, rfl⟩ : ∃ k : Nat, a = (k : Int) := ⟨a.toNat, by omega⟩
  obtain ⟨n, rfl⟩ : ∃ n : Nat, m = (n : Int) := ⟨m.toNat, by omega⟩
  rw [xor_u8 k n (by omega) (by omega)]
  show IntKind.i64.wrap ((BitVec.ofInt 64 (k : Int) ^^^ BitVec.ofInt 64 (n : Int)).toNat : Int) = _
  rw [BitVec.toNat_xor, ofInt_nat 64 k (by omega), ofInt_nat 64 n (by omega)]
  exact wrap_nat64 _ (Nat.xor_lt_two_pow (n := 8) (by omega) (by omega))

/-- sign and zero -/
def sz (p m : Int) : Int := fl (fl p 128 (decide (128 ≤ m))) 2 (m == 0)
theorem sgU_eq (u : Un) (m : Int) : sgU u m = { u with p := sz u.p m } := rfl
theorem sz_sz (p m n : Int) : sz (sz p m) n = sz p n := by
  unfold sz
  rw [fl_comm _ 2 128 _ _ rfl, fl_fl, fl_fl]
theorem sz_fl1 (p m : Int) (c : Bool) : fl (sz p m) 1 c = sz (fl p 1 c) m := by
  unfold sz
  rw [fl_comm _ 2 1 _ _ rfl, fl_comm _ 128 1 _ _ rfl]
theorem sz_fl64 (p m : Int) (c : Bool) : fl (sz p m) 64 c = sz (fl p 64 c) m := by
  unfold sz
  rw [fl_comm _ 2 64 _ _ rfl, fl_comm _ 128 64 _ _ rfl]
theorem sgn_sz (p m : Int) (c : Bool) : sgn p c m = sz (fl p 1 c) m := rfl
theorem lax_eq (u : Un) (m : Int) : sgU ⟨m, m, u.y, u.s, u.p⟩ m = laxU u m := by
  show (⟨m, m, u.y, u.s, sz u.p m⟩ : Un) = ⟨m, m, u.y, u.s, sz (sz u.p m) m⟩
  rw [sz_sz]
theorem las_eq (u : Un) (m b : Int) (hb : b = bits .and .u8 u.s m) : sgU ⟨b, b, u.y, b, u.p⟩ b = lasU u m := by
  subst hb
  exact lax_eq { u with s := bits .and .u8 u.s m } _
theorem anc_eq (u : Un) (m b : Int) (hb : b = bits .and .u8 u.a m) : sgU (flU ⟨b, u.x, u.y, u.s, u.p⟩ 1 (b / 128 == 1)) b = ancU u m := by
  have hr := bits_u8 .and u.a m
  subst hb
  show (⟨_, u.x, u.y, u.s, sz (fl u.p 1 _) _⟩ : Un) = ⟨_, u.x, u.y, u.s, fl (sz u.p _) 1 _⟩
  rw [sz_fl1]
  have : (bits .and .u8 u.a m / 128 == 1) = decide (128 ≤ bits .and .u8 u.a m) := by
    generalize bits .and .u8 u.a m = b at *
    by_cases k : 128 ≤ b
    · rw [decide_eq_true k, beq_iff_eq]; omega
    · rw [decide_eq_false k, beq_eq_false_iff_ne]; omega
  rw [this]
  rfl
theorem axs_eq (u : Un) (m b : Int) (hb : b = bits .and .u8 u.a u.x) : { cmpU u b m with x := IntKind.u8.wrap (b - m) } = axsU u m := by
  subst hb
  show (⟨u.a, _, u.y, u.s, sz (fl u.p 1 _) _⟩ : Un) = ⟨u.a, _, u.y, u.s, sz (sz (fl u.p 1 _) _) _⟩
  rw [sz_sz]
  rfl
theorem alr_eq (u : Un) (m b : Int) (hb : b = bits .and .u8 u.a m) : sgU (flU ⟨b / 2, u.x, u.y, u.s, u.p⟩ 1 (b % 2 == 1)) (b / 2) = alrU u m := by
  have hr := bits_u8 .and u.a m
  unfold alrU
  have ha : (andU u m).a = b := hb.symm
  rw [ha, right_in (andU u m) b 0 (by rw [hb]; exact hr) (by omega)]
  have hp : (andU u m).p = sz u.p b := by subst hb; rfl
  unfold onU
  simp only [hp]
  rw [sgn_sz, sz_fl1, sz_sz, show b / 2 + 128 * 0 = b / 2 by omega]
  have : (b % 2 == 1) = decide (b % 2 = 1) := by
    by_cases k : b % 2 = 1
    · rw [decide_eq_true k, k]; rfl
    · rw [decide_eq_false k, beq_eq_false_iff_ne]; exact k
  rw [this]
  rfl
theorem and64b : ∀ n : Fin 256, (bits .and .u8 (n.val : Int) 64 != 0) = ((n.val : Int) / 64 % 2 == 1) := by decide +kernel
theorem and32b : ∀ n : Fin 256, (bits .and .u8 (n.val : Int) 32 != 0) = ((n.val : Int) / 32 % 2 == 1) := by decide +kernel
theorem and128b : ∀ n : Fin 256, (bits .and .u8 (n.val : Int) 128 != 0) = ((n.val : Int) / 128 == 1) := by decide +kernel
theorem bit_eq (u : Un) (m b : Int) (hm : 0 ≤ m ∧ m < 256) (hb : b = bits .and .u8 u.a m) : flU (flU (flU u 128 (m / 128 == 1)) 64 (m / 64 % 2 == 1)) 2 (b == 0) = bitU u m := by
  subst hb
  unfold bitU
  obtain ⟨n, rfl⟩ : ∃ n : Nat, m = (n : Int) := ⟨m.toNat, by omega⟩
  rw [and128b ⟨n, by omega⟩, and64b ⟨n, by omega⟩]
theorem arr_eq (u : Un) (m b d : Int) (hp : 0 ≤ u.p ∧ u.p < 256) (hb : b = bits .and .u8 u.a m) (hd : b / 2 + 128 * (u.p % 2) = d) :
    sgU (flU (flU ⟨d, u.x, u.y, u.s, u.p⟩ 1 (d / 64 % 2 == 1)) 64 ((d / 64 + d / 32) % 2 == 1)) d = arrU u m := by
  have hr := bits_u8 .and u.a m
  rw [← hb] at hr
  unfold arrU
  have ha : (andU u m).a = b := hb.symm
  have hq : (andU u m).p = sz u.p b := by subst hb; rfl
  have hc : bits .and .u8 (andU u m).p 1 = u.p % 2 := by
    rw [hq]
    unfold sz
    rw [fl_and_other _ _ _ _ rfl, fl_and_other _ _ _ _ rfl, low_bit u.p hp]
  rw [ha, hc, right_in (andU u m) b (u.p % 2) hr (by omega)]
  unfold onU arrV
  simp only [hq]
  rw [hd, sgn_sz]
  have hdr : 0 ≤ d ∧ d < 256 := by omega
  obtain ⟨n, rfl⟩ : ∃ n : Nat, d = (n : Int) := ⟨d.toNat, by omega⟩
  rw [and64b ⟨n, by omega⟩, and32b ⟨n, by omega⟩]
  have hx : (((n : Int) / 64 % 2 == 1) != ((n : Int) / 32 % 2 == 1)) = (((n : Int) / 64 + (n : Int) / 32) % 2 == 1) := by
    by_cases k1 : (n : Int) / 64 % 2 = 1 <;> by_cases k2 : (n : Int) / 32 % 2 = 1
    · rw [k1, k2, show ((n : Int) / 64 + (n : Int) / 32) % 2 = 0 by omega]; rfl
    · rw [k1, show (n : Int) / 32 % 2 = 0 by omega, show ((n : Int) / 64 + (n : Int) / 32) % 2 = 1 by omega]; rfl
    · rw [k2, show (n : Int) / 64 % 2 = 0 by omega, show ((n : Int) / 64 + (n : Int) / 32) % 2 = 1 by omega]; rfl
    · rw [show (n : Int) / 64 % 2 = 0 by omega, show (n : Int) / 32 % 2 = 0 by omega, show ((n : Int) / 64 + (n : Int) / 32) % 2 = 0 by omega]; rfl
  show (⟨n, u.x, u.y, u.s, sz (fl (fl u.p 1 _) 64 _) n⟩ : Un) = ⟨n, u.x, u.y, u.s, fl (fl (sz (fl (sz u.p b) 1 _) n) 1 ((n : Int) / 64 % 2 == 1)) 64 (((n : Int) / 64 % 2 == 1) != ((n : Int) / 32 % 2 == 1))⟩
  rw [hx, sz_fl1, sz_fl1 u.p, sz_fl64, sz_fl1, fl_fl, sz_fl64, sz_sz]

end Go.Proofs.Ytigpmmjbdpnkjaa
