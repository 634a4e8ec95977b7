/- A scroll's places as numbers: masks are fields. Plain mathematics, no law is claimed here. -/
import Derived.Test.YthldppdkheclkaaLy1
namespace Go.Proofs.Ythldppdkheclkaa
open Go.RowKit

theorem or_and_add : ∀ (n a b : Nat), a < 2 ^ n → b < 2 ^ n → (a ||| b) + (a &&& b) = a + b := by
  intro n
  induction n with
  | zero => intro a b ha hb; have : a = 0 := by omega
            have : b = 0 := by omega
            subst a; subst b; rfl
  | succ n ih =>
    intro a b ha hb
    have hp : 2 ^ (n + 1) = 2 * 2 ^ n := by rw [Nat.pow_succ]; omega
    have h := ih (a / 2) (b / 2) (by omega) (by omega)
    have o1 : (a ||| b) / 2 = a / 2 ||| b / 2 := Nat.or_div_two
    have o2 : (a &&& b) / 2 = a / 2 &&& b / 2 := Nat.and_div_two
    have m1 : (a ||| b) % 2 = (a % 2 ||| b % 2) := by
      have := Nat.or_mod_two_pow (a := a) (b := b) (n := 1); simpa using this
    have m2 : (a &&& b) % 2 = (a % 2 &&& b % 2) := by
      have := Nat.and_mod_two_pow (a := a) (b := b) (n := 1); simpa using this
    have m3 : (a % 2 ||| b % 2) + (a % 2 &&& b % 2) = a % 2 + b % 2 := by
      rcases Nat.mod_two_eq_zero_or_one a with e | e <;> rcases Nat.mod_two_eq_zero_or_one b with f | f <;> rw [e, f] <;> rfl
    omega
theorem xor_and_add : ∀ (n a b : Nat), a < 2 ^ n → b < 2 ^ n → (a ^^^ b) + 2 * (a &&& b) = a + b := by
  intro n
  induction n with
  | zero => intro a b ha hb; have : a = 0 := by omega
            have : b = 0 := by omega
            subst a; subst b; rfl
  | succ n ih =>
    intro a b ha hb
    have hp : 2 ^ (n + 1) = 2 * 2 ^ n := by rw [Nat.pow_succ]; omega
    have h := ih (a / 2) (b / 2) (by omega) (by omega)
    have o1 : (a ^^^ b) / 2 = a / 2 ^^^ b / 2 := Nat.xor_div_two
    have o2 : (a &&& b) / 2 = a / 2 &&& b / 2 := Nat.and_div_two
    have m1 : (a ^^^ b) % 2 = (a % 2 ^^^ b % 2) := by
      have := Nat.xor_mod_two_pow (a := a) (b := b) (n := 1); simpa using this
    have m2 : (a &&& b) % 2 = (a % 2 &&& b % 2) := by
      have := Nat.and_mod_two_pow (a := a) (b := b) (n := 1); simpa using this
    have m3 : (a % 2 ^^^ b % 2) + 2 * (a % 2 &&& b % 2) = a % 2 + b % 2 := by
      rcases Nat.mod_two_eq_zero_or_one a with e | e <;> rcases Nat.mod_two_eq_zero_or_one b with f | f <;> rw [e, f] <;> rfl
    omega
/-- a mask of bits in a row is a field -/
theorem fld (n lo len : Nat) : n &&& ((2 ^ len - 1) * 2 ^ lo) = n / 2 ^ lo % 2 ^ len * 2 ^ lo := by
  apply Nat.eq_of_testBit_eq
  intro i
  rw [Nat.testBit_and, Nat.mul_comm, Nat.testBit_two_pow_mul, Nat.mul_comm _ (2 ^ lo), Nat.testBit_two_pow_mul, Nat.testBit_two_pow_sub_one, Nat.testBit_mod_two_pow, Nat.testBit_div_two_pow]
  by_cases h : lo ≤ i
  · simp [h, Bool.and_comm]
  · simp [h]
/-- two masks with nothing in common -/
theorem two (n a b : Nat) (hn : n < 65536) (h : a &&& b = 0) : n &&& (a ||| b) = (n &&& a) + (n &&& b) := by
  rw [Nat.and_or_distrib_left]
  have l1 : n &&& a < 2 ^ 16 := Nat.lt_of_le_of_lt Nat.and_le_left hn
  have l2 : n &&& b < 2 ^ 16 := Nat.lt_of_le_of_lt Nat.and_le_left hn
  have := or_and_add 16 (n &&& a) (n &&& b) l1 l2
  have z : (n &&& a) &&& (n &&& b) = 0 := by
    rw [show (n &&& a) &&& (n &&& b) = n &&& (a &&& b) by
      apply Nat.eq_of_testBit_eq; intro i; simp only [Nat.testBit_and]; cases n.testBit i <;> simp]
    rw [h]; simp
  omega
def bv16 (x : Int) : BitVec 16 := BitVec.ofInt 16 x
theorem wrap_v16 (v : BitVec 16) : IntKind.u16.wrap (v.toNat : Int) = (v.toNat : Int) := wrap_uns .u16 rfl _ v.isLt
theorem and_v16 (a b : Int) : bits .and .u16 a b = ((bv16 a &&& bv16 b).toNat : Int) := wrap_v16 _
theorem or_v16 (a b : Int) : bits .or .u16 a b = ((bv16 a ||| bv16 b).toNat : Int) := wrap_v16 _
theorem andNot_v16 (a b : Int) : bits .andNot .u16 a b = ((bv16 a &&& ~~~ bv16 b).toNat : Int) := wrap_v16 _
theorem bv16_nat (n : Nat) (h : n < 65536) : (bv16 (n : Int)).toNat = n := ofInt_nat 16 n h
theorem bv16_back (v : BitVec 16) : bv16 (v.toNat : Int) = v := by
  apply BitVec.eq_of_toNat_eq
  exact bv16_nat _ v.isLt
theorem andNot_sum (r m : BitVec 16) : (r &&& ~~~ m).toNat + (r &&& m).toNat = r.toNat := by
  have h := or_and_add 16 (r &&& ~~~ m).toNat (r &&& m).toNat (BitVec.isLt _) (BitVec.isLt _)
  rw [← BitVec.toNat_or, ← BitVec.toNat_and] at h
  rw [show (r &&& ~~~ m) ||| (r &&& m) = r by ext i hi; simp; cases r[i] <;> cases m[i] <;> rfl, show (r &&& ~~~ m) &&& (r &&& m) = 0#16 by ext i hi; simp only [BitVec.getElem_and, BitVec.getElem_not, BitVec.getElem_zero]; cases r[i] <;> cases m[i] <;> rfl] at h
  rw [show (0#16).toNat = 0 from rfl] at h
  omega
theorem with_sum (r m v : BitVec 16) : ((r &&& ~~~ m) ||| (v &&& m)).toNat + (r &&& m).toNat = r.toNat + (v &&& m).toNat := by
  have h := or_and_add 16 (r &&& ~~~ m).toNat (v &&& m).toNat (BitVec.isLt _) (BitVec.isLt _)
  rw [← BitVec.toNat_or, ← BitVec.toNat_and, show (r &&& ~~~ m) &&& (v &&& m) = 0#16 by ext i hi; simp only [BitVec.getElem_and, BitVec.getElem_not, BitVec.getElem_zero]; cases r[i] <;> cases m[i] <;> cases v[i] <;> rfl] at h
  have := andNot_sum r m
  rw [show (0#16).toNat = 0 from rfl] at h
  omega
/-- bits of a value in a register -/
theorem withL_is (r m v : Int) (hr : 0 ≤ r ∧ r < 65536) : withL r m v = r - bits .and .u16 r m + bits .and .u16 v m := by
  unfold withL
  rw [andNot_v16, and_v16, and_v16, or_v16, bv16_back, bv16_back]
  have := with_sum (bv16 r) (bv16 m) (bv16 v)
  have e : ((bv16 r).toNat : Int) = r := by
    rw [show r = ((r.toNat : Nat) : Int) by omega, bv16_nat _ (by omega)]
  omega
theorem andNot_is (r m : Int) (hr : 0 ≤ r ∧ r < 65536) : bits .andNot .u16 r m = r - bits .and .u16 r m := by
  rw [andNot_v16, and_v16]
  have := andNot_sum (bv16 r) (bv16 m)
  have e : ((bv16 r).toNat : Int) = r := by
    rw [show r = ((r.toNat : Nat) : Int) by omega, bv16_nat _ (by omega)]
  omega
theorem xor_is (r m : Int) (hr : 0 ≤ r ∧ r < 65536) (hm : 0 ≤ m ∧ m < 65536) : bits .xor .u16 r m = r + m - 2 * bits .and .u16 r m := by
  obtain ⟨r, rfl⟩ : ∃ n : Nat, r = n := ⟨r.toNat, by omega⟩
  obtain ⟨m, rfl⟩ : ∃ n : Nat, m = n := ⟨m.toNat, by omega⟩
  rw [xor_u16 r m (by omega) (by omega), and_u16 r m (by omega) (by omega)]
  have := xor_and_add 16 r m (by omega) (by omega)
  omega

theorem nat_mask (v : Int) (m : Nat) (F : Int → Int) (hv : 0 ≤ v ∧ v < 65536) (hm : m < 65536) (h : ∀ n : Nat, n < 65536 → ((n &&& m : Nat) : Int) = F n) : bits .and .u16 v (m : Int) = F v := by
  obtain ⟨n, rfl⟩ : ∃ n : Nat, v = n := ⟨v.toNat, by omega⟩
  rw [and_u16 n m (by omega) hm]
  exact h n (by omega)
theorem m31 (v : Int) (hv : 0 ≤ v ∧ v < 65536) : bits .and .u16 v 31 = v % 32 := nat_mask v 31 (fun v => v % 32) hv (by decide) fun n _ => by
  rw [show n &&& 31 = _ from fld n 0 5]; simp only [Nat.pow_zero, Nat.div_one, Nat.mul_one]; omega
theorem m992 (v : Int) (hv : 0 ≤ v ∧ v < 65536) : bits .and .u16 v 992 = v / 32 % 32 * 32 := nat_mask v 992 (fun v => v / 32 % 32 * 32) hv (by decide) fun n _ => by
  rw [show n &&& 992 = _ from fld n 5 5]; simp only [show (2 : Nat) ^ 5 = 32 from rfl]; omega
theorem m1024 (v : Int) (hv : 0 ≤ v ∧ v < 65536) : bits .and .u16 v 1024 = v / 1024 % 2 * 1024 := nat_mask v 1024 (fun v => v / 1024 % 2 * 1024) hv (by decide) fun n _ => by
  rw [show n &&& 1024 = _ from fld n 10 1]; simp only [show (2 : Nat) ^ 10 = 1024 from rfl, Nat.pow_one]; omega
theorem m2048 (v : Int) (hv : 0 ≤ v ∧ v < 65536) : bits .and .u16 v 2048 = v / 2048 % 2 * 2048 := nat_mask v 2048 (fun v => v / 2048 % 2 * 2048) hv (by decide) fun n _ => by
  rw [show n &&& 2048 = _ from fld n 11 1]; simp only [show (2 : Nat) ^ 11 = 2048 from rfl, Nat.pow_one]; omega
theorem m4096 (v : Int) (hv : 0 ≤ v ∧ v < 65536) : bits .and .u16 v 4096 = v / 4096 % 2 * 4096 := nat_mask v 4096 (fun v => v / 4096 % 2 * 4096) hv (by decide) fun n _ => by
  rw [show n &&& 4096 = _ from fld n 12 1]; simp only [show (2 : Nat) ^ 12 = 4096 from rfl, Nat.pow_one]; omega
theorem m3072 (v : Int) (hv : 0 ≤ v ∧ v < 65536) : bits .and .u16 v 3072 = v / 1024 % 4 * 1024 := nat_mask v 3072 (fun v => v / 1024 % 4 * 1024) hv (by decide) fun n _ => by
  rw [show n &&& 3072 = _ from fld n 10 2]; simp only [show (2 : Nat) ^ 10 = 1024 from rfl, show (2 : Nat) ^ 2 = 4 from rfl]; omega
theorem m28672 (v : Int) (hv : 0 ≤ v ∧ v < 65536) : bits .and .u16 v 28672 = v / 4096 % 8 * 4096 := nat_mask v 28672 (fun v => v / 4096 % 8 * 4096) hv (by decide) fun n _ => by
  rw [show n &&& 28672 = _ from fld n 12 3]; simp only [show (2 : Nat) ^ 12 = 4096 from rfl, show (2 : Nat) ^ 3 = 8 from rfl]; omega
theorem m255 (v : Int) (hv : 0 ≤ v ∧ v < 65536) : bits .and .u16 v 255 = v % 256 := nat_mask v 255 (fun v => v % 256) hv (by decide) fun n _ => by
  rw [show n &&& 255 = _ from fld n 0 8]; simp only [Nat.pow_zero, Nat.div_one, Nat.mul_one, show (2 : Nat) ^ 8 = 256 from rfl]; omega
theorem m1023 (v : Int) (hv : 0 ≤ v ∧ v < 65536) : bits .and .u16 v 1023 = v % 1024 := nat_mask v 1023 (fun v => v % 1024) hv (by decide) fun n _ => by
  rw [show n &&& 1023 = _ from fld n 0 10]; simp only [Nat.pow_zero, Nat.div_one, Nat.mul_one, show (2 : Nat) ^ 10 = 1024 from rfl]; omega
theorem m2 (v : Int) (hv : 0 ≤ v ∧ v < 65536) : bits .and .u16 v 2 = v / 2 % 2 * 2 := nat_mask v 2 (fun v => v / 2 % 2 * 2) hv (by decide) fun n _ => by
  rw [show n &&& 2 = _ from fld n 1 1]; simp only [Nat.pow_one]; omega
theorem m3 (v : Int) (hv : 0 ≤ v ∧ v < 65536) : bits .and .u16 v 3 = v % 4 := nat_mask v 3 (fun v => v % 4) hv (by decide) fun n _ => by
  rw [show n &&& 3 = _ from fld n 0 2]; simp only [Nat.pow_zero, Nat.div_one, Nat.mul_one, show (2 : Nat) ^ 2 = 4 from rfl]; omega
theorem m4095 (v : Int) (hv : 0 ≤ v ∧ v < 65536) : bits .and .u16 v 4095 = v % 4096 := nat_mask v 4095 (fun v => v % 4096) hv (by decide) fun n _ => by
  rw [show n &&& 4095 = _ from fld n 0 12]; simp only [Nat.pow_zero, Nat.div_one, Nat.mul_one, show (2 : Nat) ^ 12 = 4096 from rfl]; omega
theorem m32767 (v : Int) (hv : 0 ≤ v ∧ v < 65536) : bits .and .u16 v 32767 = v % 32768 := nat_mask v 32767 (fun v => v % 32768) hv (by decide) fun n _ => by
  rw [show n &&& 32767 = _ from fld n 0 15]; simp only [Nat.pow_zero, Nat.div_one, Nat.mul_one, show (2 : Nat) ^ 15 = 32768 from rfl]; omega
theorem m32512 (v : Int) (hv : 0 ≤ v ∧ v < 65536) : bits .and .u16 v 32512 = v / 256 % 128 * 256 := nat_mask v 32512 (fun v => v / 256 % 128 * 256) hv (by decide) fun n _ => by
  rw [show n &&& 32512 = _ from fld n 8 7]; simp only [show (2 : Nat) ^ 8 = 256 from rfl, show (2 : Nat) ^ 7 = 128 from rfl]; omega
theorem m1055 (v : Int) (hv : 0 ≤ v ∧ v < 65536) : bits .and .u16 v 1055 = v % 32 + v / 1024 % 2 * 1024 := nat_mask v 1055 (fun v => v % 32 + v / 1024 % 2 * 1024) hv (by decide) fun n hn => by
  rw [show n &&& 1055 = _ from two n 31 1024 hn (by decide), show n &&& 31 = _ from fld n 0 5, show n &&& 1024 = _ from fld n 10 1]
  simp only [Nat.pow_zero, Nat.div_one, Nat.mul_one, show (2 : Nat) ^ 10 = 1024 from rfl, Nat.pow_one]; omega
theorem m31712 (v : Int) (hv : 0 ≤ v ∧ v < 65536) : bits .and .u16 v 31712 = v / 32 % 32 * 32 + v / 2048 % 16 * 2048 := nat_mask v 31712 (fun v => v / 32 % 32 * 32 + v / 2048 % 16 * 2048) hv (by decide) fun n hn => by
  rw [show n &&& 31712 = _ from two n 992 30720 hn (by decide), show n &&& 992 = _ from fld n 5 5, show n &&& 30720 = _ from fld n 11 4]
  simp only [show (2 : Nat) ^ 5 = 32 from rfl, show (2 : Nat) ^ 11 = 2048 from rfl, show (2 : Nat) ^ 4 = 16 from rfl]; omega
theorem b7 (b : Int) (h : 0 ≤ b ∧ b < 256) : bits .and .u8 b 7 = b % 8 := by
  have k : ∀ n : Fin 256, bits .and .u8 (n.val : Int) 7 = (n.val : Int) % 8 := by decide +kernel
  have := k ⟨b.toNat, by omega⟩; rwa [show ((⟨b.toNat, by omega⟩ : Fin 256).val : Int) = b from Int.toNat_of_nonneg h.1] at this
theorem b63 (b : Int) (h : 0 ≤ b ∧ b < 256) : bits .and .u8 b 63 = b % 64 := by
  have k : ∀ n : Fin 256, bits .and .u8 (n.val : Int) 63 = (n.val : Int) % 64 := by decide +kernel
  have := k ⟨b.toNat, by omega⟩; rwa [show ((⟨b.toNat, by omega⟩ : Fin 256).val : Int) = b from Int.toNat_of_nonneg h.1] at this
theorem b1 (b : Int) (h : 0 ≤ b ∧ b < 256) : bits .and .u8 b 1 = b % 2 := by
  have k : ∀ n : Fin 256, bits .and .u8 (n.val : Int) 1 = (n.val : Int) % 2 := by decide +kernel
  have := k ⟨b.toNat, by omega⟩; rwa [show ((⟨b.toNat, by omega⟩ : Fin 256).val : Int) = b from Int.toNat_of_nonneg h.1] at this
theorem b3 (b : Int) (h : 0 ≤ b ∧ b < 256) : bits .and .u8 b 3 = b % 4 := by
  have k : ∀ n : Fin 256, bits .and .u8 (n.val : Int) 3 = (n.val : Int) % 4 := by decide +kernel
  have := k ⟨b.toNat, by omega⟩; rwa [show ((⟨b.toNat, by omega⟩ : Fin 256).val : Int) = b from Int.toNat_of_nonneg h.1] at this

theorem ls_ext {a b : LS} (h0 : a.v = b.v) (h1 : a.t = b.t) (h2 : a.x = b.x) (h3 : a.w = b.w) : a = b := by
  cases a; cases b; simp only at *; subst_vars; rfl
/-- bounds of a scroll's numbers, and of one inside its registers -/
structure LOk (s : LS) : Prop where
  v : 0 ≤ s.v ∧ s.v < 65536
  t : 0 ≤ s.t ∧ s.t < 65536
  x : 0 ≤ s.x ∧ s.x < 256
structure LIn (s : LS) : Prop where
  v : 0 ≤ s.v ∧ s.v < 32768
  t : 0 ≤ s.t ∧ s.t < 32768
  x : 0 ≤ s.x ∧ s.x < 8
theorem LIn.ok {s : LS} (h : LIn s) : LOk s := by
  have := h.v
  have := h.t
  have := h.x
  exact ⟨by omega, by omega, by omega⟩
theorem insL_is {s : LS} (h : LOk s) : insL s = ⟨s.v % 32768, s.t % 32768, s.x % 8, s.w⟩ := by
  unfold insL; rw [m32767 _ h.v, m32767 _ h.t, b7 _ h.x]
theorem insL_in {s : LS} (h : LOk s) : LIn (insL s) := by
  rw [insL_is h]; exact ⟨by simp only; omega, by simp only; omega, by simp only; omega⟩
theorem insL_id {s : LS} (h : LIn s) : insL s = s := by
  rw [insL_is h.ok]
  have := h.v
  have := h.t
  have := h.x
  obtain ⟨v, t, x, w⟩ := s
  simp only at *
  rw [Int.emod_eq_of_lt (by omega) (by omega), Int.emod_eq_of_lt (by omega) (by omega), Int.emod_eq_of_lt (by omega) (by omega)]

/-- the methods, as numbers, of a scroll inside its registers -/
theorem conL_is {s : LS} (h : LIn s) (b : Int) (_hb : 0 ≤ b ∧ b < 256) : conL s b = { s with t := s.t - s.t / 1024 % 4 * 1024 + b % 4 * 1024 } := by
  have := h.t
  unfold conL
  rw [insL_id h, withL_is _ _ _ (by omega), wrap_u16_mod, wrap_u16_mod, m3072 _ (by omega), m3072 _ (by omega)]
  apply ls_ext <;> first | rfl | (simp only; omega)
theorem til_is (b : Int) (hb : 0 ≤ b ∧ b < 256) : til b = b / 8 := by unfold til; rw [wrap_u16_mod]; omega
theorem offL_t {s : LS} (h : LIn s) (b : Int) (hb : 0 ≤ b ∧ b < 256) (hw : s.w = true) : offL s b = { s with t := s.t - s.t / 32 % 32 * 32 + b / 8 * 32 - s.t / 4096 % 8 * 4096 + b % 8 * 4096, w := false } := by
  have := h.t
  unfold offL
  rw [insL_id h, if_pos hw, til_is b hb, withL_is _ 992 _ (by omega), wrap_u16_mod, wrap_u16_mod, m992 _ (by omega), m992 _ (by omega), withL_is _ _ _ (by omega), wrap_u16_mod, m28672 _ (by omega), m28672 _ (by omega)]
  apply ls_ext <;> first | rfl | (simp only; omega)
theorem offL_f {s : LS} (h : LIn s) (b : Int) (hb : 0 ≤ b ∧ b < 256) (hw : s.w = false) : offL s b = { s with t := s.t - s.t % 32 + b / 8, x := b % 8, w := true } := by
  have := h.t
  unfold offL
  rw [insL_id h, if_neg (by rw [hw]; decide), til_is b hb, withL_is _ _ _ (by omega), m31 _ (by omega), m31 _ (by omega), b7 _ hb]
  apply ls_ext <;> first | rfl | (simp only; omega)
theorem adrL_t {s : LS} (h : LIn s) (b : Int) (hb : 0 ≤ b ∧ b < 256) (hw : s.w = true) : adrL s b = { s with v := s.t / 256 * 256 + b, t := s.t / 256 * 256 + b, w := false } := by
  have := h.t
  unfold adrL
  rw [insL_id h, if_pos hw, withL_is _ _ _ (by omega), wrap_u16_mod, m255 _ (by omega), m255 _ (by omega)]
  rw [show s.t - s.t % 256 + b % 65536 % 256 = s.t / 256 * 256 + b by omega]
theorem adrL_f {s : LS} (h : LIn s) (b : Int) (hb : 0 ≤ b ∧ b < 256) (hw : s.w = false) : adrL s b = { s with t := s.t % 256 + b % 64 * 256, w := true } := by
  have := h.t
  unfold adrL
  rw [insL_id h, if_neg (by rw [hw]; decide), withL_is _ _ _ (by omega), wrap_u16_mod, wrap_u16_mod, b63 _ hb, m32512 _ (by omega), m32512 _ (by omega)]
  apply ls_ext <;> first | rfl | (simp only; omega)
theorem stepL_is {s : LS} (h : LIn s) (far : Bool) : stepL s far = { s with v := (s.v + (if far then 32 else 1)) % 32768 } := by
  have := h.v
  have := h.t
  have := h.x
  have e : 0 ≤ (if far = true then (32 : Int) else 1) ∧ (if far = true then (32 : Int) else 1) ≤ 32 := by split <;> omega
  unfold stepL
  generalize (if far = true then (32 : Int) else 1) = k at *
  rw [insL_is (s := { s with v := IntKind.u16.wrap (s.v + k) }) ⟨by simp only; rw [wrap_u16_mod]; omega, h.ok.t, h.ok.x⟩, wrap_u16_mod]
  simp only
  rw [Int.emod_eq_of_lt (a := s.t) (by omega) (by omega), Int.emod_eq_of_lt (a := s.x) (by omega) (by omega), Int.emod_eq_of_lt (a := s.v + k) (by omega) (by omega)]
theorem rigL_is {s : LS} (h : LIn s) : rigL s = { s with v := if s.v % 32 = 31 then s.v - 31 + 1024 - s.v / 1024 % 2 * 2048 else s.v + 1 } := by
  have := h.v
  unfold rigL
  rw [insL_id h, andNot_is _ _ (by omega), m31 _ (by omega), wrap_u16_mod, xor_is _ _ (by omega) (by decide), m1024 _ (by omega)]
  by_cases e : s.v % 32 = 31
  · rw [if_pos (by simpa using e), if_pos e]; apply ls_ext <;> first | rfl | (simp only; omega)
  · rw [if_neg (by simpa using e), if_neg e]; apply ls_ext <;> first | rfl | (simp only; omega)
theorem dowL_is {s : LS} (h : LIn s) : dowL s = { s with v := if s.v / 4096 = 7 then (if s.v / 32 % 32 = 29 then s.v - 28672 - 928 + 2048 - s.v / 2048 % 2 * 4096 else if s.v / 32 % 32 = 31 then s.v - 28672 - 992 else s.v - 28672 + 32) else s.v + 4096 } := by
  have := h.v
  unfold dowL dowV
  rw [insL_id h, andNot_is _ _ (by omega), m28672 _ (by omega), wrap_u16_mod, wrap_u16_mod]
  by_cases e : s.v / 4096 = 7
  · rw [if_pos (by rw [beq_iff_eq]; omega), if_pos e]
    rw [show s.v - s.v / 4096 % 8 * 4096 = s.v - 28672 by omega, andNot_is _ _ (by omega), m992 _ (by omega), xor_is _ _ (by omega) (by decide), m2048 _ (by omega)]
    by_cases f : s.v / 32 % 32 = 29
    · rw [if_pos (by rw [beq_iff_eq]; omega), if_pos f]; apply ls_ext <;> first | rfl | (simp only; omega)
    · rw [if_neg (by rw [beq_iff_eq]; omega), if_neg f]
      by_cases g : s.v / 32 % 32 = 31
      · rw [if_pos (by rw [beq_iff_eq]; omega), if_pos g]; apply ls_ext <;> first | rfl | (simp only; omega)
      · rw [if_neg (by rw [beq_iff_eq]; omega), if_neg g]; apply ls_ext <;> first | rfl | (simp only; omega)
  · rw [if_neg (by rw [beq_iff_eq]; omega), if_neg e]; apply ls_ext <;> first | rfl | (simp only; omega)
theorem linL_is {s : LS} (h : LIn s) : linL s = { s with v := s.v - s.v % 32 - s.v / 1024 % 2 * 1024 + s.t % 32 + s.t / 1024 % 2 * 1024 } := by
  have := h.v
  have := h.t
  unfold linL
  rw [insL_id h, withL_is _ _ _ (by omega), m1055 _ (by omega), m1055 _ (by omega)]
  apply ls_ext <;> first | rfl | (simp only; omega)
theorem topL_is {s : LS} (h : LIn s) : topL s = { s with v := s.v - s.v / 32 % 32 * 32 - s.v / 2048 % 16 * 2048 + s.t / 32 % 32 * 32 + s.t / 2048 % 16 * 2048 } := by
  have := h.v
  have := h.t
  unfold topL
  rw [insL_id h, withL_is _ _ _ (by omega), m31712 _ (by omega), m31712 _ (by omega)]
  apply ls_ext <;> first | rfl | (simp only; omega)
theorem lookL_is {s : LS} (h : LOk s) : lookL s = ⟨s.v % 32768, s.t % 32768, s.x % 8, false⟩ := by unfold lookL; rw [insL_is h]

end Go.Proofs.Ythldppdkheclkaa
