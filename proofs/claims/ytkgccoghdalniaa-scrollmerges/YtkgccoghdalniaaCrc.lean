/- The two sums, bit by bit, on Nat: linear, and what follows of it. Plain mathematics, no law is claimed here. -/
import Derived.Test.YtkgccoghdalniaaBits
namespace Go.Proofs.Ytkgccoghdalniaa

/-! ### CRC-16 -/
def sbit (s x : Nat) : Nat := (s / 2 + x * 32768) ^^^ (if s % 2 = 1 then 33800 else 0)
def stepK : Nat → Nat → Nat → Nat
  | 0, s, _ => s
  | k + 1, s, b => stepK k (sbit s (b % 2)) (b / 2)
def stepN (s b : Nat) : Nat := stepK 8 s b

theorem sbit_lt (s x : Nat) (hs : s < 65536) (hx : x < 2) : sbit s x < 65536 := by
  unfold sbit
  have h1 : s / 2 + x * 32768 < 2 ^ 16 := by have : x * 32768 ≤ 32768 := by omega
                                             omega
  refine Nat.xor_lt_two_pow (n := 16) h1 ?_
  split <;> omega
theorem stepK_lt (k : Nat) : ∀ s b, s < 65536 → stepK k s b < 65536 := by
  induction k with
  | zero => intro s b h; exact h
  | succ k ih => intro s b h; exact ih _ _ (sbit_lt _ _ h (Nat.mod_lt _ (by decide)))
theorem stepN_lt (s b : Nat) (h : s < 65536) : stepN s b < 65536 := stepK_lt 8 s b h

/-- the round of seal.Step, as the walk writes it -/
theorem sbit_walk (s b : Nat) (hs : s < 65536) (hb : b < 256) :
    bits .xor .u16 (bits .or .u16 ((s : Int) / 2) (IntKind.u16.wrap (IntKind.u16.wrap (bits .and .u8 (b : Int) 1) * 32768))) (bits .and .u16 33800 (IntKind.u16.wrap (-bits .and .u16 (s : Int) 1))) = (sbit s (b % 2) : Int) := by
  have e1 : bits .and .u8 (b : Int) 1 = ((b % 2 : Nat) : Int) := by
    have := and_u8 b 1 hb (by decide); rw [Nat.and_one_is_mod] at this; exact this
  have e2 : bits .and .u16 (s : Int) 1 = ((s % 2 : Nat) : Int) := by
    have := and_u16 s 1 hs (by decide); rw [Nat.and_one_is_mod] at this; exact this
  have hb2 : b % 2 < 2 := Nat.mod_lt _ (by decide)
  have e3 : IntKind.u16.wrap (IntKind.u16.wrap ((b % 2 : Nat) : Int) * 32768) = ((b % 2 * 32768 : Nat) : Int) := by
    rw [wrap_u16_mod, wrap_u16_mod]; omega
  have e4 : bits .or .u16 ((s : Int) / 2) ((b % 2 * 32768 : Nat) : Int) = ((s / 2 + b % 2 * 32768 : Nat) : Int) := by
    have := or_u16 (s / 2) (b % 2 * 32768) (by omega) (by omega)
    rw [show ((s : Int) / 2) = ((s / 2 : Nat) : Int) from by omega, this, add_or _ _ 15 (by omega)]
  rw [e1, e2, e3, e4]
  have e5 : bits .and .u16 33800 (IntKind.u16.wrap (-((s % 2 : Nat) : Int))) = ((if s % 2 = 1 then 33800 else 0 : Nat) : Int) := by
    rcases (by omega : s % 2 = 0 ∨ s % 2 = 1) with h | h
    · rw [h]; rfl
    · rw [h]; rfl
  rw [e5]
  have := xor_u16 (s / 2 + b % 2 * 32768) (if s % 2 = 1 then 33800 else 0) (by omega) (by split <;> omega)
  rw [this]
  rfl

theorem xor_mod2 (a b : Nat) : (a ^^^ b) % 2 = (a % 2 + b % 2) % 2 := by
  have h1 : (a ^^^ b) % 2 = a % 2 ^^^ b % 2 := Nat.xor_mod_two_pow (n := 1)
  rw [h1]
  rcases (by omega : a % 2 = 0 ∨ a % 2 = 1) with h | h <;> rcases (by omega : b % 2 = 0 ∨ b % 2 = 1) with h' | h' <;> rw [h, h'] <;> rfl
theorem xor_div2 (a b : Nat) : (a ^^^ b) / 2 = a / 2 ^^^ b / 2 := by
  apply Nat.eq_of_testBit_eq
  intro i
  rw [← Nat.testBit_succ, Nat.testBit_xor, Nat.testBit_xor, Nat.testBit_succ, Nat.testBit_succ]

/-- linear: two registers, two bits -/
theorem sbit_xor (s t x y : Nat) (hs : s < 65536) (ht : t < 65536) (hx : x < 2) (hy : y < 2) : sbit (s ^^^ t) (x ^^^ y) = sbit s x ^^^ sbit t y := by
  unfold sbit
  have key : ∀ u z : Nat, u < 65536 → z < 2 → u / 2 + z * 32768 = (u / 2) ^^^ (z * 32768) := by
    intro u z hu hz
    have h1 : u / 2 < 2 ^ 15 := by omega
    have e := Nat.two_pow_add_eq_or_of_lt h1 z
    have : (u / 2) ^^^ (z * 32768) = (u / 2) ||| (z * 32768) := by
      apply Nat.eq_of_testBit_eq
      intro i
      rw [Nat.testBit_xor, Nat.testBit_or]
      by_cases hi : i < 15
      · have : (z * 32768).testBit i = false := by
          rw [show z * 32768 = 2 ^ 15 * z from by omega, Nat.testBit_two_pow_mul]; simp; omega
        rw [this]; simp
      · have : (u / 2).testBit i = false := Nat.testBit_lt_two_pow (Nat.lt_of_lt_of_le h1 (Nat.pow_le_pow_right (by decide) (by omega)))
        rw [this]; simp
    rw [this, add_or _ _ 15 h1]
  have hst : s ^^^ t < 65536 := Nat.xor_lt_two_pow (n := 16) hs ht
  have hxy : x ^^^ y < 2 := Nat.xor_lt_two_pow (n := 1) hx hy
  rw [key _ _ hst hxy, key _ _ hs hx, key _ _ ht hy, xor_div2]
  have e1 : (x ^^^ y) * 32768 = x * 32768 ^^^ y * 32768 := by
    rcases (by omega : x = 0 ∨ x = 1) with rfl | rfl <;> rcases (by omega : y = 0 ∨ y = 1) with rfl | rfl <;> rfl
  have e2 : (if (s ^^^ t) % 2 = 1 then 33800 else 0) = (if s % 2 = 1 then 33800 else 0) ^^^ (if t % 2 = 1 then 33800 else 0) := by
    rw [xor_mod2]
    rcases (by omega : s % 2 = 0 ∨ s % 2 = 1) with h | h <;> rcases (by omega : t % 2 = 0 ∨ t % 2 = 1) with h' | h' <;> rw [h, h'] <;> rfl
  rw [e1, e2]
  generalize (if s % 2 = 1 then 33800 else 0) = A
  generalize (if t % 2 = 1 then 33800 else 0) = B
  ac_rfl

theorem stepK_xor (k : Nat) : ∀ s t b c, s < 65536 → t < 65536 → stepK k (s ^^^ t) (b ^^^ c) = stepK k s b ^^^ stepK k t c := by
  induction k with
  | zero => intro s t b c _ _; rfl
  | succ k ih =>
    intro s t b c hs ht
    show stepK k (sbit (s ^^^ t) ((b ^^^ c) % 2)) ((b ^^^ c) / 2) = _
    have e : (b ^^^ c) % 2 = (b % 2) ^^^ (c % 2) := by
      rw [xor_mod2]
      rcases (by omega : b % 2 = 0 ∨ b % 2 = 1) with h | h <;> rcases (by omega : c % 2 = 0 ∨ c % 2 = 1) with h' | h' <;> rw [h, h'] <;> rfl
    rw [e, sbit_xor _ _ _ _ hs ht (Nat.mod_lt _ (by decide)) (Nat.mod_lt _ (by decide)), xor_div2]
    exact ih _ _ _ _ (sbit_lt _ _ hs (Nat.mod_lt _ (by decide))) (sbit_lt _ _ ht (Nat.mod_lt _ (by decide)))

theorem stepN_xor (s t b c : Nat) (hs : s < 65536) (ht : t < 65536) : stepN (s ^^^ t) (b ^^^ c) = stepN s b ^^^ stepN t c := stepK_xor 8 s t b c hs ht

/-- into an empty register bits are laid as they are: k bits stand at its top -/
theorem stepK_zero (k : Nat) : ∀ j s b, j + k ≤ 16 → s < 2 ^ j → b < 2 ^ k → stepK k (s * 2 ^ (16 - j)) b = (s + b * 2 ^ j) * 2 ^ (16 - j - k) := by
  induction k with
  | zero => intro j s b h hs hb; have : b = 0 := by simpa using hb
            subst this; simp [stepK]
  | succ k ih =>
    intro j s b h hs hb
    show stepK k (sbit (s * 2 ^ (16 - j)) (b % 2)) (b / 2) = _
    have ej : 16 - j = (16 - j - 1) + 1 := by omega
    have h0 : s * 2 ^ (16 - j) % 2 = 0 := by rw [ej, Nat.pow_succ, ← Nat.mul_assoc]; exact Nat.mul_mod_left _ _
    have h1 : s * 2 ^ (16 - j) / 2 = s * 2 ^ (16 - j - 1) := by rw [ej, Nat.pow_succ, ← Nat.mul_assoc]; simp
    have h2 : sbit (s * 2 ^ (16 - j)) (b % 2) = (s + (b % 2) * 2 ^ j) * 2 ^ (16 - (j + 1)) := by
      unfold sbit
      rw [h0, h1]
      simp only [Nat.zero_ne_one, if_false, Nat.xor_zero, Nat.add_mul]
      have : 2 ^ j * 2 ^ (16 - (j + 1)) = 32768 := by rw [← Nat.pow_add, show j + (16 - (j + 1)) = 15 from by omega]
      rw [Nat.mul_assoc, this, Nat.sub_sub]
    rw [h2]
    have hb2 : b % 2 < 2 := Nat.mod_lt _ (by decide)
    have h3 : s + b % 2 * 2 ^ j < 2 ^ (j + 1) := by
      rw [Nat.pow_succ]
      have : b % 2 * 2 ^ j ≤ 1 * 2 ^ j := Nat.mul_le_mul_right _ (by omega)
      omega
    rw [ih (j + 1) _ (b / 2) (by omega) h3 (by rw [Nat.pow_succ] at hb; omega)]
    congr 1
    · rw [Nat.pow_succ, Nat.add_assoc]
      congr 1
      have : b = b % 2 + b / 2 * 2 := by omega
      conv => rhs; rw [this]
      rw [Nat.add_mul, Nat.mul_assoc, Nat.mul_comm 2 (2 ^ j)]
    · congr 1; omega

/-- a sum behind its bytes leaves 0 -/
theorem short_zero (s t : Nat) (hs : s < 65536) (ht : t = stepN (stepN s 0) 0) : stepN (stepN s (t % 256)) (t / 256) = 0 := by
  have htl : t < 65536 := by rw [ht]; exact stepN_lt _ _ (stepN_lt _ _ hs)
  have e0 : stepN 0 (t % 256) = t % 256 * 256 := by
    have := stepK_zero 8 0 0 (t % 256) (by decide) (by decide) (by omega)
    simpa [stepN] using this
  have e1 : stepN (t % 256 * 256) (t / 256) = t := by
    have := stepK_zero 8 8 (t % 256) (t / 256) (by decide) (by omega) (by omega)
    simp only [stepN] at this ⊢
    rw [show 2 ^ (16 - 8) = 256 from rfl] at this
    rw [this]
    simp
    omega
  have a1 : stepN s (t % 256) = stepN s 0 ^^^ stepN 0 (t % 256) := by
    have := stepN_xor s 0 0 (t % 256) hs (by decide)
    simpa using this
  rw [a1, e0]
  have a2 := stepN_xor (stepN s 0) (t % 256 * 256) 0 (t / 256) (stepN_lt _ _ hs) (by omega)
  rw [Nat.zero_xor] at a2
  rw [a2, e1, ← ht, Nat.xor_self]

/-- Short of bytes, before the two noughts -/
def shortF (s : Nat) (xs : List UInt8) : Nat := xs.foldl (fun r x => stepN r x.toNat) s
theorem shortF_lt (xs : List UInt8) : ∀ s, s < 65536 → shortF s xs < 65536 := by
  induction xs with
  | nil => intro s h; exact h
  | cons x xs ih => intro s h; exact ih _ (stepN_lt _ _ h)
def shortN (xs : List UInt8) : Nat := stepN (stepN (shortF 32768 xs) 0) 0
theorem shortN_lt (xs : List UInt8) : shortN xs < 65536 := stepN_lt _ _ (stepN_lt _ _ (shortF_lt _ _ (by decide)))
theorem shortF_snoc (s : Nat) (xs : List UInt8) (x : UInt8) : shortF s (xs ++ [x]) = stepN (shortF s xs) x.toNat := by simp [shortF]

/-! ### CRC-32 -/
def lbit (s x : Nat) : Nat := (s / 2) ^^^ (if (s + x) % 2 = 1 then 3988292384 else 0)
theorem lbit_lt (s x : Nat) (hs : s < 4294967296) : lbit s x < 4294967296 := by
  unfold lbit
  refine Nat.xor_lt_two_pow (n := 32) (by omega) ?_
  split <;> omega
def lbyteK : Nat → Nat → Nat → Nat
  | 0, s, _ => s
  | k + 1, s, b => lbyteK k (lbit s (b % 2)) (b / 2)
def lbyte (s b : Nat) : Nat := lbyteK 8 s b
theorem lbyteK_lt (k : Nat) : ∀ s b, s < 4294967296 → lbyteK k s b < 4294967296 := by
  induction k with
  | zero => intro s b h; exact h
  | succ k ih => intro s b h; exact ih _ _ (lbit_lt _ _ h)
theorem lbyte_lt (s b : Nat) (h : s < 4294967296) : lbyte s b < 4294967296 := lbyteK_lt 8 s b h
def rollN (s : Nat) (xs : List UInt8) : Nat := xs.foldl (fun r x => lbyte r x.toNat) s
theorem rollN_lt (xs : List UInt8) : ∀ s, s < 4294967296 → rollN s xs < 4294967296 := by
  induction xs with
  | nil => intro s h; exact h
  | cons x xs ih => intro s h; exact ih _ (lbyte_lt _ _ h)
theorem rollN_snoc (s : Nat) (xs : List UInt8) (x : UInt8) : rollN s (xs ++ [x]) = lbyte (rollN s xs) x.toNat := by simp [rollN]
theorem rollN_append (s : Nat) (xs ys : List UInt8) : rollN s (xs ++ ys) = rollN (rollN s xs) ys := by simp [rollN]
def longN (xs : List UInt8) : Nat := 4294967295 - rollN 4294967295 xs
theorem longN_lt (xs : List UInt8) : longN xs < 4294967296 := by unfold longN; omega

/-- the inner round of rollLong, as the walk writes it: the register with the byte laid in -/
def lmix (s : Nat) : Nat := (s / 2) ^^^ (if s % 2 = 1 then 3988292384 else 0)
theorem lmix_lt (s : Nat) (hs : s < 4294967296) : lmix s < 4294967296 := lbit_lt s 0 hs
theorem lmix_walk (s : Nat) (hs : s < 4294967296) :
    bits .xor .u32 ((s : Int) / 2) (bits .and .u32 3988292384 (-bits .and .u32 (s : Int) 1 % 4294967296)) = (lmix s : Int) := by
  have e2 : bits .and .u32 (s : Int) 1 = ((s % 2 : Nat) : Int) := by
    have := and_u32 s 1 hs (by decide); rw [Nat.and_one_is_mod] at this; exact this
  rw [e2]
  have e5 : bits .and .u32 3988292384 (-((s % 2 : Nat) : Int) % 4294967296) = ((if s % 2 = 1 then 3988292384 else 0 : Nat) : Int) := by
    rcases (by omega : s % 2 = 0 ∨ s % 2 = 1) with h | h
    · rw [h]; rfl
    · rw [h]; rfl
  rw [e5]
  have := xor_u32 (s / 2) (if s % 2 = 1 then 3988292384 else 0) (by omega) (by split <;> omega)
  rw [show ((s : Int) / 2) = ((s / 2 : Nat) : Int) from by omega, this]
  rfl
def lmixK : Nat → Nat → Nat
  | 0, s => s
  | k + 1, s => lmixK k (lmix s)
theorem lmix_bit (r b : Nat) : lmix (r ^^^ b) = lbit r (b % 2) ^^^ (b / 2) := by
  unfold lmix lbit
  rw [xor_div2, xor_mod2, show (r + b % 2) % 2 = (r % 2 + b % 2) % 2 from by omega]
  ac_rfl
theorem lmixK_byte (k : Nat) : ∀ r b, lmixK k (r ^^^ b) = lbyteK k r b ^^^ (b / 2 ^ k) := by
  induction k with
  | zero => intro r b; simp [lmixK, lbyteK]
  | succ k ih =>
    intro r b
    show lmixK k (lmix (r ^^^ b)) = lbyteK k (lbit r (b % 2)) (b / 2) ^^^ _
    rw [lmix_bit, ih, Nat.pow_succ, Nat.mul_comm, Nat.div_div_eq_div_mul]
theorem lmix_byte (r b : Nat) (hb : b < 256) : lmixK 8 (r ^^^ b) = lbyte r b := by
  rw [lmixK_byte]
  have : b / 2 ^ 8 = 0 := Nat.div_eq_of_lt (by omega)
  rw [this, Nat.xor_zero]; rfl

/-- bits of bytes, the lowest of each first -/
def bitsK : Nat → Nat → List Nat
  | 0, _ => []
  | k + 1, b => b % 2 :: bitsK k (b / 2)
def bitsN (xs : List UInt8) : List Nat := xs.flatMap fun x => bitsK 8 x.toNat
theorem bitsK_len (k : Nat) : ∀ b, (bitsK k b).length = k := by
  induction k with
  | zero => intro b; rfl
  | succ k ih => intro b; simp [bitsK, ih]
theorem lbyteK_bits (k : Nat) : ∀ s b, lbyteK k s b = (bitsK k b).foldl lbit s := by
  induction k with
  | zero => intro s b; rfl
  | succ k ih => intro s b; simp [bitsK, lbyteK, ih]
theorem rollN_bits (xs : List UInt8) : ∀ s, rollN s xs = (bitsN xs).foldl lbit s := by
  induction xs with
  | nil => intro s; rfl
  | cons x xs ih =>
    intro s
    show rollN (lbyte s x.toNat) xs = _
    rw [ih]
    simp [bitsN, lbyte, lbyteK_bits]
theorem stepK_bits (k : Nat) : ∀ s b, stepK k s b = (bitsK k b).foldl sbit s := by
  induction k with
  | zero => intro s b; rfl
  | succ k ih => intro s b; simp [bitsK, stepK, ih]

end Go.Proofs.Ytkgccoghdalniaa
