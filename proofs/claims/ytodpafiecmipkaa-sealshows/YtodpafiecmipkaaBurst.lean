/- A burst of at most 32 turned bits is told by CRC-32. Plain mathematics, no law is claimed here. -/
import Derived.Test.YtodpafiecmipkaaNextM
namespace Go.Proofs.Ytodpafiecmipkaa

theorem lbit_xor (a b x y : Nat) (_hx : x ≤ 1) (_hy : y ≤ 1) : lbit (a ^^^ b) (x ^^^ y) = lbit a x ^^^ lbit b y := by
  unfold lbit
  rw [xor_div2]
  have e : (if ((a ^^^ b) + (x ^^^ y)) % 2 = 1 then 3988292384 else 0) = (if (a + x) % 2 = 1 then 3988292384 else 0) ^^^ (if (b + y) % 2 = 1 then 3988292384 else 0) := by
    have h1 : ((a ^^^ b) + (x ^^^ y)) % 2 = ((a + x) % 2 + (b + y) % 2) % 2 := by
      rw [Nat.add_mod, xor_mod2]
      have : (x ^^^ y) % 2 = (x + y) % 2 := by rw [xor_mod2]; omega
      omega
    rw [h1]
    rcases (by omega : (a + x) % 2 = 0 ∨ (a + x) % 2 = 1) with h | h <;> rcases (by omega : (b + y) % 2 = 0 ∨ (b + y) % 2 = 1) with h' | h' <;> rw [h, h'] <;> rfl
  rw [e]
  ac_rfl

def xorL (u v : List Nat) : List Nat := List.zipWith (· ^^^ ·) u v
theorem fold_xor (u : List Nat) : ∀ v a b, u.length = v.length → (∀ x ∈ u, x ≤ 1) → (∀ x ∈ v, x ≤ 1) → (xorL u v).foldl lbit (a ^^^ b) = u.foldl lbit a ^^^ v.foldl lbit b := by
  induction u with
  | nil => intro v a b h _ _; cases v with
    | nil => rfl
    | cons y v => simp at h
  | cons x u ih => intro v a b h hu hv; cases v with
    | nil => simp at h
    | cons y v =>
      show (xorL u v).foldl lbit (lbit (a ^^^ b) (x ^^^ y)) = _
      rw [lbit_xor a b x y (hu x (by simp)) (hv y (by simp))]
      exact ih v _ _ (by simpa using h) (fun z hz => hu z (by simp [hz])) (fun z hz => hv z (by simp [hz]))

/-- the bits' number, the first the lowest -/
def valL : List Nat → Nat
  | [] => 0
  | x :: r => x + 2 * valL r
theorem valL_lt (es : List Nat) (h : ∀ x ∈ es, x ≤ 1) : valL es < 2 ^ es.length := by
  induction es with
  | nil => simp [valL]
  | cons x r ih =>
    have h1 := h x (by simp)
    have h2 := ih (fun y hy => h y (by simp [hy]))
    simp only [valL, List.length_cons, Nat.pow_succ]
    omega

/-- one step back: the top bit tells what was fed -/
theorem lbit_back (d e v : Nat) (hd : d < 4294967296) (he : e ≤ 1) (hv : v < 2147483648) (h : lbit d e = v) : d = e + 2 * v := by
  unfold lbit at h
  rcases (by omega : (d + e) % 2 = 0 ∨ (d + e) % 2 = 1) with h1 | h1
  · rw [h1] at h
    simp at h
    omega
  · rw [h1, if_pos rfl] at h
    exfalso
    have hb : (d / 2 ^^^ 3988292384).testBit 31 = true := by
      rw [Nat.testBit_xor]
      have : (d / 2).testBit 31 = false := Nat.testBit_lt_two_pow (by omega)
      rw [this]
      decide
    rw [h] at hb
    have : v.testBit 31 = false := Nat.testBit_lt_two_pow (by omega)
    rw [this] at hb
    cases hb
theorem fold_back (es : List Nat) : ∀ d, d < 4294967296 → es.length ≤ 32 → (∀ x ∈ es, x ≤ 1) → es.foldl lbit d = 0 → d = valL es := by
  induction es with
  | nil => intro d _ _ _ h; exact h
  | cons e r ih =>
    intro d hd hl hx h
    have hr : ∀ x ∈ r, x ≤ 1 := fun y hy => hx y (by simp [hy])
    have h1 := ih (lbit d e) (lbit_lt _ _ hd) (by simp at hl; omega) hr h
    have h2 := valL_lt r hr
    have h3 : 2 ^ r.length ≤ 2 ^ 31 := Nat.pow_le_pow_right (by decide) (by simp at hl; omega)
    have h4 : (2 : Nat) ^ 31 = 2147483648 := by decide
    exact lbit_back d e _ hd (hx e (by simp)) (by omega) h1
theorem fold_zeros (k : Nat) : (List.replicate k 0).foldl lbit 0 = 0 := by
  induction k with
  | zero => rfl
  | succ k ih => simpa [List.replicate_succ, lbit] using ih
theorem fold_zeros_back (k : Nat) : ∀ d, d < 4294967296 → (List.replicate k 0).foldl lbit d = 0 → d = 0 := by
  induction k with
  | zero => intro d _ h; exact h
  | succ k ih =>
    intro d hd h
    have h1 := ih (lbit d 0) (lbit_lt _ _ hd) (by simpa [List.replicate_succ] using h)
    have := lbit_back d 0 0 hd (by omega) (by omega) h1
    omega
theorem valL_zero (es : List Nat) (h : valL es = 0) : ∀ x ∈ es, x = 0 := by
  induction es with
  | nil => simp
  | cons x r ih =>
    simp only [valL] at h
    intro y hy
    simp at hy
    rcases hy with rfl | hy
    · omega
    · exact ih (by omega) y hy

theorem fold_lt (es : List Nat) : ∀ d, d < 4294967296 → es.foldl lbit d < 4294967296 := by
  induction es with
  | nil => intro d h; exact h
  | cons e r ih => intro d h; exact ih _ (lbit_lt _ _ h)

/-- two rows of bits that are alike but for a window of 32, with one sum, are alike -/
theorem burst (u v : List Nat) (a r : Nat) (hl : u.length = v.length) (hu : ∀ x ∈ u, x ≤ 1) (hv : ∀ x ∈ v, x ≤ 1) (hw : ∀ i, i < a ∨ a + 32 ≤ i → u[i]? = v[i]?)
    (h : u.foldl lbit r = v.foldl lbit r) : u = v := by
  have h1 := fold_xor u v r r hl hu hv
  rw [h, Nat.xor_self, Nat.xor_self] at h1
  have hlen : (xorL u v).length = u.length := by simp [xorL, hl]
  have hget : ∀ i, i < u.length → (xorL u v)[i]? = some (u[i]?.getD 0 ^^^ v[i]?.getD 0) := by
    intro i hi
    simp [xorL, List.getElem?_zipWith, hi, show i < v.length from by omega]
  have hbit : ∀ x ∈ xorL u v, x ≤ 1 := by
    intro x hx
    obtain ⟨i, hi, rfl⟩ := List.getElem_of_mem hx
    have hi' : i < u.length := by omega
    have := hget i hi'
    rw [List.getElem?_eq_getElem hi] at this
    simp [hi', show i < v.length from by omega] at this
    rw [this]
    have h3 := hu u[i] (List.getElem_mem hi')
    have h4 := hv v[i] (List.getElem_mem (by omega))
    have := Nat.xor_lt_two_pow (n := 1) (x := u[i]) (y := v[i]) (by omega) (by omega)
    omega
  have hz : ∀ i, i < u.length → (i < a ∨ a + 32 ≤ i) → (xorL u v)[i]? = some 0 := by
    intro i hi hw'
    rw [hget i hi, hw i hw']
    simp
  have key : ∀ x ∈ xorL u v, x = 0 := by
    generalize hE : xorL u v = E at *
    have hsplit : E = E.take a ++ ((E.drop a).take 32 ++ E.drop (a + 32)) := by
      rw [← List.drop_drop, List.take_append_drop, List.take_append_drop]
    have hA : E.take a = List.replicate (E.take a).length 0 := by
      apply List.eq_replicate_of_mem
      intro x hx
      obtain ⟨i, hi, rfl⟩ := List.getElem_of_mem hx
      have hi' : i < E.length ∧ i < a := by simp at hi; omega
      have := hz i (by omega) (Or.inl hi'.2)
      rw [List.getElem?_eq_getElem hi'.1] at this
      simpa using this
    have hC : E.drop (a + 32) = List.replicate (E.drop (a + 32)).length 0 := by
      apply List.eq_replicate_of_mem
      intro x hx
      obtain ⟨i, hi, rfl⟩ := List.getElem_of_mem hx
      have hi' : a + 32 + i < E.length := by simp at hi; omega
      have := hz (a + 32 + i) (by omega) (Or.inr (by omega))
      rw [List.getElem?_eq_getElem hi'] at this
      simpa using this
    rw [hsplit, List.foldl_append, List.foldl_append, hA, fold_zeros, hC] at h1
    have h2 := fold_zeros_back _ _ (fold_lt _ _ (by decide)) h1
    have hb : ∀ x ∈ (E.drop a).take 32, x ≤ 1 := fun x hx => hbit x (List.mem_of_mem_drop (List.mem_of_mem_take hx))
    have h3 := fold_back _ 0 (by decide) (by simp; omega) hb h2
    have hB := valL_zero _ h3.symm
    intro x hx
    rw [hsplit] at hx
    simp only [List.mem_append] at hx
    rcases hx with hx | hx | hx
    · rw [hA] at hx; exact List.eq_of_mem_replicate hx
    · exact hB x hx
    · rw [hC] at hx; exact List.eq_of_mem_replicate hx
  apply List.ext_getElem hl
  intro i hi hi2
  have h3 := hget i hi
  have hi3 : i < (xorL u v).length := by omega
  rw [List.getElem?_eq_getElem hi3, List.getElem?_eq_getElem hi, List.getElem?_eq_getElem hi2] at h3
  have h4 := key _ (List.getElem_mem hi3)
  simp at h3
  rw [h4] at h3
  have h5 := congrArg (· ^^^ v[i]) h3
  simp [Nat.xor_assoc] at h5
  exact h5.symm

/-- bit i of bytes -/
def bitAt (xs : List UInt8) (i : Nat) : Nat := (xs[i / 8]?.getD 0).toNat / 2 ^ (i % 8) % 2
theorem bitsK_get (k : Nat) : ∀ b i, i < k → (bitsK k b)[i]? = some (b / 2 ^ i % 2) := by
  induction k with
  | zero => intro b i h; omega
  | succ k ih =>
    intro b i h
    cases i with
    | zero => simp [bitsK]
    | succ i =>
      simp only [bitsK, List.getElem?_cons_succ]
      rw [ih _ _ (by omega), Nat.div_div_eq_div_mul, Nat.pow_succ, Nat.mul_comm]
theorem bitsN_len (xs : List UInt8) : (bitsN xs).length = 8 * xs.length := by
  have := bitsI_len xs
  simpa [bitsI] using this
theorem bitsN_get (xs : List UInt8) : ∀ i, i < 8 * xs.length → (bitsN xs)[i]? = some (bitAt xs i) := by
  induction xs with
  | nil => intro i h; simp at h
  | cons x xs ih =>
    intro i h
    have e : bitsN (x :: xs) = bitsK 8 x.toNat ++ bitsN xs := by simp [bitsN]
    rw [e]
    have hl := bitsK_len 8 x.toNat
    by_cases hi : i < 8
    · rw [List.getElem?_append_left (by omega), bitsK_get 8 _ _ hi]
      simp [bitAt, show i / 8 = 0 from by omega, show i % 8 = i from by omega]
    · rw [List.getElem?_append_right (by omega), hl, ih (i - 8) (by simp at h; omega)]
      have h1 : i / 8 = (i - 8) / 8 + 1 := by omega
      have h2 : i % 8 = (i - 8) % 8 := by omega
      simp [bitAt, h1, h2]
theorem bytes_ext (xs ys : List UInt8) (hl : xs.length = ys.length) (h : ∀ i, i < 8 * xs.length → bitAt xs i = bitAt ys i) : xs = ys := by
  apply List.ext_getElem hl
  intro j h1 h2
  apply UInt8.toNat_inj.1
  apply Nat.eq_of_testBit_eq
  intro b
  by_cases hb : b < 8
  · have := h (8 * j + b) (by omega)
    simp only [bitAt, show (8 * j + b) / 8 = j from by omega, show (8 * j + b) % 8 = b from by omega, List.getElem?_eq_getElem h1, List.getElem?_eq_getElem h2, Option.getD_some] at this
    rw [Nat.testBit_eq_decide_div_mod_eq, Nat.testBit_eq_decide_div_mod_eq, this]
  · have hp : (256 : Nat) ≤ 2 ^ b := by
      have : 2 ^ 8 ≤ 2 ^ b := Nat.pow_le_pow_right (by decide) (by omega)
      simpa using this
    rw [Nat.testBit_lt_two_pow (Nat.lt_of_lt_of_le (xs[j]).toNat_lt hp), Nat.testBit_lt_two_pow (Nat.lt_of_lt_of_le (ys[j]).toNat_lt hp)]

/-- alike but for a window of k bits from a on -/
def Near (F G : List UInt8) (a k : Nat) : Prop := G.length = F.length ∧ G.take 8 = F.take 8 ∧ ∀ i, i < a ∨ a + k ≤ i → bitAt (G.drop 8) i = bitAt (F.drop 8) i
theorem near_refl (F : List UInt8) (a : Nat) : Near F F a 0 := ⟨rfl, rfl, fun _ _ => rfl⟩
theorem Near.more {F G : List UInt8} {a k : Nat} (h : Near F G a k) : Near F G a (k + 1) := ⟨h.1, h.2.1, fun i hi => h.2.2 i (by omega)⟩

theorem near_sum (xs G : List UInt8) (a : Nat) (h : Near (frameN xs) G a 32) (hx : xs.length ≤ 16777216) : (G = frameN xs ∧ nextE G = 0) ∨ (G ≠ frameN xs ∧ nextE G = 3) := by
  obtain ⟨p1, p2, p3⟩ := frame_parts xs []
  rw [List.append_nil] at p1 p2 p3
  rw [List.append_nil] at p3
  obtain ⟨h1, h2, h3⟩ := h
  have hl := frameN_len xs
  have q1 : G.take 4 = layN xs.length 4 := by
    have : (G.take 8).take 4 = ((frameN xs).take 8).take 4 := by rw [h2]
    rw [List.take_take, List.take_take] at this
    exact this.trans p1
  have q2 : (G.drop 4).take 4 = layN (longN (layN xs.length 4 ++ xs)) 4 := by
    have : (G.take 8).drop 4 = ((frameN xs).take 8).drop 4 := by rw [h2]
    rw [List.drop_take, List.drop_take] at this
    exact this.trans p2
  have hS : nextS G = xs.length := by unfold nextS; rw [q1]; exact take_lay 4 _ (by rw [pow4]; omega)
  have hC : nextC G = G.drop 8 := by unfold nextC; rw [hS, List.take_of_length_le (by simp; omega)]
  have hE : nextE G = if longN (layN xs.length 4 ++ G.drop 8) = longN (layN xs.length 4 ++ xs) then 0 else 3 := by
    unfold nextE
    rw [hS, hC, q1, q2, take_lay 4 _ (by rw [pow4]; exact longN_lt _), if_neg (by omega), if_neg (by omega), if_neg (by omega)]
    split <;> simp_all
  by_cases hs : longN (layN xs.length 4 ++ G.drop 8) = longN (layN xs.length 4 ++ xs)
  · left
    rw [if_pos hs] at hE
    refine ⟨?_, hE⟩
    have hroll : rollN (rollN 4294967295 (layN xs.length 4)) (G.drop 8) = rollN (rollN 4294967295 (layN xs.length 4)) xs := by
      unfold longN at hs
      rw [rollN_append, rollN_append] at hs
      have l1 := rollN_lt (G.drop 8) _ (rollN_lt (layN xs.length 4) 4294967295 (by decide))
      have l2 := rollN_lt xs _ (rollN_lt (layN xs.length 4) 4294967295 (by decide))
      omega
    generalize rollN 4294967295 (layN xs.length 4) = r0 at hroll
    rw [rollN_bits, rollN_bits] at hroll
    have hlen : (G.drop 8).length = xs.length := by simp; omega
    rw [p3] at h3
    have hbits := burst (bitsN (G.drop 8)) (bitsN xs) a _ (by rw [bitsN_len, bitsN_len, hlen]) (bitsN_01 _) (bitsN_01 _) (fun i hi => by
      by_cases hi8 : i < 8 * xs.length
      · rw [bitsN_get _ _ (by omega), bitsN_get _ _ hi8, h3 i hi]
      · rw [List.getElem?_eq_none (by rw [bitsN_len]; omega), List.getElem?_eq_none (by rw [bitsN_len]; omega)]) hroll
    have hd : G.drop 8 = xs := bytes_ext _ _ hlen (fun i hi => by
      have h4 := bitsN_get (G.drop 8) i hi
      have h5 := bitsN_get xs i (by omega)
      rw [hbits, h5] at h4
      simpa using h4.symm)
    have hG : G.take 8 ++ G.drop 8 = (frameN xs).take 8 ++ (frameN xs).drop 8 := by rw [h2, hd, p3]
    rw [List.take_append_drop, List.take_append_drop] at hG
    exact hG
  · right
    rw [if_neg hs] at hE
    refine ⟨fun e => hs ?_, hE⟩
    rw [e, p3]

/-- one bit turned, inside the window's next place -/
theorem Near.turn {F G : List UInt8} {a k : Nat} (h : Near F G a k) (hi : 8 + (a + k) / 8 < G.length) (x : UInt8) (hx : ∀ b, b ≠ (a + k) % 8 → x.toNat / 2 ^ b % 2 = (G[8 + (a + k) / 8]).toNat / 2 ^ b % 2) :
    Near F (G.set (8 + (a + k) / 8) x) a (k + 1) := by
  obtain ⟨h1, h2, h3⟩ := h
  refine ⟨by simp [h1], ?_, ?_⟩
  · rw [List.take_set_of_le (by omega)]; exact h2
  · intro i hi'
    rw [← h3 i (by omega)]
    unfold bitAt
    rw [List.getElem?_drop, List.getElem?_drop, List.getElem?_set]
    by_cases he : 8 + (a + k) / 8 = 8 + i / 8
    · rw [if_pos he, if_pos hi]
      have hb : i % 8 ≠ (a + k) % 8 := by omega
      have := hx (i % 8) hb
      simp only [Option.getD_some]
      rw [this]
      have hi2 : 8 + i / 8 < G.length := by omega
      rw [List.getElem?_eq_getElem hi2]
      simp only [Option.getD_some]
      congr 3
      simp [he]
    · rw [if_neg he]

end Go.Proofs.Ytodpafiecmipkaa
