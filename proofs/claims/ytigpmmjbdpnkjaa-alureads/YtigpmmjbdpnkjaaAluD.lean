/- Bytes that are turned. No law is claimed here. -/
import Derived.Test.YtigpmmjbdpnkjaaAluB
import Derived.Test.YtigpmmjbdpnkjaaAlu8
namespace Go.Proofs.Ytigpmmjbdpnkjaa
open Go.RowKit

theorem v_fl_fl (p b : BitVec 8) (x y : Bool) : (if y then ((if x then (p &&& ~~~ b) ||| b else p &&& ~~~ b) &&& ~~~ b) ||| b else (if x then (p &&& ~~~ b) ||| b else p &&& ~~~ b) &&& ~~~ b) = if y then (p &&& ~~~ b) ||| b else p &&& ~~~ b := by
  cases x <;> cases y <;> simp <;> ext i hi <;> simp <;> cases p[i] <;> cases b[i] <;> simp
theorem fl_eq (p b : Int) (on : Bool) : fl p b on = ((if on then (bv8 p &&& ~~~ bv8 b) ||| bv8 b else bv8 p &&& ~~~ bv8 b).toNat : Int) := by
  rw [← bv8_fl, nat_bv8 _ (fl_u8 _ _ _)]
theorem fl_fl (p b : Int) (x y : Bool) : fl (fl p b x) b y = fl p b y := by
  rw [fl_eq, bv8_fl, v_fl_fl, ← fl_eq]
theorem v_comm (p b g : BitVec 8) (x y : Bool) (h : b &&& g = 0#8) : (if y then ((if x then (p &&& ~~~ b) ||| b else p &&& ~~~ b) &&& ~~~ g) ||| g else (if x then (p &&& ~~~ b) ||| b else p &&& ~~~ b) &&& ~~~ g) =
    (if x then ((if y then (p &&& ~~~ g) ||| g else p &&& ~~~ g) &&& ~~~ b) ||| b else (if y then (p &&& ~~~ g) ||| g else p &&& ~~~ g) &&& ~~~ b) := by
  have H : ∀ i, (hi : i < 8) → (b[i] && g[i]) = false := fun i hi => by
    have := congrArg (·[i]) h
    simpa using this
  cases x <;> cases y <;> simp only [if_true, if_false, Bool.false_eq_true] <;> (ext i hi; have := H i hi; revert this; simp only [BitVec.getElem_or, BitVec.getElem_and, BitVec.getElem_not]; cases p[i] <;> cases b[i] <;> cases g[i] <;> simp)
theorem fl_comm (p b g : Int) (x y : Bool) (h : bv8 b &&& bv8 g = 0#8) : fl (fl p b x) g y = fl (fl p g y) b x := by
  rw [fl_eq, bv8_fl, v_comm _ _ _ _ _ h, fl_eq (fl p g y), bv8_fl]

/-- carry, sign and zero -/
def sgn (p : Int) (c : Bool) (m : Int) : Int := fl (fl (fl p 1 c) 128 (decide (128 ≤ m))) 2 (m == 0)
theorem sgn_sgn (p : Int) (c c' : Bool) (m m' : Int) : sgn (sgn p c m) c' m' = sgn p c' m' := by
  unfold sgn
  rw [fl_comm _ 2 1 _ _ rfl, fl_comm _ 128 1 _ _ rfl, fl_fl, fl_comm _ 2 128 _ _ rfl, fl_fl, fl_fl]
theorem sgn_carry (p : Int) (c : Bool) (m : Int) : bits .and .u8 (sgn p c m) 1 = if c then 1 else 0 := by
  unfold sgn
  rw [fl_and_other _ _ _ _ rfl, fl_and_other _ _ _ _ rfl, fl_and _ _ _ (by omega)]

theorem or_left : ∀ (m : Fin 256) (c : Fin 2), bits .or .u8 (shlU (m.val : Int) 1) (c.val : Int) = 2 * (m.val : Int) % 256 + c.val := by decide +kernel
theorem or_right : ∀ (m : Fin 256) (c : Fin 2), bits .or .u8 (shrU (m.val : Int) 1) (shlU (c.val : Int) 7) = (m.val : Int) / 2 + 128 * c.val := by decide +kernel
theorem left_in (u : Un) (m c : Int) (hm : 0 ≤ m ∧ m < 256) (hc : 0 ≤ c ∧ c < 2) : leftU u m c = ({ u with p := sgn u.p (decide (128 ≤ m)) (2 * m % 256 + c) }, 2 * m % 256 + c) := by
  have h1 : bits .or .u8 (shlU m 1) c = 2 * m % 256 + c := by
    obtain ⟨k, rfl⟩ : ∃ k : Nat, m = (k : Int) := ⟨m.toNat, by omega⟩
    obtain ⟨d, rfl⟩ : ∃ d : Nat, c = (d : Int) := ⟨c.toNat, by omega⟩
    exact or_left ⟨k, by omega⟩ ⟨d, by omega⟩
  have h2 : (bits .and .u8 m 128 != 0) = decide (128 ≤ m) := by
    rw [top_bit m hm]
    by_cases h : 128 ≤ m
    · rw [if_pos h, decide_eq_true h]; rfl
    · rw [if_neg h, decide_eq_false h]; rfl
  unfold leftU
  rw [h1, h2]
  rfl
theorem right_in (u : Un) (m c : Int) (hm : 0 ≤ m ∧ m < 256) (hc : 0 ≤ c ∧ c < 2) : rightU u m c = ({ u with p := sgn u.p (decide (m % 2 = 1)) (m / 2 + 128 * c) }, m / 2 + 128 * c) := by
  have h1 : bits .or .u8 (shrU m 1) (shlU c 7) = m / 2 + 128 * c := by
    obtain ⟨k, rfl⟩ : ∃ k : Nat, m = (k : Int) := ⟨m.toNat, by omega⟩
    obtain ⟨d, rfl⟩ : ∃ d : Nat, c = (d : Int) := ⟨c.toNat, by omega⟩
    exact or_right ⟨k, by omega⟩ ⟨d, by omega⟩
  have h2 : (bits .and .u8 m 1 != 0) = decide (m % 2 = 1) := by
    rw [low_bit m hm]
    by_cases h : m % 2 = 1
    · rw [h, decide_eq_true rfl]; rfl
    · have : m % 2 = 0 := by omega
      rw [this]; rfl
  unfold rightU
  rw [h1, h2]
  rfl

/-- turned k times to the left -/
def rolK (u : Un) (m : Int) : Nat → Un × Int
  | 0 => (u, m)
  | k + 1 => leftU (rolK u m k).1 (rolK u m k).2 (bits .and .u8 (rolK u m k).1.p 1)
/-- nine bits in a round -/
def ring (m c : Int) : Nat → Int × Int
  | 0 => (m, c)
  | k + 1 => (2 * (ring m c k).1 % 256 + (ring m c k).2, (ring m c k).1 / 128)
theorem ring_in (m c : Int) (hm : 0 ≤ m ∧ m < 256) (hc : 0 ≤ c ∧ c < 2) (k : Nat) : (0 ≤ (ring m c k).1 ∧ (ring m c k).1 < 256) ∧ (0 ≤ (ring m c k).2 ∧ (ring m c k).2 < 2) := by
  induction k with
  | zero => exact ⟨hm, hc⟩
  | succ k ih =>
    obtain ⟨h1, h2⟩ := ih
    show (0 ≤ 2 * (ring m c k).1 % 256 + (ring m c k).2 ∧ _) ∧ (0 ≤ (ring m c k).1 / 128 ∧ _)
    show (0 ≤ 2 * (ring m c k).1 % 256 + (ring m c k).2 ∧ 2 * (ring m c k).1 % 256 + (ring m c k).2 < 256) ∧ (0 ≤ (ring m c k).1 / 128 ∧ (ring m c k).1 / 128 < 2)
    generalize (ring m c k).1 = a at *
    generalize (ring m c k).2 = b at *
    omega
theorem ring_nine : ∀ (m : Fin 256) (c : Fin 2), ring (m.val : Int) (c.val : Int) 9 = ((m.val : Int), (c.val : Int)) := by decide +kernel

theorem rolK_in (u : Un) (m : Int) (hm : 0 ≤ m ∧ m < 256) (hp : 0 ≤ u.p ∧ u.p < 256) (k : Nat) :
    rolK u m (k + 1) = ({ u with p := sgn u.p (decide (128 ≤ (ring m (u.p % 2) k).1)) (ring m (u.p % 2) (k + 1)).1 }, (ring m (u.p % 2) (k + 1)).1) := by
  induction k with
  | zero =>
    show leftU u m (bits .and .u8 u.p 1) = _
    rw [low_bit u.p hp, left_in u m _ hm (by omega)]
    rfl
  | succ k ih =>
    show leftU (rolK u m (k + 1)).1 (rolK u m (k + 1)).2 (bits .and .u8 (rolK u m (k + 1)).1.p 1) = _
    rw [ih]
    simp only []
    obtain ⟨h1, h2⟩ := ring_in m (u.p % 2) hm (by omega) (k + 1)
    obtain ⟨h3, h4⟩ := ring_in m (u.p % 2) hm (by omega) k
    rw [sgn_carry]
    have e : (if decide (128 ≤ (ring m (u.p % 2) k).1) = true then (1 : Int) else 0) = (ring m (u.p % 2) (k + 1)).2 := by
      show _ = (ring m (u.p % 2) k).1 / 128
      generalize (ring m (u.p % 2) k).1 = a at *
      by_cases h : 128 ≤ a
      · rw [if_pos (decide_eq_true h)]; omega
      · rw [if_neg (by simpa using h)]; omega
    rw [e, left_in _ _ _ h1 h2]
    simp only [sgn_sgn]
    rfl
theorem rol_nine (u : Un) (m : Int) (hm : 0 ≤ m ∧ m < 256) (hp : 0 ≤ u.p ∧ u.p < 256) : rolK u m 9 = ({ u with p := sgn u.p (decide (u.p % 2 = 1)) m }, m) := by
  have h9 : ring m (u.p % 2) 9 = (m, u.p % 2) := by
    have hc : 0 ≤ u.p % 2 ∧ u.p % 2 < 2 := by omega
    generalize u.p % 2 = c at *
    obtain ⟨k, rfl⟩ : ∃ k : Nat, m = (k : Int) := ⟨m.toNat, by omega⟩
    obtain ⟨d, rfl⟩ : ∃ d : Nat, c = (d : Int) := ⟨c.toNat, by omega⟩
    exact ring_nine ⟨k, by omega⟩ ⟨d, by omega⟩
  rw [rolK_in u m hm hp 8, h9]
  have h8 : (ring m (u.p % 2) 8).1 / 128 = u.p % 2 := congrArg Prod.snd h9
  have hr := (ring_in m (u.p % 2) hm (by omega) 8).1
  have e : decide (128 ≤ (ring m (u.p % 2) 8).1) = decide (u.p % 2 = 1) := by
    generalize (ring m (u.p % 2) 8).1 = a at *
    by_cases h : 128 ≤ a
    · rw [decide_eq_true h, decide_eq_true (by omega)]
    · rw [decide_eq_false h, decide_eq_false (by omega)]
  rw [e]
theorem rol_ror (u : Un) (m : Int) (hm : 0 ≤ m ∧ m < 256) (hp : 0 ≤ u.p ∧ u.p < 256) :
    rightU (rolK u m 1).1 (rolK u m 1).2 (bits .and .u8 (rolK u m 1).1.p 1) = ({ u with p := sgn u.p (decide (u.p % 2 = 1)) m }, m) := by
  rw [rolK_in u m hm hp 0]
  simp only []
  rw [sgn_carry]
  have e0 : (ring m (u.p % 2) 0).1 = m := rfl
  have e1 : (ring m (u.p % 2) 1).1 = 2 * m % 256 + u.p % 2 := rfl
  rw [e0, e1]
  rw [right_in _ _ _ (by omega) (by split <;> omega)]
  simp only [sgn_sgn]
  have e2 : (2 * m % 256 + u.p % 2) / 2 + 128 * (if decide (128 ≤ m) = true then (1 : Int) else 0) = m := by
    by_cases h : 128 ≤ m
    · rw [if_pos (decide_eq_true h)]; omega
    · rw [if_neg (by simpa using h)]; omega
  have e3 : (2 * m % 256 + u.p % 2) % 2 = u.p % 2 := by omega
  rw [e2, e3]

end Go.Proofs.Ytigpmmjbdpnkjaa
