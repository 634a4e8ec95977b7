/- Contracts of package kotatsuref02: Long, Step, Short, Lay, Take. No law is claimed here. -/
import Derived.Test.YtkgccoghdalniaaRefW
namespace Go.Proofs.Ytkgccoghdalniaa
open Go.RowKit

theorem bitsK_01 (k : Nat) : ∀ b x, x ∈ bitsK k b → x ≤ 1 := by
  induction k with
  | zero => intro b x h; simp [bitsK] at h
  | succ k ih =>
    intro b x h
    simp [bitsK] at h
    rcases h with rfl | h
    · omega
    · exact ih _ _ h
theorem bitsN_01 (xs : List UInt8) (x : Nat) (h : x ∈ bitsN xs) : x ≤ 1 := by
  simp [bitsN] at h
  obtain ⟨y, _, hy⟩ := h
  exact bitsK_01 8 _ _ hy
theorem bitsN_one (b : UInt8) : bitsN [b] = bitsK 8 b.toNat := by simp [bitsN]

theorem xor_u64n (a : Nat) (ha : a < 4294967296) : bits .xor .u64 (a : Int) 3988292384 = ((a ^^^ 3988292384 : Nat) : Int) :=
  xor_uns .u64 rfl a 3988292384 (Nat.lt_trans ha (by decide)) (by decide)

/-- the round of the reference's Long, as the walk writes it -/
theorem lbit_yes (r b : Int) (hr : 0 ≤ r) (hr2 : r < 4294967296) (hb : 0 ≤ b) (h : (r + b) % 2 = 1) : bits .xor .u64 (r / 2) 3988292384 = (lbit r.toNat b.toNat : Int) := by
  have := xor_u64n (r / 2).toNat (by omega)
  rw [Int.toNat_of_nonneg (by omega)] at this
  rw [this]
  unfold lbit
  rw [if_pos (by omega), show (r / 2).toNat = r.toNat / 2 from by omega]
theorem lbit_no (r b : Int) (hr : 0 ≤ r) (hb : 0 ≤ b) (h : ¬ (r + b) % 2 = 1) : r / 2 = (lbit r.toNat b.toNat : Int) := by
  unfold lbit
  rw [if_neg (by omega), Nat.xor_zero]
  omega

set_option maxRecDepth 100000 in
set_option maxHeartbeats 1000000 in
theorem rlong_any (A : Option Addr) (n c B : Nat) (xs : List UInt8) (w : World) (hr : Rd bv w B A n c xs) (hB : B ≤ w.heap.size) (hn : n ≤ 65536) :
    Calls Try.prog 45 #[.slice A n c] w fun e w' => e = .returned (.int .u32 (longN xs : Int)) ∧ Below w.heap.size w w' := by
  have HE : Hid (longN xs = 4294967295 - (bitsN xs).foldl lbit 4294967295) := by unfold longN; rw [rollN_bits]; rfl
  generalize longN xs = L at *
  go_enter Try.func45, Try.ntmps45
  go_wp2_with fail
  refine (rbits_any A n c B xs w hr hB hn).mono ?_
  rintro e w1 ⟨A1, n1, c1, rfl, ho1, hb1⟩
  have HL : Hid ((bitsN xs).length = n1) := Lib.hid (by have := ho1.len; simpa [bitsI] using this)
  have hn1 : n1 ≤ 524288 := by have := ho1.len; rw [bitsI_len, hr.len] at this; omega
  have h01 : Hid (∀ x ∈ bitsN xs, x ≤ 1) := bitsN_01 xs
  have hr1 := ho1.rd
  unfold bitsI at hr1
  generalize bitsN xs = bs at *
  clear ho1
  go_wp2
  go_loop [3, 10] (fun s i => ∃ (k : Nat) (r : Int), k ≤ n1 ∧ i = .int .i64 k ∧ s = .int .u64 r ∧ 0 ≤ r ∧ r < 4294967296 ∧ Hid (r.toNat = (bs.take k).foldl lbit 4294967295)) (fun _ i => n1 - (intOf i).toNat)
  case atStart => exact ⟨0, 4294967295, by omega, rfl, rfl, by omega, by omega, rfl⟩
  case round =>
    obtain ⟨k, r, hk, rfl, rfl, hr0, hr2, hR⟩ := hrel
    by_cases hlt : k < n1
    · have hkb : k < bs.length := by rw [HL.out]; exact hlt
      obtain ⟨b, off, rfl, _, hc⟩ := hr1.at_ k (by simpa using hkb)
      have HS : Hid ((bs.take (k + 1)).foldl lbit 4294967295 = lbit r.toNat bs[k]) := by
        rw [List.take_succ_eq_append_getElem hkb, List.foldl_append, ← hR.out]; rfl
      have hx1 := h01.out bs[k] (List.getElem_mem hkb)
      simp only [List.getElem_map, iv] at hc
      obtain ⟨x, HX, hx0, hx2⟩ : ∃ x : Int, Hid (bs[k] = x.toNat) ∧ 0 ≤ x ∧ x ≤ 1 := ⟨bs[k], rfl, by omega, by omega⟩
      have eX : Int.ofNat bs[k] = x := by have := HX.out; rw [this]; show ((x.toNat : Nat) : Int) = x; omega
      rw [eX] at hc
      have HS' : Hid ((bs.take (k + 1)).foldl lbit 4294967295 = lbit r.toNat x.toNat) := by rw [← HX.out]; exact HS.out
      clear HS HX eX hx1
      have hl := lbit_lt r.toNat x.toNat (by omega)
      by_cases h1 : (r + x) % 2 = 1
      · have h1' : ((r + x) % 2 == 1) = true := by simp [h1]
        have HY := Lib.hid (lbit_yes r x hr0 hr2 hx0 h1)
        clear h1
        generalize lbit r.toNat x.toNat = y at *
        have HY2 : Hid (y < 4294967296) := hl
        clear hl
        go_wp2
        rw [HY.out]
        go_round
        case rel => exact ⟨k + 1, (y : Nat), by omega, by go_num, rfl, by omega, by have := HY2.out; omega, HS'.out.symm⟩
        case measure => simp [intOf]; omega
      · have h1' : ((r + x) % 2 == 1) = false := by simp [h1]
        have HY := Lib.hid (lbit_no r x hr0 hx0 h1)
        clear h1
        generalize lbit r.toNat x.toNat = y at *
        have HY2 : Hid (y < 4294967296) := hl
        clear hl
        go_wp2
        rw [HY.out]
        go_round
        case rel => exact ⟨k + 1, (y : Nat), by omega, by go_num, rfl, by omega, by have := HY2.out; omega, HS'.out.symm⟩
        case measure => simp [intOf]; omega
    · have e := hR.out
      rw [List.take_of_length_le (by rw [HL.out]; omega)] at e
      have HF : Hid ((L : Int) = 4294967295 - r) := by have := HE.out; show _ = _; omega
      clear e HE
      go_wp2
      go_ret
      rw [HF.out]
      exact ⟨rfl, hb1⟩

theorem sbit_yes (r x : Int) (hr : 0 ≤ r) (hr2 : r < 65536) (hx : 0 ≤ x) (hx1 : x ≤ 1) (h : r % 2 = 1) : bits .xor .i64 (r / 2 + 32768 * x) 33800 = (sbit r.toNat x.toNat : Int) := by
  have := xor_i64 (r.toNat / 2 + x.toNat * 32768) 33800 (Nat.lt_trans (m := 131072) (by omega) (by decide)) (by decide)
  rw [show r / 2 + 32768 * x = ((r.toNat / 2 + x.toNat * 32768 : Nat) : Int) from by omega]
  refine this.trans ?_
  unfold sbit
  rw [if_pos (by omega)]
theorem sbit_no (r x : Int) (hr : 0 ≤ r) (hx : 0 ≤ x) (h : ¬ r % 2 = 1) : r / 2 + 32768 * x = (sbit r.toNat x.toNat : Int) := by
  unfold sbit
  rw [if_neg (by omega), Nat.xor_zero]
  omega

/-- Lay, Take on Nat -/
def layN : Nat → Nat → List UInt8
  | _, 0 => []
  | n, k + 1 => UInt8.ofNat (n % 256) :: layN (n / 256) k
def takeN : List UInt8 → Nat
  | [] => 0
  | x :: xs => x.toNat + 256 * takeN xs
theorem layN_len (k : Nat) : ∀ n, (layN n k).length = k := by
  induction k with
  | zero => intro n; rfl
  | succ k ih => intro n; simp [layN, ih]
theorem takeN_lt (xs : List UInt8) : takeN xs < 256 ^ xs.length := by
  induction xs with
  | nil => simp [takeN]
  | cons x xs ih =>
    have := x.toNat_lt
    simp only [takeN, List.length_cons, Nat.pow_succ]
    omega
theorem take_lay (k : Nat) : ∀ n, n < 256 ^ k → takeN (layN n k) = n := by
  induction k with
  | zero => intro n h; simp at h; subst h; rfl
  | succ k ih =>
    intro n h
    have h1 : (UInt8.ofNat (n % 256)).toNat = n % 256 := by rw [UInt8.toNat_ofNat']; omega
    simp only [layN, takeN, h1]
    rw [ih (n / 256) (by rw [Nat.pow_succ] at h; omega)]
    omega
theorem lay_take (xs : List UInt8) : layN (takeN xs) xs.length = xs := by
  induction xs with
  | nil => rfl
  | cons x xs ih =>
    have h := x.toNat_lt
    simp only [takeN, List.length_cons, layN]
    have e1 : (x.toNat + 256 * takeN xs) % 256 = x.toNat := by omega
    have e2 : (x.toNat + 256 * takeN xs) / 256 = takeN xs := by omega
    rw [e1, e2, ih, UInt8.ofNat_toNat]

def LaysTo (j k m : Nat) (done full : List UInt8) : Prop := done ++ layN m (k - j) = full
theorem LaysTo.next {j k m : Nat} {done full : List UInt8} (h : LaysTo j k m done full) (hj : j < k) : LaysTo (j + 1) k (m / 256) (done ++ [UInt8.ofNat (m % 256)]) full := by
  unfold LaysTo at *
  rw [show k - j = (k - (j + 1)) + 1 from by omega] at h
  rw [← h]
  simp [layN]
theorem LaysTo.done {j k m : Nat} {done full : List UInt8} (h : LaysTo j k m done full) (hj : ¬ j < k) : done = full := by
  unfold LaysTo at *
  rw [show k - j = 0 from by omega] at h
  simpa [layN] using h

end Go.Proofs.Ytkgccoghdalniaa
